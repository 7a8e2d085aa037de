/-
  What a table of layer 14 answers that New did not make; Entries and Copy of one that it made, which turn nothing. No condition.
-/
import Derived.Test.YtnkoiageoenfeaaAdcLP
namespace Go.Proofs.Ytnkoiageoenfeaa
set_option maxRecDepth 100000
set_option linter.unusedVariables false
open Go.RowKit

/-- No table, or one of zeros. -/
def NoT (w : World) (p : Option Addr) : Prop := p = none ∨ ∃ z, p = some ⟨z, 0, none⟩ ∧ w.cell? ⟨z, 0, none⟩ = some (.bool false) ∧ z < w.heap.size
theorem NoT.below {w w' : World} {p : Option Addr} (h : NoT w p) (hb : Below w.heap.size w w') : NoT w' p := by
  rcases h with rfl | ⟨z, rfl, hc, hz⟩
  · exact .inl rfl
  · exact .inr ⟨z, rfl, by rw [hb.cell (p := ⟨z, 0, none⟩) hz]; exact hc, Nat.lt_of_lt_of_le hz hb.size⟩
theorem made14_not {w : World} {p : Option Addr} (h : NoT w p) : Calls Try.prog 36 #[.pointer p] w fun e w' => e = .returned (.bool false) ∧ w' = w := by
  rcases h with rfl | ⟨z, rfl, hc, _⟩
  · exact made14_nil w
  · exact made14_calls z false w hc
theorem admit14_not {w : World} {p : Option Addr} (h : NoT w p) (k : Ky) (v : Wn) : Calls Try.prog 19 #[.pointer p, .agg #[.int .i64 k.tail, .int .i64 k.tun, .int .i64 k.head, .int .i64 k.lsp], .agg #[.int .u64 (v.bw : Int), .int .i64 v.su, .int .i64 v.ho, .int .u32 (v.an : Int), .int .u32 (v.al : Int), .int .u32 (v.no : Int)]] w fun e w' => e = .returned (.tuple #[.slice none 0 0, .int .i64 1]) ∧ Below w.heap.size w w' := by
  have hl : Below w.heap.size w ((w.alloc (.cells #[.int .i64 k.tail, .int .i64 k.tun, .int .i64 k.head, .int .i64 k.lsp] 23)).alloc (.cells #[.int .u64 (v.bw : Int), .int .i64 v.su, .int .i64 v.ho, .int .u32 (v.an : Int), .int .u32 (v.al : Int), .int .u32 (v.no : Int)] 33)) := bel_new (bel_new (Below.refl _ _) _) _
  have HL := Lib.hid hl
  have HM := Lib.hid (made14_not (h.below hl))
  clear hl h
  go_enter Try.func19, Try.ntmps19
  go_upto_region 1 with fail
  generalize ((w.alloc (.cells #[.int .i64 k.tail, .int .i64 k.tun, .int .i64 k.head, .int .i64 k.lsp] 23)).alloc (.cells #[.int .u64 (v.bw : Int), .int .i64 v.su, .int .i64 v.ho, .int .u32 (v.an : Int), .int .u32 (v.al : Int), .int .u32 (v.no : Int)] 33)) = w1 at *
  go_wp2_with fail
  ((with_reducible refine HM.out.mono ?_))
  rintro e w2 ⟨rfl, h9⟩
  rw [h9]
  clear h9 w2 HM
  go_wp2_with fail
  refine bodyPost_ret (v := .tuple #[.slice none 0 0, .int .i64 1]) (by simp [results, Try.results19, go_sem]) rfl ?_
  exact ⟨rfl, HL.out⟩
theorem drop14_not {w : World} {p : Option Addr} (h : NoT w p) (k : Ky) : Calls Try.prog 18 #[.pointer p, .agg #[.int .i64 k.tail, .int .i64 k.tun, .int .i64 k.head, .int .i64 k.lsp]] w fun e w' => e = .returned (.int .i64 1) ∧ Below w.heap.size w w' := by
  have hl : Below w.heap.size w (w.alloc (.cells #[.int .i64 k.tail, .int .i64 k.tun, .int .i64 k.head, .int .i64 k.lsp] 23)) := bel_new (Below.refl _ _) _
  have HL := Lib.hid hl
  have HM := Lib.hid (made14_not (h.below hl))
  clear hl h
  go_enter Try.func18, Try.ntmps18
  go_upto_region 1 with fail
  generalize (w.alloc (.cells #[.int .i64 k.tail, .int .i64 k.tun, .int .i64 k.head, .int .i64 k.lsp] 23)) = w1 at *
  go_wp2_with fail
  ((with_reducible refine HM.out.mono ?_))
  rintro e w2 ⟨rfl, h9⟩
  rw [h9]
  clear h9 w2 HM
  go_wp2_with fail
  go_ret
  exact ⟨rfl, HL.out⟩
theorem entries14_not {w : World} {p : Option Addr} (h : NoT w p) : Calls Try.prog 26 #[.pointer p] w fun e w' => e = .returned (.slice none 0 0) ∧ Below w.heap.size w w' := by
  have HL := Lib.hid (Below.refl w.heap.size w)
  have HM := Lib.hid (made14_not h)
  clear h
  go_enter Try.func26, Try.ntmps26
  go_wp2_with fail
  ((with_reducible refine HM.out.mono ?_))
  rintro e w2 ⟨rfl, h9⟩
  rw [h9]
  clear h9 w2 HM
  go_wp2_with fail
  go_ret
  exact ⟨rfl, HL.out⟩
theorem copy14_not {w : World} {p : Option Addr} (h : NoT w p) : Calls Try.prog 32 #[.pointer p] w fun e w' => e = .returned (.pointer none) ∧ Below w.heap.size w w' := by
  have HL := Lib.hid (Below.refl w.heap.size w)
  have HM := Lib.hid (made14_not h)
  clear h
  go_enter Try.func32, Try.ntmps32
  go_wp2_with fail
  ((with_reducible refine HM.out.mono ?_))
  rintro e w2 ⟨rfl, h9⟩
  rw [h9]
  clear h9 w2 HM
  go_wp2_with fail
  go_ret
  exact ⟨rfl, HL.out⟩
theorem ledger14_not {w : World} {p : Option Addr} (h : NoT w p) : Calls Try.prog 22 #[.pointer p] w fun e w' => e = .returned (.agg #[.int .u64 0, .int .u64 0, .int .u64 0, .int .u64 0, .int .u64 0, .int .u64 0, .int .u64 0, .int .u64 0, .int .u64 0]) ∧ Below w.heap.size w w' := by
  have hl : Below w.heap.size w (w.alloc (.cells #[.int .u64 0, .int .u64 0, .int .u64 0, .int .u64 0, .int .u64 0, .int .u64 0, .int .u64 0, .int .u64 0, .int .u64 0] 48)) := bel_new (Below.refl _ _) _
  have HL := Lib.hid hl
  have HM := Lib.hid (made14_not (h.below hl))
  have R1 := Lib.hid (show Blk (w.alloc (.cells #[.int .u64 0, .int .u64 0, .int .u64 0, .int .u64 0, .int .u64 0, .int .u64 0, .int .u64 0, .int .u64 0, .int .u64 0] 48)) w.heap.size 48 [.int .u64 0, .int .u64 0, .int .u64 0, .int .u64 0, .int .u64 0, .int .u64 0, .int .u64 0, .int .u64 0, .int .u64 0] from Blk.new w _ _)
  have hz : (Try.prog.info? 48).map (·.size) = some ([.int .u64 0, .int .u64 0, .int .u64 0, .int .u64 0, .int .u64 0, .int .u64 0, .int .u64 0, .int .u64 0, .int .u64 0] : List Value).length := infoLedgL
  have HZ := Lib.hid hz
  have HZ1 := Lib.hid (show ∀ u ∈ ([.int .u64 0, .int .u64 0, .int .u64 0, .int .u64 0, .int .u64 0, .int .u64 0, .int .u64 0, .int .u64 0, .int .u64 0] : List Value), u.oneCell' = true from lgc_one lz)
  clear hl h hz
  go_enter Try.func22, Try.ntmps22
  go_upto_region 1 with fail
  generalize w.alloc (.cells #[.int .u64 0, .int .u64 0, .int .u64 0, .int .u64 0, .int .u64 0, .int .u64 0, .int .u64 0, .int .u64 0, .int .u64 0] 48) = w1 at *
  go_wp2_with fail
  ((with_reducible refine HM.out.mono ?_))
  rintro e w2 ⟨rfl, h9⟩
  rw [h9]
  clear h9 w2 HM
  go_wp2_with ((with_reducible refine step_store (o := ⟨none, _, _, _, _, _⟩) (vs := [.int .u64 0, .int .u64 0, .int .u64 0, .int .u64 0, .int .u64 0, .int .u64 0, .int .u64 0, .int .u64 0, .int .u64 0]) (ty := 48) (x := .tmp 2) (y := .tmp 8) ?_ ?_ ?_ ?_ R1.out HZ.out rfl HZ1.out ?_); (rfl); (rfl); (rfl); (rfl); intro w4 hb5 hg5 hs5)
  refine bodyPost_ret (v := .agg #[.int .u64 0, .int .u64 0, .int .u64 0, .int .u64 0, .int .u64 0, .int .u64 0, .int .u64 0, .int .u64 0, .int .u64 0]) (results_one8 rfl _ rfl hb5 Try.underlying48 rfl HZ.out) rfl ?_
  exact ⟨rfl, bel_upd HL.out hg5 (Nat.le_refl _) (by omega)⟩
theorem entries14_below (q sz : Nat) (l : List Et) (S : List Nat) (w : World) (h : TabC w q sz l S) :
    Calls Try.prog 26 #[.pointer (some ⟨q, 0, none⟩)] w fun e w' => ∃ A2 c2, e = .returned (.slice A2 l.length c2) ∧ AccR ent 10 w' w.heap.size 63 A2 c2 l ∧ Below w.heap.size w w' := by
  obtain ⟨A, c, ht⟩ := h
  have HT := Lib.hid ht
  have hmade := made14_calls q true w (ht.blk.cell 0)
  have t2 : w.cell? ⟨q, 2, none⟩ = some (.slice A l.length c) := ht.blk.cell 2
  have HC := Lib.hid (clone14_calls A l.length c l w ht.row (by have := ht.tbl.len; omega))
  obtain ⟨N, hN⟩ : ∃ N, l.length = N := ⟨_, rfl⟩
  have HN := Lib.hid hN
  rw [hN] at t2 HC
  clear ht hN
  go_enter Try.func26, Try.ntmps26
  go_wp2_with fail
  ((with_reducible refine hmade.mono ?_))
  rintro e w2 ⟨rfl, h9⟩
  rw [h9]
  clear h9 w2 hmade
  go_wp2_with fail
  ((with_reducible refine HC.out.mono ?_))
  rintro e w2 ⟨A2, c2, rfl, hacc, hb⟩
  have AC := Lib.hid hacc
  have HB := Lib.hid hb
  clear hacc hb HC
  go_wp2_with fail
  go_ret
  exact ⟨A2, c2, by rw [HN.out]; rfl, AC.out, HB.out⟩
set_option maxHeartbeats 3200000 in
theorem copy14_below (q sz : Nat) (l : List Et) (S : List Nat) (w : World) (h : TabC w q sz l S) :
    Calls Try.prog 32 #[.pointer (some ⟨q, 0, none⟩)] w fun e w' => ∃ q2 S2, e = .returned (.pointer (some ⟨q2, 0, none⟩)) ∧ TabC w' q2 sz l S2 ∧ (∀ b ∈ S2, w.heap.size ≤ b) ∧ Below w.heap.size w w' := by
  obtain ⟨A, c, ht⟩ := h
  have HT := Lib.hid ht
  have hmade := made14_calls q true w (ht.blk.cell 0)
  have HC := Lib.hid (clone14_calls A l.length c l w.drew ht.row.drewS (by have := ht.tbl.len; omega))
  obtain ⟨N, hN⟩ : ∃ N, l.length = N := ⟨_, rfl⟩
  have HN := Lib.hid hN
  rw [hN] at HC
  clear ht hN
  go_enter Try.func32, Try.ntmps32
  go_wp2_with fail
  ((with_reducible refine hmade.mono ?_))
  rintro e w2 ⟨rfl, h9⟩
  rw [h9]
  clear h9 w2 hmade
  go_wp2_with fail
  refine region_seq (fun W => Below w.heap.size w W) [(0, true), (1, true), (2, true), (3, true), (4, true), (5, true), (6, true), (7, true), (8, false), (9, true), (10, false), (11, true)]
    (by kernel_rfl) (by kernel_rfl) (by kernel_rfl) (by kernel_rfl) (fun _ _ _ _ _ h => h) (Below.refl _ _).drew ?_
  repeat
    refine seq_pure (v := ?_) rfl (by rfl) (fun W hW => ?_) ?_
    rotate_left
    · have t1 : W.cell? ⟨q, 1, none⟩ = some (.int .u64 (sz : Int)) := (HT.out.blk.below hW).cell 1
      have t2 : W.cell? ⟨q, 2, none⟩ = some (.slice A N c) := by rw [← HN.out]; exact (HT.out.blk.below hW).cell 2
      clear hW
      go_simp
      try with_reducible rfl
    simp only [Act.put, List.setIfInBounds_toArray, List.set_cons_zero, List.set_cons_succ]
  refine seq_make rfl (by rfl) (fun K hK => ?_)
  go_simp
  ((with_reducible refine HC.out.mono ?_))
  rintro e w2 ⟨A2, c2, rfl, hacc, hb⟩
  have AC := Lib.hid (show AccR ent 10 w2 w.heap.size 63 A2 c2 l from hacc)
  have HB := Lib.hid (show Below w.heap.size w w2 from below_of_drew hb)
  clear hacc hb HC
  go_simp
  refine hK _ _ (fun W => Below w.heap.size w W) (fun W h => h) HB.out ?_
  clear hK K
  repeat
    refine seq_pure (v := ?_) rfl (by rfl) (fun W hW => ?_) ?_
    rotate_left
    · clear hW
      go_simp
      try with_reducible rfl
    simp only [Act.put, List.setIfInBounds_toArray, List.set_cons_zero, List.set_cons_succ]
  refine seq_make rfl (by rfl) (fun K hK => ?_)
  go_simp
  have hb3 : Blk (w2.alloc (.cells #[.bool true, .int .u64 (sz : Int), .slice A2 N c2] 69)) w2.heap.size 69 (tbc sz A2 N c2) := Blk.new w2 _ _
  have ha3 := AC.out.alloc (.cells #[.bool true, .int .u64 (sz : Int), .slice A2 N c2] 69)
  have hl3 := bel_new HB.out (.cells #[.bool true, .int .u64 (sz : Int), .slice A2 N c2] 69)
  generalize w2.alloc (.cells #[.bool true, .int .u64 (sz : Int), .slice A2 N c2] 69) = w3 at *
  refine hK _ _ (fun W => Below w.heap.size w W) (fun W h => h) hl3 ?_
  have B3 := Lib.hid hb3
  have A3 := Lib.hid ha3
  have L3 := Lib.hid hl3
  have Q3 := Lib.hid HB.out.size
  have HNE := Lib.hid (show ∀ g, blk A2 = some g → g ≠ w2.heap.size from fun g hg => by have := (AC.out.ge hg).2; omega)
  have HGE := Lib.hid (show ∀ g, blk A2 = some g → w.heap.size ≤ g from fun g hg => (AC.out.ge hg).1)
  clear hK K hb3 ha3 hl3
  generalize w2.heap.size = q2 at *
  repeat
    refine seq_pure (v := ?_) rfl (by rfl) (fun W hW => ?_) ?_
    rotate_left
    · clear hW
      go_simp
      try with_reducible rfl
    simp only [Act.put, List.setIfInBounds_toArray, List.set_cons_zero, List.set_cons_succ]
  refine seq_done ?_
  go_wp2_with fail
  go_ret
  have hown : ∀ b ∈ q2 :: (blk A2).toList, w.heap.size ≤ b := fun b hb => by
    rcases List.mem_cons.1 hb with rfl | hb
    · exact Q3.out
    · exact HGE.out b (by simpa using hb)
  exact ⟨q2, q2 :: (blk A2).toList, rfl, ⟨A2, c2, ⟨by rw [HN.out]; exact B3.out, A3.out.lower (Nat.zero_le _), HNE.out, rfl, HT.out.tbl, HT.out.bw, HT.out.sz⟩⟩, hown, L3.out⟩
/-- A table that was set aside, and what it held then. -/
structure OT where
  q : Nat
  l : List Et
  s : List Nat
  a : Option Addr
  n : Nat
  c : Nat
def ptc (t : OT) : List Value := [.pointer (some ⟨t.q, 0, none⟩)]
def slc (t : OT) : List Value := [.slice t.a t.n t.c]
theorem ptc_length (t : OT) : (ptc t).length = 1 := rfl
theorem slc_length (t : OT) : (slc t).length = 1 := rfl
theorem ptc_one (t : OT) : ∀ u ∈ ptc t, u.oneCell' = true := by intro u hu; simp [ptc] at hu; subst hu; rfl
theorem slc_one (t : OT) : ∀ u ∈ slc t, u.oneCell' = true := by intro u hu; simp [slc] at hu; subst hu; rfl
theorem infoPtN : (Try.prog.info? 28).map (fun i => (i.zero, i.size, i.bytes)) = some (some (.pointer none), 1, 8) := by kernel_rfl
theorem infoSlN : (Try.prog.info? 55).map (fun i => (i.zero, i.size, i.bytes)) = some (some (.slice none 0 0), 1, 24) := by kernel_rfl
theorem sizeActN : (Try.prog.info? 35).map (·.size) = some 12 := by kernel_rfl
/-- A row of another type is none of a table's blocks. -/
theorem tab_apart {α : Type} {enc : α → List Value} {k base c q sz : Nat} {W : World} {T : TypeId} {A : Option Addr} {xs : List α} {l : List Et} {S : List Nat} (h : TabC W q sz l S) (ha : AccR enc k W base T A c xs) (h1 : T ≠ 69) (h2 : T ≠ 63) : ∀ g, blk A = some g → g ∉ S := by
  obtain ⟨A', c', ht⟩ := h
  intro g hg hS
  rw [ht.own] at hS
  rcases List.mem_cons.1 hS with e | hS
  · exact accr_ne14 ha ht.blk h1 g hg e
  · exact accr_apart ha ht.acc h2 g hg (by simpa using hS)
/-- A table at work, and those that were set aside. -/
structure NC (w W : World) (q : Nat) (l : List Et) (S : List Nat) (os : List OT) : Prop where
  st : St14 TabC w W q 20 l S
  old : ∀ t ∈ os, TabC W t.q 20 t.l t.s ∧ (∀ b ∈ t.s, b ∉ S) ∧ AccR ent 10 W w.heap.size 63 t.a t.c t.l ∧ (∀ g, blk t.a = some g → g ∉ S) ∧ t.l.length = t.n ∧ t.n ≤ 64
section
variable {w W W' : World} {q : Nat} {l l' : List Et} {S S' : List Nat} {os : List OT}
theorem NC.mv (h : NC w W q l S os) (hp : TabC W' q 20 l' S') (hm : Mv14 S W S' W') : NC w W' q l' S' os := by
  have out : ∀ b, b < W.heap.size → b ∉ S → b ∉ S' := fun b hb hn hS => by
    rcases hm.own b hS with h1 | h1
    · exact hn h1
    · omega
  refine ⟨h.st.mv hp hm, fun t ht => ?_⟩
  obtain ⟨h1, h2, h3, h4, h5⟩ := h.old t ht
  have hlt := tk14.lt h1
  exact ⟨tk14.keep h1 fun b hb => hm.turn.block b (hlt b hb) (h2 b hb), fun b hb => out b (hlt b hb) (h2 b hb), h3.keepB fun g hg => hm.turn.block g (h3.ge hg).2 (h4 g hg), fun g hg => out g (h3.ge hg).2 (h4 g hg), h5⟩
theorem NC.below (h : NC w W q l S os) (hb : Below W.heap.size W W') : NC w W' q l S os :=
  h.mv (tk14.keep h.st.p fun b hS => hb.block b (tk14.lt h.st.p b hS)) (Mv14.of_below hb)
/-- One more in a row of another type. -/
theorem NC.keep {α : Type} {enc : α → List Value} {k c : Nat} {T : TypeId} {A : Option Addr} {xs : List α} (h : NC w W q l S os) (ha : AccR enc k W w.heap.size T A c xs) (h1 : T ≠ 69) (h2 : T ≠ 63) (hg : W.grownBy W' (blk A)) : NC w W' q l S os := by
  have hk : ∀ b, b < W.heap.size → (∀ g, blk A = some g → g ≠ b) → W'.heap[b]? = W.heap[b]? := fun b hb hn => hg.block b hb (fun e => hn b e.symm rfl)
  have tab : ∀ {q' l' s'}, TabC W q' 20 l' s' → TabC W' q' 20 l' s' := fun ht => tk14.keep ht fun b hb => hk b (tk14.lt ht b hb) fun g hg' e => tab_apart ht ha h1 h2 g hg' (by rw [e]; exact hb)
  refine ⟨⟨tab h.st.p, h.st.bel.grown hg h.st.bel.size (fun g hg' => (ha.ge hg').1), h.st.own⟩, fun t ht => ?_⟩
  obtain ⟨g1, g2, g3, g4, g5⟩ := h.old t ht
  exact ⟨tab g1, g2, g3.keepB fun g hg' => hk g (g3.ge hg').2 fun g'' hg'' e => accr_apart ha g3 h2 g'' hg'' (by rw [e]; exact hg'), g4, g5⟩
/-- A table is set aside, and its copy goes on. -/
theorem NC.fork {q2 c3 : Nat} {S2 : List Nat} {A3 : Option Addr} (h : NC w W q l S os) (hE : AccR ent 10 W w.heap.size 63 A3 c3 l) (hl : l.length ≤ 64) (hb : Below W.heap.size W W') (hp : TabC W' q2 20 l S2) (hS2 : ∀ b ∈ S2, W.heap.size ≤ b) :
    NC w W' q2 l S2 (os ++ [⟨q, l, S, A3, l.length, c3⟩]) := by
  have nots : ∀ b, b < W.heap.size → b ∉ S2 := fun b hb hS => by have := hS2 b hS; omega
  have h' := h.below hb
  refine ⟨⟨hp, h'.st.bel, fun b hb2 => Nat.le_trans h.st.bel.size (hS2 b hb2)⟩, fun t ht => ?_⟩
  rcases List.mem_append.1 ht with ht | ht
  · obtain ⟨g1, g2, g3, g4, g5⟩ := h'.old t ht
    obtain ⟨f1, f2, f3, f4, f5⟩ := h.old t ht
    exact ⟨g1, fun b hb2 => nots b (tk14.lt f1 b hb2), g3, fun g hg => nots g (f3.ge hg).2, g5⟩
  · rw [List.mem_singleton] at ht
    subst ht
    exact ⟨h'.st.p, fun b hb2 => nots b (tk14.lt h.st.p b hb2), hE.bel hb, fun g hg => nots g (hE.ge hg).2, rfl, hl⟩
end
/-- Rows of set-aside tables' pointers tell of the pointers alone. -/
theorem ptc_other {W : World} {base c : Nat} {T : TypeId} {A : Option Addr} {os : List OT} {t t' : OT} (h : AccR ptc 1 W base T A c (os ++ [t])) (e : t.q = t'.q) : AccR ptc 1 W base T A c (os ++ [t']) := by
  unfold AccR at h ⊢
  have e1 : (os ++ [t']).flatMap ptc = (os ++ [t]).flatMap ptc := by
    rw [List.flatMap_append, List.flatMap_append]
    simp [ptc, e]
  rw [e1]
  simpa using h
end Go.Proofs.Ytnkoiageoenfeaa
