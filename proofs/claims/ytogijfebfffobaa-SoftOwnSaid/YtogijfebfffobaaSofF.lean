/-
  Contracts of package soft: a table in memory; New, made, Put, Get, Drop. Condition: a route that reads as a list of at most 2^40 numbers.
-/
import Derived.Test.YtogijfebfffobaaSofC
import Derived.Test.YtogijfebfffobaaSofE
import Derived.Test.YtogijfebfffobaaAdmTS
import Derived.Deep.CutBlock
namespace Go.Proofs.Ytogijfebfffobaa
set_option maxRecDepth 100000
set_option linter.unusedVariables false
open Go.RowKit

/-- The blocks of a row of states. -/
def foot18 (q : Nat) (A : Option Addr) (ls : List Ss) : List Nat := q :: ((blk A).toList ++ ls.flatMap fun s => (blk s.a).toList)
/-- A table in memory: its block, the block of its states, and a block for each route. -/
structure TbI18 (w : World) (q most : Nat) (ls : List Ss) (S : List Nat) (A : Option Addr) (c : Nat) : Prop where
  blk : Blk w q 68 [.int .i64 (most : Int), .slice A ls.length c]
  acc : AccR ssc 17 w 0 40 A c ls
  rts : ∀ s ∈ ls, AccI w 0 s.a s.c s.p.rt ∧ s.n = s.p.rt.length
  own : S = foot18 q A ls
  tbl : Tbl18 most (ls.map (·.p))
def TbC18 (w : World) (q most : Nat) (l : List Sp) (S : List Nat) : Prop := ∃ ls A c, TbI18 w q most ls S A c ∧ ls.map (·.p) = l
theorem accr_type18 {α : Type} {enc : α → List Value} {k base c q : Nat} {w : World} {T T' : TypeId} {A : Option Addr} {l : List α} {vs : List Value} (h : AccR enc k w base T A c l) (hb : Blk w q T' vs) (hne : T ≠ T') : ∀ g, Go.Proofs.Ytogijfebfffobaa.blk A = some g → g ≠ q := by
  intro g hg e
  subst e
  rcases h.2 with ⟨hv, _⟩ | ⟨a, cap, cur, hv, _, hh, _⟩
  · injection hv with e _ _
    subst e; cases hg
  · injection hv with e _ _
    subst e
    injection hg with hg
    simp only at hg
    subst hg
    unfold Blk at hb
    rw [hb] at hh
    injection hh with hh
    injection hh with _ hh _
    exact hne hh.symm
theorem accr_apart18 {α β : Type} {enc : α → List Value} {enc' : β → List Value} {k k' base base' c c' : Nat} {w : World} {T T' : TypeId} {A A' : Option Addr} {l : List α} {l' : List β} (h : AccR enc k w base T A c l) (h' : AccR enc' k' w base' T' A' c' l') (hne : T ≠ T') : ∀ g, blk A = some g → blk A' ≠ some g := by
  intro g hg hg'
  rcases h.2 with ⟨hv, _⟩ | ⟨a, cap, cur, hv, _, hh, _⟩
  · injection hv with e _ _
    subst e; cases hg
  · rcases h'.2 with ⟨hv', _⟩ | ⟨a', cap', cur', hv', _, hh', _⟩
    · injection hv' with e _ _
      subst e; cases hg'
    · injection hv with e _ _
      injection hv' with e' _ _
      subst e; subst e'
      injection hg with hg
      injection hg' with hg'
      simp only at hg hg'
      subst hg; subst hg'
      rw [hh] at hh'
      injection hh' with hh'
      injection hh' with _ hh' _
      exact hne hh'
theorem mem_foot18 {q b : Nat} {A : Option Addr} {ls : List Ss} : b ∈ foot18 q A ls ↔ b = q ∨ blk A = some b ∨ ∃ s ∈ ls, blk s.a = some b := by
  unfold foot18
  rw [List.mem_cons, List.mem_append, Option.mem_toList, List.mem_flatMap]
  simp only [Option.mem_toList]
section
variable {w w' : World} {q most c : Nat} {ls : List Ss} {S : List Nat} {A : Option Addr}
theorem TbI18.keep (h : TbI18 w q most ls S A c) (hb : ∀ b ∈ S, w'.heap[b]? = w.heap[b]?) : TbI18 w' q most ls S A c := by
  have hm := fun b (hm : b = q ∨ Go.Proofs.Ytogijfebfffobaa.blk A = some b ∨ ∃ s ∈ ls, Go.Proofs.Ytogijfebfffobaa.blk s.a = some b) => hb b (by rw [h.own]; exact mem_foot18.2 hm)
  exact ⟨h.blk.same (hm q (.inl rfl)), h.acc.keepB (fun x hx => hm x (.inr (.inl hx))), fun s hs => ⟨AccR.keepB (h.rts s hs).1 (fun x hx => hm x (.inr (.inr ⟨s, hs, hx⟩))), (h.rts s hs).2⟩, h.own, h.tbl⟩
theorem TbI18.lt (h : TbI18 w q most ls S A c) : ∀ b ∈ S, b < w.heap.size := fun b hb => by
  rw [h.own] at hb
  rcases mem_foot18.1 hb with rfl | hb | ⟨s, hs, hb⟩
  · exact h.blk.lt
  · exact (h.acc.ge hb).2
  · exact (AccR.ge (h.rts s hs).1 hb).2
theorem TbI18.below (h : TbI18 w q most ls S A c) (hb : Below w.heap.size w w') : TbI18 w' q most ls S A c := h.keep fun b hS => hb.block b (h.lt b hS)
theorem TbI18.srt (h : TbI18 w q most ls S A c) : Srt18 (fun s : Ss => s.p.k) ls := (srt18_map (kf := Sp.k) Ss.p).1 h.tbl.srt
theorem TbI18.len (h : TbI18 w q most ls S A c) : ls.length ≤ 64 := by have h1 := h.tbl.len; have h2 := h.tbl.bnd; rw [List.length_map] at h1; omega
theorem TbI18.rt (h : TbI18 w q most ls S A c) {s : Ss} (hs : s ∈ ls) : Row ei w w.heap.size s.a s.n s.p.rt := by
  have := (h.rts s hs).1.row
  rw [← (h.rts s hs).2] at this
  exact this
end
section
variable {w w' : World} {q most : Nat} {l : List Sp} {S : List Nat}
theorem TbC18.keep (h : TbC18 w q most l S) (hb : ∀ b ∈ S, w'.heap[b]? = w.heap[b]?) : TbC18 w' q most l S := by
  obtain ⟨ls, A, c, h, e⟩ := h
  exact ⟨ls, A, c, h.keep hb, e⟩
theorem TbC18.lt (h : TbC18 w q most l S) : ∀ b ∈ S, b < w.heap.size := by
  obtain ⟨ls, A, c, h, e⟩ := h
  exact h.lt
theorem TbC18.below (h : TbC18 w q most l S) (hb : Below w.heap.size w w') : TbC18 w' q most l S := h.keep fun b hS => hb.block b (h.lt b hS)
theorem TbC18.tbl (h : TbC18 w q most l S) : Tbl18 most l := by
  obtain ⟨ls, A, c, h, e⟩ := h
  rw [← e]
  exact h.tbl
end
/-- What the calls of a table answer. -/
def Prt18 (S : List Nat) (q most : Nat) (r : List Sp × Int) (w : World) (e : Ending) (w' : World) : Prop :=
  ∃ S', e = .returned (.int .i64 r.2) ∧ TbC18 w' q most r.1 S' ∧ Mv14 S w S' w'
/-- The error of Get. -/
def gerr18 {α : Type} : Option α → Int | some _ => 0 | none => 8
def Got18 (o : Option Sp) (w : World) (e : Ending) (w' : World) : Prop :=
  ∃ s : Ss, e = .returned (.tuple #[.agg (ssc s).toArray, .int .i64 (gerr18 o)]) ∧ s.p = o.getD z18.p ∧ s.n = s.p.rt.length ∧ AccI w' w.heap.size s.a s.c s.p.rt ∧ Below w.heap.size w w'
def New18 (most : Nat) (w : World) (e : Ending) (w' : World) : Prop :=
  ∃ q S, e = .returned (.pointer (some ⟨q, 0, none⟩)) ∧ TbC18 w' q most [] S ∧ Below w.heap.size w w' ∧ ∀ b ∈ S, w.heap.size ≤ b
theorem made18_calls (q : Nat) (n : Int) (w : World) (h : w.cell? ⟨q, 0, none⟩ = some (.int .i64 n)) (b : Bool) (hb : decide (0 < n) = b) : Calls Try.prog 33 #[.pointer (some ⟨q, 0, none⟩)] w fun e w' => e = .returned (.bool b) ∧ w' = w := by
  cases b with
  | true =>
    have h1 : 0 < n := of_decide_eq_true hb
    go_enter Try.func33, Try.ntmps33
    go_wp2_with fail
    go_ret
    exact ⟨rfl, rfl⟩
  | false =>
    go_enter Try.func33, Try.ntmps33
    go_wp2_with fail
    go_ret
    exact ⟨rfl, rfl⟩
theorem made18_nil (w : World) : Calls Try.prog 33 #[.pointer none] w fun e w' => e = .returned (.bool false) ∧ w' = w := by
  go_enter Try.func33, Try.ntmps33
  go_wp2_with fail
  go_ret
  exact ⟨rfl, rfl⟩
theorem TbI18.made {w : World} {q most c : Nat} {ls : List Ss} {S : List Nat} {A : Option Addr} (h : TbI18 w q most ls S A c) : Calls Try.prog 33 #[.pointer (some ⟨q, 0, none⟩)] w fun e w' => e = .returned (.bool true) ∧ w' = w :=
  made18_calls q (most : Int) w (h.blk.cell 0) true (decide_eq_true (by have := h.tbl.bnd; omega))
theorem tbl18_new {most : Nat} (h : 1 ≤ most ∧ most ≤ 64) : Tbl18 most [] := ⟨h, Nat.zero_le _, List.Pairwise.nil, fun s hs => by simp at hs⟩
theorem new18_calls (most : Nat) (h : 1 ≤ most ∧ most ≤ 64) (w : World) : Calls Try.prog 8 #[.int .i64 (most : Int)] w (New18 most w) := by
  have hb : Blk (w.alloc (.cells #[.int .i64 (most : Int), .slice none 0 0] 68)) w.heap.size 68 [.int .i64 (most : Int), .slice none 0 0] := Blk.new w _ _
  have HB := Lib.hid hb
  have HL := Lib.hid (bel_new (Below.refl w.heap.size w) (.cells #[.int .i64 (most : Int), .slice none 0 0] 68))
  have hw := within18_calls (most : Int) 1 64
  rw [show w18 (most : Int) 1 64 = true from w18_iff.2 (by omega)] at hw
  have HW := Lib.hid hw
  have HM := Lib.hid h
  unfold New18
  clear hb hw h
  go_enter Try.func8, Try.ntmps8
  go_wp2_with fail
  ((with_reducible refine (HW.out _).mono ?_))
  rintro e w2 ⟨rfl, rfl⟩
  go_wp2_with fail
  generalize w2.alloc (.cells #[.int .i64 (most : Int), .slice none 0 0] 68) = w1 at *
  go_ret
  exact ⟨w2.heap.size, [w2.heap.size], rfl, ⟨[], none, 0, ⟨HB.out, AccR.nil _ _ _, fun s hs => (by simp at hs), rfl, tbl18_new HM.out⟩, rfl⟩, HL.out, fun b hb => by simp at hb; omega⟩
theorem new18_none (most : Int) (h : ¬ (1 ≤ most ∧ most ≤ 64)) (w : World) : Calls Try.prog 8 #[.int .i64 most] w fun e w' => e = .returned (.pointer none) ∧ w' = w := by
  have hw := within18_calls most 1 64
  rw [show w18 most 1 64 = false from (by cases hc : w18 most 1 64 with | false => rfl | true => exact absurd (w18_iff.1 hc) h)] at hw
  have HW := Lib.hid hw
  clear hw h
  go_enter Try.func8, Try.ntmps8
  go_wp2_with fail
  ((with_reducible refine (HW.out _).mono ?_))
  rintro e w2 ⟨rfl, rfl⟩
  go_wp2_with fail
  go_ret
  exact ⟨rfl, rfl⟩
set_option maxHeartbeats 3200000 in
theorem get18_calls (q most : Nat) (l : List Sp) (S : List Nat) (k : Ky) (w : World) (h : TbC18 w q most l S) : Calls Try.prog 9 #[.pointer (some ⟨q, 0, none⟩), .agg #[.int .i64 k.tail, .int .i64 k.tun, .int .i64 k.head, .int .i64 k.lsp]] w (Got18 (get18 Sp.k l k) w) := by
  obtain ⟨ls, A, c, ht, rfl⟩ := h
  have bz := bel_new (bel_new (Below.refl w.heap.size w) (.cells #[.int .i64 k.tail, .int .i64 k.tun, .int .i64 k.head, .int .i64 k.lsp] 30)) (.cells #[.int .i64 0, .int .i64 0, .int .i64 0, .int .i64 0, .int .u64 0, .int .i64 0, .int .i64 0, .int .u32 0, .int .u32 0, .int .u32 0, .slice none 0 0, .int .i64 0, .int .i64 0, .int .i64 0, .int .i64 0, .int .i64 0, .int .i64 0] 40)
  have b1 : Blk ((w.alloc (.cells #[.int .i64 k.tail, .int .i64 k.tun, .int .i64 k.head, .int .i64 k.lsp] 30)).alloc (.cells #[.int .i64 0, .int .i64 0, .int .i64 0, .int .i64 0, .int .u64 0, .int .i64 0, .int .i64 0, .int .u32 0, .int .u32 0, .int .u32 0, .slice none 0 0, .int .i64 0, .int .i64 0, .int .i64 0, .int .i64 0, .int .i64 0, .int .i64 0] 40)) w.heap.size 30 (kyc k) := (Blk.new w 30 (kyc k)).alloc _
  have b2 : Blk ((w.alloc (.cells #[.int .i64 k.tail, .int .i64 k.tun, .int .i64 k.head, .int .i64 k.lsp] 30)).alloc (.cells #[.int .i64 0, .int .i64 0, .int .i64 0, .int .i64 0, .int .u64 0, .int .i64 0, .int .i64 0, .int .u32 0, .int .u32 0, .int .u32 0, .slice none 0 0, .int .i64 0, .int .i64 0, .int .i64 0, .int .i64 0, .int .i64 0, .int .i64 0] 40)) (w.alloc (.cells #[.int .i64 k.tail, .int .i64 k.tun, .int .i64 k.head, .int .i64 k.lsp] 30)).heap.size 40 (ssc z18) := Blk.new (w.alloc (.cells #[.int .i64 k.tail, .int .i64 k.tun, .int .i64 k.head, .int .i64 k.lsp] 30)) 40 (ssc z18)
  rw [show (w.alloc (.cells #[.int .i64 k.tail, .int .i64 k.tun, .int .i64 k.head, .int .i64 k.lsp] 30)).heap.size = w.heap.size + 1 by simp] at b2
  have T1 := Lib.hid (ht.below bz)
  have B1 := Lib.hid b1
  have B2 := Lib.hid b2
  have HL := Lib.hid bz
  have HIN := Lib.hid (fun s : Ss => (show (Try.prog.info? 40).map (·.size) = some (ssc s).length from infoSsC))
  have HON := Lib.hid ssc_one
  have hgm : get18 Sp.k (ls.map (·.p)) k = (get18 (fun s : Ss => s.p.k) ls k).map (·.p) := (get18_map (kf := Sp.k) Ss.p ls k).symm
  rw [hgm]
  unfold Got18
  clear ht bz b1 b2 hgm
  go_enter Try.func9, Try.ntmps9
  go_upto_region 1 with fail
  generalize ((w.alloc (.cells #[.int .i64 k.tail, .int .i64 k.tun, .int .i64 k.head, .int .i64 k.lsp] 30)).alloc (.cells #[.int .i64 0, .int .i64 0, .int .i64 0, .int .i64 0, .int .u64 0, .int .i64 0, .int .i64 0, .int .u32 0, .int .u32 0, .int .u32 0, .slice none 0 0, .int .i64 0, .int .i64 0, .int .i64 0, .int .i64 0, .int .i64 0, .int .i64 0] 40)) = w1 at *
  have hm := T1.out.made
  go_wp2_with fail
  ((with_reducible refine hm.mono ?_))
  rintro e w9 ⟨rfl, rfl⟩
  clear hm
  have x0 : w9.cell? ⟨w.heap.size, 0, none⟩ = some (.int .i64 k.tail) := B1.out.cell 0
  have x1 : w9.cell? ⟨w.heap.size, 1, none⟩ = some (.int .i64 k.tun) := B1.out.cell 1
  have x2 : w9.cell? ⟨w.heap.size, 2, none⟩ = some (.int .i64 k.head) := B1.out.cell 2
  have x3 : w9.cell? ⟨w.heap.size, 3, none⟩ = some (.int .i64 k.lsp) := B1.out.cell 3
  have HF := Lib.hid (find18_calls ls.length c q (most : Int) A ls k w9 T1.out.blk T1.out.acc.row T1.out.srt (by have := T1.out.len; omega))
  go_wp2_with fail
  ((with_reducible refine HF.out.mono ?_))
  rintro e w3 ⟨i, b, rfl, hfd, hb⟩
  obtain ⟨a, m, r, hcut⟩ := hfd.cut T1.out.srt
  have T3 := Lib.hid (T1.out.below hb)
  have B3 := Lib.hid (B2.out.below hb)
  have HL3 := Lib.hid (HL.out.trans (hb.mono HL.out.size))
  have HG := Lib.hid hcut.get
  clear hb HF T1 B1 B2 HL x0 x1 x2 x3 hfd
  cases b with
  | false =>
    have hg : get18 (fun s : Ss => s.p.k) ls k = none := by
      rw [HG.out]
      rcases hcut.mid with ⟨e, _⟩ | ⟨_, rfl⟩
      · cases e
      · rfl
    have HGN := Lib.hid hg
    clear hg hcut HG
    go_wp2_with ((with_reducible refine step_store (o := ⟨none, _, _, _, _, _⟩) (vs := ssc z18) (ty := 40) (x := .tmp 4) (y := .tmp 20) ?_ ?_ ?_ ?_ B3.out (HIN.out _) rfl (HON.out _) ?_); (rfl); (rfl); (rfl); (rfl); intro w4 hb4 hg4 hs4)
    refine bodyPost_ret (v := .tuple #[.agg (ssc z18).toArray, .int .i64 8]) (results_two8 rfl _ rfl hb4 Try.underlying40 rfl (HIN.out _) rfl) rfl ?_
    rw [HGN.out]
    exact ⟨z18, rfl, rfl, rfl, AccR.nil _ _ _, bel_upd HL3.out hg4 (Nat.le_refl _) (by omega)⟩
  | true =>
    obtain ⟨hi, hm⟩ := hcut.at_
    have hg : get18 (fun s : Ss => s.p.k) ls k = some ls[i] := by rw [HG.out, hm]; rfl
    obtain ⟨b, o, x, rfl, hx, hbb, hc⟩ := row_key18 T3.out.acc.row hi
    have hxe : ls[i] = x := by rw [List.getElem?_eq_getElem hi] at hx; injection hx
    rw [hxe] at hg
    have HGN := Lib.hid hg
    have hxm : x ∈ ls := List.mem_of_getElem? hx
    have HX := Lib.hid (hc w3 (Below.refl _ _))
    have HOW := Lib.hid (own18_calls x w3 (T3.out.rt hxm) (by have := may18_len (T3.out.tbl.may x.p (List.mem_map.2 ⟨x, hxm, rfl⟩)); have := (T3.out.rts x hxm).2; omega))
    have HN := Lib.hid (T3.out.rts x hxm).2
    have q1 : w3.cell? ⟨q, 1, none⟩ = some (.slice (some ⟨b, o, none⟩) ls.length c) := T3.out.blk.cell 1
    have i0 : (i : Int) < (ls.length : Int) := by omega
    have i1 : i < ls.length := hi
    obtain ⟨n, hn⟩ : ∃ n, ls.length = n := ⟨_, rfl⟩
    rw [hn] at q1 i0 i1
    clear hg hcut HG hi hm hx hbb hc hxe hxm hn
    go_wp2_with (refine step_load_at (o := ⟨some 27, _, _, _, _, _⟩) rfl rfl rfl HX.out Try.underlying40 rfl (HIN.out _) ?_)
    ((with_reducible refine HOW.out.mono ?_))
    rintro e w4 ⟨A2, c2, rfl, hacc, hb⟩
    have B4 := Lib.hid (B3.out.below hb)
    have HL4 := Lib.hid (HL3.out.trans (hb.mono HL3.out.size))
    have HA := Lib.hid (hacc.lower HL3.out.size)
    clear hacc hb HOW HX q1 T3 B3 HL3
    go_wp2_with ((with_reducible refine step_store (o := ⟨none, _, _, _, _, _⟩) (vs := ssc ⟨x.p, A2, x.n, c2⟩) (ty := 40) (x := .tmp 4) (y := .tmp 28) ?_ ?_ ?_ ?_ B4.out (HIN.out _) rfl (HON.out _) ?_); (rfl); (rfl); (rfl); (rfl); intro w5 hb5 hg5 hs5)
    refine bodyPost_ret (v := .tuple #[.agg (ssc ⟨x.p, A2, x.n, c2⟩).toArray, .int .i64 0]) (results_two8 rfl _ rfl hb5 Try.underlying40 rfl (HIN.out _) rfl) rfl ?_
    rw [HGN.out]
    exact ⟨⟨x.p, A2, x.n, c2⟩, rfl, rfl, HN.out, hacc18 HA.out B4.out hg5, bel_upd HL4.out hg5 (Nat.le_refl _) (by omega)⟩
end Go.Proofs.Ytogijfebfffobaa
