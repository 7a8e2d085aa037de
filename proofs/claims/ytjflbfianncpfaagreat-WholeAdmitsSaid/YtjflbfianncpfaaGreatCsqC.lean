/-
  Contract of offer (cspf): a route is kept if none to its place is known, or only one that it is better than. Condition: fewer than 1024 items wait.
-/
import Derived.Test.YtjflbfianncpfaaGreatCsqA
import Derived.Deep.CutBlock
namespace Go.Proofs.YtjflbfianncpfaaGreat
set_option maxRecDepth 100000
set_option linter.unusedVariables false
open Go.RowKit

/-- A search, whatever its map's cells. -/
def Sy17 (w0 w : World) (K : Sk17) (g u : Nat) (L : List Lk) (S : Nt) (Q : List Itm) : Prop := ∃ E, Sea17 w0 w K g u L E S Q
/-- Only the search has turned, and what was made since. -/
def Fr17 (K : Sk17) (w : World) (g : Nat) (w' : World) (g' : Nat) : Prop := Turn [K.b, K.p, g] w w' ∧ (g' = g ∨ w.heap.size ≤ g')
theorem Fr17.refl (K : Sk17) (w : World) (g : Nat) : Fr17 K w g w g := ⟨Turn.refl _ _, .inl rfl⟩
theorem Fr17.of_below {K : Sk17} {w w' : World} {g : Nat} (hb : Below w.heap.size w w') : Fr17 K w g w' g := ⟨Turn.of_below hb, .inl rfl⟩
theorem Fr17.trans {K : Sk17} {w w' w'' : World} {g g' g'' : Nat} (h : Fr17 K w g w' g') (k : Fr17 K w' g' w'' g'') : Fr17 K w g w'' g'' := by
  obtain ⟨t1, e1⟩ := h
  obtain ⟨t2, e2⟩ := k
  refine ⟨⟨t2.os.trans t1.os, t2.tape.trans t1.tape, t2.output.trans t1.output, Nat.le_trans t1.size t2.size, fun i hi hn => ?_⟩, ?_⟩
  · refine (t2.block i (Nat.lt_of_lt_of_le hi t1.size) ?_).trans (t1.block i hi hn)
    simp at hn ⊢
    omega
  · have := t1.size
    omega
/-- What offer leaves. -/
def OffPost17 (w0 w : World) (K : Sk17) (g u : Nat) (L : List Lk) (S : Nt) (Q : List Itm) (c : Int) (r : List Int) (x : Int) (j : Nat) (e : Ending) (w' : World) : Prop :=
  e = .returned (.tuple #[]) ∧ ∃ g', Fr17 K w g w' g' ∧
    ((∃ p, S x j = some p ∧ ¬ bet (c, r) p ∧ Sy17 w0 w' K g' u L S Q) ∨
     ((∀ p, S x j = some p → bet (c, r) p) ∧ Sy17 w0 w' K g' (u + 1) L (nset S x j (c, r)) (insQ ⟨c, (j : Int), x⟩ Q)))

set_option maxHeartbeats 4000000 in
theorem offer17_calls {w0 w : World} {K : Sk17} {g u : Nat} {L : List Lk} {S : Nt} {Q : List Itm} (h : Sy17 w0 w K g u L S Q) (xa : Option Addr) (n cap : Nat) (c : Int) (r : List Int) (x : Int) (j : Nat)
    (ha : AccI w w0.heap.size xa cap r) (hr : r.length = n) (hn : n = j + 1) (hn2 : n ≤ 1073741824) (hlast : r[j]? = some x) (hx : 0 ≤ x ∧ x ≤ 1099511627776) (hc : 0 ≤ c) (hq : Q.length < 1024) (hu : u ≤ 1000000) :
    Calls Tryz.prog 24 #[.pointer (some ⟨K.s, 0, none⟩), .agg #[.int .i64 c, .slice xa n cap]] w (OffPost17 w0 w K g u L S Q c r x j) := by
  obtain ⟨E, h⟩ := h
  subst hn
  have hrow := AccR.row ha
  rw [hr] at hrow
  obtain ⟨b, o, rfl, hb, hcell⟩ := row_int hrow (by omega)
  have hcl : w.cell? ⟨b, o + j, none⟩ = some (.int .i64 x) := by
    have hj : j < r.length := by omega
    rw [hcell j hj]
    rw [List.getElem?_eq_getElem hj] at hlast
    injection hlast with hlast
    rw [hlast]
  have hwf : WfP x j := wfp_of hx.1 hx.2 (by omega)
  have hl1 := bel_new (Below.refl w.heap.size w) (.cells #[.int .i64 c, .slice (some ⟨b, o, none⟩) (j + 1) cap] 86)
  have HF := Lib.hid (Blk.new w 86 [.int .i64 c, .slice (some ⟨b, o, none⟩) (j + 1) cap])
  have HL1 := Lib.hid hl1
  have H := Lib.hid (h.below hl1)
  have HA := Lib.hid (show AccI (w.alloc (.cells #[.int .i64 c, .slice (some ⟨b, o, none⟩) (j + 1) cap] 86)) w0.heap.size (some ⟨b, o, none⟩) cap r from AccR.bel ha hl1)
  have HCL := Lib.hid (show (w.alloc (.cells #[.int .i64 c, .slice (some ⟨b, o, none⟩) (j + 1) cap] 86)).cell? ⟨b, o + j, none⟩ = some (.int .i64 x) from (hl1.cell (p := ⟨b, o + j, none⟩) hb).trans hcl)
  have HBL := Lib.hid (show b < (w.alloc (.cells #[.int .i64 c, .slice (some ⟨b, o, none⟩) (j + 1) cap] 86)).heap.size from Nat.lt_of_lt_of_le hb hl1.size)
  have HR := Lib.hid hr
  have HX := Lib.hid hx
  have HC := Lib.hid hc
  have HQ := Lib.hid hq
  have HU := Lib.hid hu
  have HWF := Lib.hid hwf
  have i0 : ((j + 1 : Nat) : Int) - 1 = (j : Int) := by omega
  have i1 : (j : Int) < ((j + 1 : Nat) : Int) := by omega
  obtain ⟨n, hn⟩ : ∃ n, n = j + 1 := ⟨_, rfl⟩
  rw [← hn] at HF HL1 H HA HCL HBL HR i0 i1 hl1 hn2 ⊢
  have HN := Lib.hid hn
  have iw : IntKind.i64.wrap (j : Int) = (j : Int) := by rw [IntKind.wrap_i64]; omega
  clear hrow hcell hlast hb hcl hwf hl1 h ha hr hx hc hq hu hn
  go_enter Tryz.func24, Tryz.ntmps24
  go_upto_region 1 with fail
  generalize hfb : w.heap.size = fb at *
  generalize (w.alloc (.cells #[.int .i64 c, .slice (some ⟨b, o, none⟩) n cap] 86)) = w1 at *
  go_wp2_with fail
  refine region_seq (fun W => Below w1.heap.size w1 W) [(0, true), (1, true), (2, true), (3, true), (4, true), (5, true), (6, true), (7, true), (8, true), (9, true), (10, true), (11, true), (12, true), (13, false), (14, false)]
    (by kernel_rfl) (by kernel_rfl) (by kernel_rfl) (by kernel_rfl) (fun _ _ _ _ _ h => h) (Below.refl _ _).drew ?_
  repeat
    refine seq_pure (v := ?_) rfl (by rfl) (fun W hW => ?_) ?_
    rotate_left
    · have hbx := HF.out.below hW
      have c0 : W.cell? ⟨fb, 0, none⟩ = some (.int .i64 c) := hbx.cell 0
      have c1 : W.cell? ⟨fb, 1, none⟩ = some (.slice (some ⟨b, o, none⟩) n cap) := hbx.cell 1
      have c2 : W.cell? ⟨b, o + j, none⟩ = some (.int .i64 x) := (hW.cell (p := ⟨b, o + j, none⟩) HBL.out).trans HCL.out
      clear hbx hW
      go_simp
      with_reducible rfl
    simp only [Act.put, List.setIfInBounds_toArray, List.set_cons_zero, List.set_cons_succ]
  refine seq_make rfl (by rfl) (fun K' hK' => ?_)
  go_simp
  have P2 := Lib.hid (show Blk (w1.alloc (.cells #[.int .i64 0, .int .i64 0] 96)).drew w1.heap.size 96 [.int .i64 0, .int .i64 0] from Blk.new w1 96 [.int .i64 0, .int .i64 0])
  have L2 := Lib.hid (show Below w1.heap.size w1 (w1.alloc (.cells #[.int .i64 0, .int .i64 0] 96)).drew from (bel_new (Below.refl _ _) (.cells #[.int .i64 0, .int .i64 0] 96)).drew)
  refine hK' _ _ (fun W => Below w1.heap.size w1 W) (fun W h => h) L2.out ?_
  clear hK' K'
  obtain ⟨pb, hpb⟩ : ∃ pb, pb = w1.heap.size := ⟨_, rfl⟩
  rw [← hpb] at P2 ⊢
  have HPB := Lib.hid hpb
  clear hpb
  generalize (w1.alloc (.cells #[.int .i64 0, .int .i64 0] 96)).drew = w2 at *
  have p0 : w2.cell? ⟨pb, 0, none⟩ = some (.int .i64 0) := P2.out.cell 0
  have p1 : w2.cell? ⟨pb, 1, none⟩ = some (.int .i64 0) := P2.out.cell 1
  have f0 := P2.out.free 0
  have f1 := P2.out.free 1
  refine seq_make rfl (by rfl) (fun K' hK' => ?_)
  go_simp
  have hp := put2 P2.out (.int .i64 x) (.int .i64 (j : Int))
  clear p0 p1 f0 f1
  generalize ((w2.setCell ⟨pb, 0, none⟩ (.int .i64 x)).setCell ⟨pb, 1, none⟩ (.int .i64 (j : Int))) = w3 at *
  have P3 := Lib.hid hp.1
  have L3 := Lib.hid (show Below w1.heap.size w1 w3 from bel_upd L2.out hp.2 (Nat.le_refl _) (Nat.le_of_eq HPB.out.symm))
  clear hp P2 L2
  refine hK' _ _ (fun W => Below pb w1 W) (fun W h => h) (by rw [HPB.out]; exact L3.out) ?_
  clear hK' K'
  refine seq_done ?_
  have H3 := Lib.hid (H.out.below L3.out)
  have F3 := Lib.hid (HF.out.below L3.out)
  obtain ⟨e0, he0⟩ : ∃ e0, E x j = e0 := ⟨_, rfl⟩
  obtain ⟨⟨c1, ⟨ya, yn, yc⟩⟩, he1⟩ : ∃ e1, eget E x j = e1 := ⟨_, rfl⟩
  obtain ⟨d, hd⟩ : ∃ d, (E x j).isSome = d := ⟨_, rfl⟩
  have HLK := Lib.hid (fun W (hW : Below w3.heap.size w3 W) => (show (Instr.lookup 90 (.map (some K.b)) (.agg #[.int .i64 x, .int .i64 (j : Int)]) true).run Tryz.prog W = .ok (.tuple #[.agg #[.int .i64 c1, .slice ya yn yc], .bool d]) W from by
    have := (H3.out.below hW).notes.lookOk HWF.out
    rw [he1, hd] at this
    exact this))
  have hnote := H3.out.ok x j
  have HE := Lib.hid (And.intro he0 (And.intro he1 hd))
  have HS := Lib.hid (fun W (hW : Below w3.heap.size w3 W) => And.intro (H3.out.below hW).head (P3.out.below hW))
  clear he0 he1 hd
  go_wp2_with fail
  refine region_seq (fun W => Below w3.heap.size w3 W) [(0, true), (1, true), (2, true), (3, true), (4, true), (5, true), (6, true), (7, true), (8, true), (9, false), (10, false), (11, true)]
    (by kernel_rfl) (by kernel_rfl) (by kernel_rfl) (by kernel_rfl) (fun _ _ _ _ _ h => h) (Below.refl _ _).drew ?_
  repeat first
    | refine seq_look17 (T := 90) (b := true) (mb := K.b) rfl (by rfl) rfl rfl rfl HLK.out ?_
      simp only [Act.put, List.setIfInBounds_toArray, List.set_cons_zero, List.set_cons_succ]
    | refine seq_pure (v := ?_) rfl (by rfl) (fun W hW => ?_) ?_
      rotate_left
      · obtain ⟨h1, h2⟩ := HS.out W hW
        have c0 : W.cell? ⟨K.s, 1, none⟩ = some (.map (some K.b)) := h1.cell 1
        have c1 : W.cell? ⟨pb, 0, none⟩ = some (.int .i64 x) := h2.cell 0
        have c2 : W.cell? ⟨pb, 1, none⟩ = some (.int .i64 (j : Int)) := h2.cell 1
        clear h1 h2 hW
        go_simp
        with_reducible rfl
      simp only [Act.put, List.setIfInBounds_toArray, List.set_cons_zero, List.set_cons_succ]
  refine seq_make rfl (by rfl) (fun K' hK' => ?_)
  go_simp
  have P4 := Lib.hid (show Blk (w3.alloc (.cells #[.int .i64 0, .slice none 0 0] 86)).drew w3.heap.size 86 [.int .i64 0, .slice none 0 0] from Blk.new w3 86 [.int .i64 0, .slice none 0 0])
  have L4 := Lib.hid (show Below w3.heap.size w3 (w3.alloc (.cells #[.int .i64 0, .slice none 0 0] 86)).drew from (bel_new (Below.refl _ _) (.cells #[.int .i64 0, .slice none 0 0] 86)).drew)
  refine hK' _ _ (fun W => Below w3.heap.size w3 W) (fun W h => h) L4.out ?_
  clear hK' K'
  obtain ⟨ob, hob⟩ : ∃ ob, ob = w3.heap.size := ⟨_, rfl⟩
  rw [← hob] at P4 ⊢
  have HOB := Lib.hid hob
  clear hob
  generalize (w3.alloc (.cells #[.int .i64 0, .slice none 0 0] 86)).drew = w4 at *
  have p0 : w4.cell? ⟨ob, 0, none⟩ = some (.int .i64 0) := P4.out.cell 0
  have p1 : w4.cell? ⟨ob, 1, none⟩ = some (.slice none 0 0) := P4.out.cell 1
  have f0 := P4.out.free 0
  have f1 := P4.out.free 1
  refine seq_make rfl (by rfl) (fun K' hK' => ?_)
  go_simp
  have hp := put2 P4.out (.int .i64 c1) (.slice ya yn yc)
  clear p0 p1 f0 f1
  generalize ((w4.setCell ⟨ob, 0, none⟩ (.int .i64 c1)).setCell ⟨ob, 1, none⟩ (.slice ya yn yc)) = w5 at *
  have P5 := Lib.hid hp.1
  have L5 := Lib.hid (show Below w3.heap.size w3 w5 from bel_upd L4.out hp.2 (Nat.le_refl _) (Nat.le_of_eq HOB.out.symm))
  have L5d := Lib.hid (show Below w3.heap.size w3 w5.drew from L5.out.drew)
  clear hp P4 L4
  first
    | refine hK' _ _ (fun W => Below ob w3 W) (fun W h => h) (by rw [HOB.out]; exact L5.out) ?_
    | refine hK' _ _ (fun W => Below ob w3 W) (fun W h => h) (by rw [HOB.out]; exact L5d.out) ?_
  clear hK' K'
  repeat
    refine seq_pure (v := ?_) rfl (by rfl) (fun W hW => ?_) ?_
    rotate_left
    · clear hW
      go_simp
      with_reducible rfl
    simp only [Act.put, List.setIfInBounds_toArray, List.set_cons_zero, List.set_cons_succ]
  refine seq_done ?_
  obtain ⟨w6, hw6⟩ : ∃ w6, w6 = w5 := ⟨_, rfl⟩
  have P6 := Lib.hid (show Blk w6 ob 86 [.int .i64 c1, .slice ya yn yc] from by rw [hw6]; exact P5.out)
  have L6 := Lib.hid (show Below w3.heap.size w3 w6 from by rw [hw6]; exact L5.out)
  rw [← hw6]
  clear P5 L5 L5d hw6
  have H6 := Lib.hid (H3.out.below L6.out)
  have F6 := Lib.hid (F3.out.below L6.out)
  have Q6 := Lib.hid (P3.out.below L6.out)
  have HA6 := Lib.hid (show AccI w6 w0.heap.size (some ⟨b, o, none⟩) cap r from AccR.bel (AccR.bel HA.out L3.out) L6.out)
  have L36 := Lib.hid L6.out
  have LT := Lib.hid (show Below w.heap.size w w6 from by
    have h0 : Below w.heap.size w w1 := by rw [hfb]; exact HL1.out
    have h1 := h0.trans (L3.out.mono h0.size)
    exact h1.trans (L6.out.mono h1.size))
  clear HLK HS H3 F3 P3 L6 L3 HPB HOB H HF
  cases e0 with
  | none =>
    obtain ⟨he0, _, hd⟩ := HE.out
    rw [he0] at hd hnote
    replace hd : d = false := by rw [← hd]; rfl
    subst hd
    have hst : S x j = none := (NoteOk17.none_iff hnote).1 rfl
    have HYES := Lib.hid (show ∀ p, S x j = some p → bet (c, r) p from fun p hp => by rw [hst] at hp; cases hp)
    clear he0 hnote hst HE
    obtain ⟨w7, hw7⟩ : ∃ w7, w7 = w6 := ⟨_, rfl⟩
    rw [← hw7]
    have LW := Lib.hid (show Below w6.heap.size w6 w7 from by rw [hw7]; exact Below.refl _ _)
    have H7 := Lib.hid (show Sea17 w0 w7 K g u L E S Q from by rw [hw7]; exact H6.out)
    have F7 := Lib.hid (F6.out.below LW.out)
    have Q7 := Lib.hid (Q6.out.below LW.out)
    have A7 := Lib.hid (show AccI w7 w0.heap.size (some ⟨b, o, none⟩) cap r from AccR.bel (AccR.bel HA6.out (Below.refl _ _)) LW.out)
    clear hw7 H6 F6 Q6 P6 HA6
    go_upto_region 4 with fail
    have SS := Lib.hid (show ∀ W, Blk W K.s 93 [.slice K.la L.length K.lc, .map (some K.b), .pointer (some ⟨K.q, 0, none⟩)] ∧ Blk W pb 96 [.int .i64 x, .int .i64 (j : Int)] ∧ Blk W fb 86 [.int .i64 c, .slice (some ⟨b, o, none⟩) n cap] → _ ∧ _ ∧ _ ∧ _ ∧ _ ∧ _ from fun W h => And.intro (h.1.cell 1) (And.intro (h.1.cell 2) (And.intro (h.2.1.cell 0) (And.intro (h.2.1.cell 1) (And.intro (h.2.2.cell 0) (h.2.2.cell 1))))))
    have S0 := Lib.hid (show (fun W => Blk W K.s 93 [.slice K.la L.length K.lc, .map (some K.b), .pointer (some ⟨K.q, 0, none⟩)] ∧ Blk W pb 96 [.int .i64 x, .int .i64 (j : Int)] ∧ Blk W fb 86 [.int .i64 c, .slice (some ⟨b, o, none⟩) n cap]) w7 from ⟨H7.out.head, Q7.out, F7.out⟩)
    obtain ⟨w8, hrun, hn8, hg8⟩ := (H7.out.drew).notes.put HWF.out HU.out (c, (⟨some ⟨b, o, none⟩, n, cap⟩ : Rs))
    have RUN := Lib.hid (show (Instr.mapUpdate 90 (.map (some K.b)) (.agg #[.int .i64 x, .int .i64 (j : Int)]) (.agg #[.int .i64 c, .slice (some ⟨b, o, none⟩) n cap])).run Tryz.prog w7.drew = .ok () w8 from hrun)
    have N8 := Lib.hid hn8
    have G8 := Lib.hid hg8
    have S8 := Lib.hid (show (fun W => Blk W K.s 93 [.slice K.la L.length K.lc, .map (some K.b), .pointer (some ⟨K.q, 0, none⟩)] ∧ Blk W pb 96 [.int .i64 x, .int .i64 (j : Int)] ∧ Blk W fb 86 [.int .i64 c, .slice (some ⟨b, o, none⟩) n cap]) w8 from ⟨S0.out.1.same (hg8.block _ H7.out.head.lt (by have := H7.out.apart.1.1; simpa using this)), S0.out.2.1.same (hg8.block _ S0.out.2.1.lt (by have := ne_ty0 S0.out.2.1.ty H7.out.notes.ty; simpa using this)), S0.out.2.2.same (hg8.block _ S0.out.2.2.lt (by have := ne_ty0 S0.out.2.2.ty H7.out.notes.ty; simpa using this))⟩)
    clear hrun hn8 hg8
    go_wp2_with fail
    refine region_seq (fun W => Blk W K.s 93 [.slice K.la L.length K.lc, .map (some K.b), .pointer (some ⟨K.q, 0, none⟩)] ∧ Blk W pb 96 [.int .i64 x, .int .i64 (j : Int)] ∧ Blk W fb 86 [.int .i64 c, .slice (some ⟨b, o, none⟩) n cap]) [(0, true), (1, true), (2, true), (3, true), (4, true), (5, true), (6, false)]
      (by kernel_rfl) (by kernel_rfl) (by kernel_rfl) (by kernel_rfl) (fun _ _ _ _ _ h => h) S0.out ?_
    repeat
      refine seq_pure (v := ?_) rfl (by rfl) (fun W hW => ?_) ?_
      rotate_left
      · obtain ⟨t0, t1, t2, t3, t4, t5⟩ := SS.out W hW
        clear hW
        go_simp
        with_reducible rfl
      simp only [Act.put, List.setIfInBounds_toArray, List.set_cons_zero, List.set_cons_succ]
    refine seq_make rfl (by rfl) (fun K' hK' => ?_)
    refine wp_update17 (T := 90) rfl rfl rfl rfl RUN.out ?_
    simp only [Act.put]
    refine hK' _ _ (fun W => Blk W K.s 93 [.slice K.la L.length K.lc, .map (some K.b), .pointer (some ⟨K.q, 0, none⟩)] ∧ Blk W pb 96 [.int .i64 x, .int .i64 (j : Int)] ∧ Blk W fb 86 [.int .i64 c, .slice (some ⟨b, o, none⟩) n cap]) (fun W h => h) S8.out ?_
    clear hK' K'
    refine seq_done ?_
    have hqe : Qe w8 w0.heap.size K.q K.p g Q := (H7.out.drew).queue.other G8.out (Ne.symm H7.out.apart.2.1) (Ne.symm H7.out.apart.2.2.1) (Ne.symm H7.out.apart.2.2.2)
    have hsz8 : w0.heap.size ≤ w8.heap.size := Nat.le_trans H7.out.bel.size G8.out.size
    have hp := qpush_calls (show Qe w8.drew w0.heap.size K.q K.p g Q from hqe.drewN 1) ⟨c, (j : Int), x⟩ (show w0.heap.size ≤ w8.drew.heap.size from hsz8)
    rw [show (Value.agg (itL ⟨c, (j : Int), x⟩).toArray) = .agg #[.int .i64 c, .int .i64 (j : Int), .int .i64 x] from rfl] at hp
    unfold QPushPost at hp
    rw [if_neg (show ¬ 1024 ≤ Q.length by have := HQ.out; omega), if_neg (show ¬ 1024 ≤ Q.length by have := HQ.out; omega)] at hp
    have HP := Lib.hid hp
    clear hp hqe hsz8
    go_wp2_with fail
    refine region_seq (fun W => Blk W K.s 93 [.slice K.la L.length K.lc, .map (some K.b), .pointer (some ⟨K.q, 0, none⟩)] ∧ Blk W pb 96 [.int .i64 x, .int .i64 (j : Int)] ∧ Blk W fb 86 [.int .i64 c, .slice (some ⟨b, o, none⟩) n cap]) [(0, true), (1, true), (2, true), (3, true), (4, true), (5, true), (6, true), (7, true), (8, true), (9, true), (10, true), (11, false)]
      (by kernel_rfl) (by kernel_rfl) (by kernel_rfl) (by kernel_rfl) (fun _ _ _ _ _ h => h) S8.out ?_
    repeat
      refine seq_pure (v := ?_) rfl (by rfl) (fun W hW => ?_) ?_
      rotate_left
      · obtain ⟨t0, t1, t2, t3, t4, t5⟩ := SS.out W hW
        clear hW
        go_simp
        with_reducible rfl
      simp only [Act.put, List.setIfInBounds_toArray, List.set_cons_zero, List.set_cons_succ]
    refine seq_make rfl (by rfl) (fun K' hK' => ?_)
    go_simp
    ((with_reducible refine HP.out.mono ?_))
    rintro e w9 ⟨rfl, g9, hq9, ht9, hg9⟩
    go_simp
    have t1 : Turn [K.b, K.p, g] w w8 := (Turn.of_below (LT.out.trans (LW.out.mono LT.out.size))).trans (Turn.trans (Turn.of_below (Below.refl _ _).drew) (Turn.of_grown G8.out (by simp)))
    have t2 : Turn [K.b, K.p, g] w8 w9 := Turn.trans (Turn.of_below (Below.refl _ _).drew) (turn_more ht9 (by simp))
    have t3 : Turn [K.b, K.p, g] w7 w9 := (Turn.trans (Turn.of_below (Below.refl _ _).drew) (Turn.of_grown G8.out (by simp))).trans t2
    have T1 := Lib.hid (t1.trans t2)
    have n9 : Nts w9 K.b (u + 1) (eset E x j (c, ⟨some ⟨b, o, none⟩, n, cap⟩)) := N8.out.same (ht9.block _ N8.out.lt (by have h1 := H7.out.apart.2.2; simp; omega))
    have a9 : AccI w9 w0.heap.size (some ⟨b, o, none⟩) cap r := accr_off11 A7.out t3 (fun y hy => H7.out.off (accr_ty A7.out hy) (by decide) (by decide))
    have H9 := Lib.hid (show Sea17 w0 w9 K g9 (u + 1) L (eset E x j (c, ⟨some ⟨b, o, none⟩, n, cap⟩)) (nset S x j (c, r)) (insQ ⟨c, (j : Int), x⟩ Q) from H7.out.turn t3 n9 hq9 (fun y i => by
      by_cases e : y = x ∧ i = j
      · right
        unfold eset nset
        rw [if_pos e, if_pos e]
        exact ⟨rfl, HC.out, HR.out.symm, ⟨by show 1 ≤ n; have := HN.out; omega, hn2⟩, a9⟩
      · left
        unfold eset nset
        rw [if_neg e, if_neg e]
        exact ⟨rfl, rfl⟩))
    have S9 := Lib.hid (show (fun W => Blk W K.s 93 [.slice K.la L.length K.lc, .map (some K.b), .pointer (some ⟨K.q, 0, none⟩)] ∧ Blk W pb 96 [.int .i64 x, .int .i64 (j : Int)] ∧ Blk W fb 86 [.int .i64 c, .slice (some ⟨b, o, none⟩) n cap]) w9 from ⟨H9.out.head, S8.out.2.1.same (t2.block _ S8.out.2.1.lt (H7.out.off S0.out.2.1.ty (by decide) (by decide))), S8.out.2.2.same (t2.block _ S8.out.2.2.lt (H7.out.off S0.out.2.2.ty (by decide) (by decide)))⟩)
    have G9 := Lib.hid (show g9 = g ∨ w.heap.size ≤ g9 from by
      rcases hg9 with h | h
      · exact .inl h
      · have := t1.size
        exact .inr (Nat.le_trans this h))
    clear t1 t2 t3 n9 a9 hq9 ht9 hg9
    refine hK' _ _ (fun W => Blk W K.s 93 [.slice K.la L.length K.lc, .map (some K.b), .pointer (some ⟨K.q, 0, none⟩)] ∧ Blk W pb 96 [.int .i64 x, .int .i64 (j : Int)] ∧ Blk W fb 86 [.int .i64 c, .slice (some ⟨b, o, none⟩) n cap]) (fun W h => h) S9.out ?_
    clear hK' K'
    refine seq_done ?_
    go_wp2
    go_end0
    exact ⟨rfl, g9, ⟨T1.out, G9.out⟩, .inr ⟨HYES.out, _, H9.out⟩⟩
  | some p0 =>
    obtain ⟨he0, he1, hd⟩ := HE.out
    rw [he0] at hd hnote
    unfold eget at he1
    rw [he0] at he1
    replace he1 : p0 = (c1, ⟨ya, yn, yc⟩) := he1
    subst he1
    replace hd : d = true := by rw [← hd]; rfl
    subst hd
    obtain ⟨⟨c2, r2⟩, hst⟩ : ∃ p, S x j = some p := by
      cases hs : S x j with
      | none => rw [hs] at hnote; exact absurd hnote (by simp [NoteOk17])
      | some p => exact ⟨p, rfl⟩
    rw [hst] at hnote
    obtain ⟨e1, hc1, hyn, hy1, hya⟩ := hnote
    subst e1
    replace hyn : yn = r2.length := hyn
    replace hy1 : 1 ≤ yn ∧ yn ≤ 1073741824 := hy1
    replace hya : AccI w3 w0.heap.size ya yc r2 := hya
    have yrow := AccR.row (show AccI w6 w0.heap.size ya yc r2 from AccR.bel hya L36.out)
    rw [← hyn] at yrow
    have xrow := AccR.row HA6.out
    rw [HR.out] at xrow
    have hbet := fun W (hW : Below w6.heap.size w6 W) => better_ok c c1 (some ⟨b, o, none⟩) ya n yn cap yc r r2 W ((xrow.below hW).more hW.size) ((yrow.below hW).more hW.size) (by omega) (by omega)
    obtain ⟨d, hd⟩ : ∃ d, decide (bet (c, r) (c1, r2)) = d := ⟨_, rfl⟩
    rw [hd] at hbet
    have HBET := Lib.hid (hbet w6 (Below.refl _ _))
    have HST := Lib.hid (And.intro hst hd)
    have c60 : w6.cell? ⟨fb, 0, none⟩ = some (.int .i64 c) := F6.out.cell 0
    have c61 : w6.cell? ⟨fb, 1, none⟩ = some (.slice (some ⟨b, o, none⟩) n cap) := F6.out.cell 1
    have c62 : w6.cell? ⟨ob, 0, none⟩ = some (.int .i64 c1) := P6.out.cell 0
    have c63 : w6.cell? ⟨ob, 1, none⟩ = some (.slice ya yn yc) := P6.out.cell 1
    clear hst hd hbet xrow yrow hya hyn hy1 hc1 he0 HE
    go_wp2_with fail
    ((with_reducible refine HBET.out.mono ?_))
    rintro e w7 ⟨rfl, hb7⟩
    have LW := Lib.hid hb7
    have H7 := Lib.hid (H6.out.below LW.out)
    have F7 := Lib.hid (F6.out.below LW.out)
    have Q7 := Lib.hid (Q6.out.below LW.out)
    have A7 := Lib.hid (show AccI w7 w0.heap.size (some ⟨b, o, none⟩) cap r from AccR.bel HA6.out LW.out)
    clear hb7 c60 c61 c62 c63 HBET H6 F6 Q6 P6 HA6
    cases d with
    | false =>
      go_wp2
      go_end0
      exact ⟨rfl, g, Fr17.of_below (LT.out.trans (LW.out.mono LT.out.size)), .inl ⟨_, HST.out.1, of_decide_eq_false HST.out.2, E, H7.out⟩⟩
    | true =>
      have HYES := Lib.hid (show ∀ p, S x j = some p → bet (c, r) p from fun p hp => by
        rw [HST.out.1] at hp
        injection hp with hp
        rw [← hp]
        exact of_decide_eq_true HST.out.2)
      clear HST
      go_upto_region 4 with fail
      have SS := Lib.hid (show ∀ W, Blk W K.s 93 [.slice K.la L.length K.lc, .map (some K.b), .pointer (some ⟨K.q, 0, none⟩)] ∧ Blk W pb 96 [.int .i64 x, .int .i64 (j : Int)] ∧ Blk W fb 86 [.int .i64 c, .slice (some ⟨b, o, none⟩) n cap] → _ ∧ _ ∧ _ ∧ _ ∧ _ ∧ _ from fun W h => And.intro (h.1.cell 1) (And.intro (h.1.cell 2) (And.intro (h.2.1.cell 0) (And.intro (h.2.1.cell 1) (And.intro (h.2.2.cell 0) (h.2.2.cell 1))))))
      have S0 := Lib.hid (show (fun W => Blk W K.s 93 [.slice K.la L.length K.lc, .map (some K.b), .pointer (some ⟨K.q, 0, none⟩)] ∧ Blk W pb 96 [.int .i64 x, .int .i64 (j : Int)] ∧ Blk W fb 86 [.int .i64 c, .slice (some ⟨b, o, none⟩) n cap]) w7 from ⟨H7.out.head, Q7.out, F7.out⟩)
      obtain ⟨w8, hrun, hn8, hg8⟩ := (H7.out.drew).notes.put HWF.out HU.out (c, (⟨some ⟨b, o, none⟩, n, cap⟩ : Rs))
      have RUN := Lib.hid (show (Instr.mapUpdate 90 (.map (some K.b)) (.agg #[.int .i64 x, .int .i64 (j : Int)]) (.agg #[.int .i64 c, .slice (some ⟨b, o, none⟩) n cap])).run Tryz.prog w7.drew = .ok () w8 from hrun)
      have N8 := Lib.hid hn8
      have G8 := Lib.hid hg8
      have S8 := Lib.hid (show (fun W => Blk W K.s 93 [.slice K.la L.length K.lc, .map (some K.b), .pointer (some ⟨K.q, 0, none⟩)] ∧ Blk W pb 96 [.int .i64 x, .int .i64 (j : Int)] ∧ Blk W fb 86 [.int .i64 c, .slice (some ⟨b, o, none⟩) n cap]) w8 from ⟨S0.out.1.same (hg8.block _ H7.out.head.lt (by have := H7.out.apart.1.1; simpa using this)), S0.out.2.1.same (hg8.block _ S0.out.2.1.lt (by have := ne_ty0 S0.out.2.1.ty H7.out.notes.ty; simpa using this)), S0.out.2.2.same (hg8.block _ S0.out.2.2.lt (by have := ne_ty0 S0.out.2.2.ty H7.out.notes.ty; simpa using this))⟩)
      clear hrun hn8 hg8
      go_wp2_with fail
      refine region_seq (fun W => Blk W K.s 93 [.slice K.la L.length K.lc, .map (some K.b), .pointer (some ⟨K.q, 0, none⟩)] ∧ Blk W pb 96 [.int .i64 x, .int .i64 (j : Int)] ∧ Blk W fb 86 [.int .i64 c, .slice (some ⟨b, o, none⟩) n cap]) [(0, true), (1, true), (2, true), (3, true), (4, true), (5, true), (6, false)]
        (by kernel_rfl) (by kernel_rfl) (by kernel_rfl) (by kernel_rfl) (fun _ _ _ _ _ h => h) S0.out ?_
      repeat
        refine seq_pure (v := ?_) rfl (by rfl) (fun W hW => ?_) ?_
        rotate_left
        · obtain ⟨t0, t1, t2, t3, t4, t5⟩ := SS.out W hW
          clear hW
          go_simp
          with_reducible rfl
        simp only [Act.put, List.setIfInBounds_toArray, List.set_cons_zero, List.set_cons_succ]
      refine seq_make rfl (by rfl) (fun K' hK' => ?_)
      refine wp_update17 (T := 90) rfl rfl rfl rfl RUN.out ?_
      simp only [Act.put]
      refine hK' _ _ (fun W => Blk W K.s 93 [.slice K.la L.length K.lc, .map (some K.b), .pointer (some ⟨K.q, 0, none⟩)] ∧ Blk W pb 96 [.int .i64 x, .int .i64 (j : Int)] ∧ Blk W fb 86 [.int .i64 c, .slice (some ⟨b, o, none⟩) n cap]) (fun W h => h) S8.out ?_
      clear hK' K'
      refine seq_done ?_
      have hqe : Qe w8 w0.heap.size K.q K.p g Q := (H7.out.drew).queue.other G8.out (Ne.symm H7.out.apart.2.1) (Ne.symm H7.out.apart.2.2.1) (Ne.symm H7.out.apart.2.2.2)
      have hsz8 : w0.heap.size ≤ w8.heap.size := Nat.le_trans H7.out.bel.size G8.out.size
      have hp := qpush_calls (show Qe w8.drew w0.heap.size K.q K.p g Q from hqe.drewN 1) ⟨c, (j : Int), x⟩ (show w0.heap.size ≤ w8.drew.heap.size from hsz8)
      rw [show (Value.agg (itL ⟨c, (j : Int), x⟩).toArray) = .agg #[.int .i64 c, .int .i64 (j : Int), .int .i64 x] from rfl] at hp
      unfold QPushPost at hp
      rw [if_neg (show ¬ 1024 ≤ Q.length by have := HQ.out; omega), if_neg (show ¬ 1024 ≤ Q.length by have := HQ.out; omega)] at hp
      have HP := Lib.hid hp
      clear hp hqe hsz8
      go_wp2_with fail
      refine region_seq (fun W => Blk W K.s 93 [.slice K.la L.length K.lc, .map (some K.b), .pointer (some ⟨K.q, 0, none⟩)] ∧ Blk W pb 96 [.int .i64 x, .int .i64 (j : Int)] ∧ Blk W fb 86 [.int .i64 c, .slice (some ⟨b, o, none⟩) n cap]) [(0, true), (1, true), (2, true), (3, true), (4, true), (5, true), (6, true), (7, true), (8, true), (9, true), (10, true), (11, false)]
        (by kernel_rfl) (by kernel_rfl) (by kernel_rfl) (by kernel_rfl) (fun _ _ _ _ _ h => h) S8.out ?_
      repeat
        refine seq_pure (v := ?_) rfl (by rfl) (fun W hW => ?_) ?_
        rotate_left
        · obtain ⟨t0, t1, t2, t3, t4, t5⟩ := SS.out W hW
          clear hW
          go_simp
          with_reducible rfl
        simp only [Act.put, List.setIfInBounds_toArray, List.set_cons_zero, List.set_cons_succ]
      refine seq_make rfl (by rfl) (fun K' hK' => ?_)
      go_simp
      ((with_reducible refine HP.out.mono ?_))
      rintro e w9 ⟨rfl, g9, hq9, ht9, hg9⟩
      go_simp
      have t1 : Turn [K.b, K.p, g] w w8 := (Turn.of_below (LT.out.trans (LW.out.mono LT.out.size))).trans (Turn.trans (Turn.of_below (Below.refl _ _).drew) (Turn.of_grown G8.out (by simp)))
      have t2 : Turn [K.b, K.p, g] w8 w9 := Turn.trans (Turn.of_below (Below.refl _ _).drew) (turn_more ht9 (by simp))
      have t3 : Turn [K.b, K.p, g] w7 w9 := (Turn.trans (Turn.of_below (Below.refl _ _).drew) (Turn.of_grown G8.out (by simp))).trans t2
      have T1 := Lib.hid (t1.trans t2)
      have n9 : Nts w9 K.b (u + 1) (eset E x j (c, ⟨some ⟨b, o, none⟩, n, cap⟩)) := N8.out.same (ht9.block _ N8.out.lt (by have h1 := H7.out.apart.2.2; simp; omega))
      have a9 : AccI w9 w0.heap.size (some ⟨b, o, none⟩) cap r := accr_off11 A7.out t3 (fun y hy => H7.out.off (accr_ty A7.out hy) (by decide) (by decide))
      have H9 := Lib.hid (show Sea17 w0 w9 K g9 (u + 1) L (eset E x j (c, ⟨some ⟨b, o, none⟩, n, cap⟩)) (nset S x j (c, r)) (insQ ⟨c, (j : Int), x⟩ Q) from H7.out.turn t3 n9 hq9 (fun y i => by
        by_cases e : y = x ∧ i = j
        · right
          unfold eset nset
          rw [if_pos e, if_pos e]
          exact ⟨rfl, HC.out, HR.out.symm, ⟨by show 1 ≤ n; have := HN.out; omega, hn2⟩, a9⟩
        · left
          unfold eset nset
          rw [if_neg e, if_neg e]
          exact ⟨rfl, rfl⟩))
      have S9 := Lib.hid (show (fun W => Blk W K.s 93 [.slice K.la L.length K.lc, .map (some K.b), .pointer (some ⟨K.q, 0, none⟩)] ∧ Blk W pb 96 [.int .i64 x, .int .i64 (j : Int)] ∧ Blk W fb 86 [.int .i64 c, .slice (some ⟨b, o, none⟩) n cap]) w9 from ⟨H9.out.head, S8.out.2.1.same (t2.block _ S8.out.2.1.lt (H7.out.off S0.out.2.1.ty (by decide) (by decide))), S8.out.2.2.same (t2.block _ S8.out.2.2.lt (H7.out.off S0.out.2.2.ty (by decide) (by decide)))⟩)
      have G9 := Lib.hid (show g9 = g ∨ w.heap.size ≤ g9 from by
        rcases hg9 with h | h
        · exact .inl h
        · have := t1.size
          exact .inr (Nat.le_trans this h))
      clear t1 t2 t3 n9 a9 hq9 ht9 hg9
      refine hK' _ _ (fun W => Blk W K.s 93 [.slice K.la L.length K.lc, .map (some K.b), .pointer (some ⟨K.q, 0, none⟩)] ∧ Blk W pb 96 [.int .i64 x, .int .i64 (j : Int)] ∧ Blk W fb 86 [.int .i64 c, .slice (some ⟨b, o, none⟩) n cap]) (fun W h => h) S9.out ?_
      clear hK' K'
      refine seq_done ?_
      go_wp2
      go_end0
      exact ⟨rfl, g9, ⟨T1.out, G9.out⟩, .inr ⟨HYES.out, _, H9.out⟩⟩
end Go.Proofs.YtjflbfianncpfaaGreat
