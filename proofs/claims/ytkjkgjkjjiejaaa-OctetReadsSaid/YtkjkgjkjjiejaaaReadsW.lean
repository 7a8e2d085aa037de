/-
  The walk of the statement OctetReads: for any bytes and any calls it answers true, and nothing that was there has turned. Conditions: at most 4096 bytes (above them the statement answers true at once).
-/
import Derived.Test.YtkjkgjkjjiejaaaWrongW
import Derived.Test.YtkjkgjkjjiejaaaRefD
import Derived.Deep.DeepCutAuto
namespace Go.Proofs.Ytkjkgjkjjiejaaa
open Go.RowKit

theorem Rdr.drew {w : World} {r g i : Nat} {l : List UInt8} {err : Int} (h : Rdr w r g l i err) : Rdr w.drew r g l i err := h

/-- The reader in block 'r' and the document's in block 'M' are at the same place, with the same error. -/
def Both (w W : World) (r g M : Nat) (a : Option Addr) (n c : Nat) (l : List UInt8) (pos : Nat) (err : Int) : Prop :=
  Rdr W r g l pos err ∧ W.heap[M]? = some (.cells #[.slice a n c, .int .i64 (pos : Int), .int .i64 err] 28 (0, 0)) ∧ Below w.heap.size w W

theorem row_set {w : World} {q : Nat} {cs : Array Value} {t : TypeId} (hq : w.heap[q]? = some (.cells cs t (0, 0))) (k : Nat) (u : Value) : (w.setCell ⟨q, k, none⟩ u).heap[q]? = some (.cells (cs.setIfInBounds k u) t (0, 0)) := by
  simp [World.setCell, Array.getElem?_modify, hq]

/-- Bytes lie in no block that holds a reader of the document's. -/
theorem Bts.off {w : World} {B n : Nat} {a : Option Addr} {l : List UInt8} {q : Nat} {T : TypeId} {s : Option Addr} {s1 s2 : Nat} {x y : Int} (h : Bts w B a n l) (hq : w.heap[q]? = some (.cells #[.slice s s1 s2, .int .i64 x, .int .i64 y] T (0, 0))) :
    0 < n → ∀ b, blk a = some b → b ≠ q := by
  rintro hn b hb rfl
  obtain ⟨b', o, rfl, _, hc⟩ := h.2 hn
  injection hb with hb
  have hb' : b' = b := hb
  subst hb'
  have hl := h.1
  have h0 := hc 0 (by omega)
  rw [cell_of_row w b' (o + 0) _ _ _ hq] at h0
  match o, h0 with
  | 0, h0 => simp [bv] at h0
  | 1, h0 => simp [bv] at h0
  | 2, h0 => simp [bv] at h0
  | o + 3, h0 => simp at h0
theorem Bts.far {w : World} {B n : Nat} {a : Option Addr} {l : List UInt8} {q k : Nat} {u : Value} (h : Bts w B a n l) (hq : 0 < n → ∀ b, blk a = some b → b ≠ q) : Bts (w.setCell ⟨q, k, none⟩ u) B a n l :=
  ⟨h.1, fun hn => by
    obtain ⟨b, o, e, hb, hc⟩ := h.2 hn
    subst e
    exact ⟨b, o, rfl, hb, fun i hi => (World.cell?_of_block (w := w) (Below.heap_setCell _ _ _ _ (hq hn b rfl))).trans (hc i hi)⟩⟩

/-- The document's reader is turned: the program's stays as it is, and the two are alike again. -/
theorem both_set {w wc : World} {r g M : Nat} {a : Option Addr} {n c : Nat} {l : List UInt8} {pos pos' : Nat} {err err' : Int} (hr : Rdr wc r g l pos' err')
    (hM : wc.heap[M]? = some (.cells #[.slice a n c, .int .i64 (pos : Int), .int .i64 err] 28 (0, 0))) (hb : Below w.heap.size w wc) (hM' : w.heap.size ≤ M) :
    Both w (((wc.setCell ⟨M, 0, none⟩ (.slice a n c)).setCell ⟨M, 1, none⟩ (.int .i64 (pos' : Int))).setCell ⟨M, 2, none⟩ (.int .i64 err')) r g M a n c l pos' err' := by
  have hMr : r ≠ M := by
    rintro rfl
    rw [hr.1] at hM
    injection hM with e1
    injection e1 with _ e2
    exact absurd e2 (by decide)
  have hMg : g ≠ M := by
    rintro rfl
    have h2 := hr.2.1
    unfold Own at h2
    rw [h2] at hM
    injection hM with e1
    injection e1 with _ e2
    exact absurd e2 (by decide)
  refine ⟨?_, ?_, ?_⟩
  · refine hr.same ?_ ?_
    · rw [Below.heap_setCell _ _ _ _ hMr, Below.heap_setCell _ _ _ _ hMr, Below.heap_setCell _ _ _ _ hMr]
    · rw [Below.heap_setCell _ _ _ _ hMg, Below.heap_setCell _ _ _ _ hMg, Below.heap_setCell _ _ _ _ hMg]
  · exact (row_set (row_set (row_set hM _ _) _ _) _ _).trans rfl
  · exact ((hb.setCell (p := ⟨M, 0, none⟩) hM' _).setCell (p := ⟨M, 1, none⟩) hM' _).setCell (p := ⟨M, 2, none⟩) hM' _

/-- What a call of the document's reader leaves: its new state in a block of its own, and a number. -/
def CutU (W : World) (a : Option Addr) (n c pos : Nat) (err : Int) (v : Nat) (s t : Value) (wx : World) : Prop :=
  ∃ p, s = .pointer (some ⟨p, 0, none⟩) ∧ t = .int .u64 (v : Int) ∧ W.heap.size ≤ p ∧ wx.heap[p]? = some (.cells #[.slice a n c, .int .i64 (pos : Int), .int .i64 err] 28 (0, 0)) ∧ Below W.heap.size W wx

/-- What a call of the document's reader leaves: its new state in a block of its own, and bytes. -/
def CutB (W : World) (a : Option Addr) (n c pos : Nat) (err : Int) (lst : List UInt8) (s t : Value) (wx : World) : Prop :=
  ∃ p A c3, s = .pointer (some ⟨p, 0, none⟩) ∧ t = .slice A lst.length c3 ∧ W.heap.size ≤ p ∧ wx.heap[p]? = some (.cells #[.slice a n c, .int .i64 (pos : Int), .int .i64 err] 28 (0, 0)) ∧
    Bts wx wx.heap.size A lst.length lst ∧ Below W.heap.size W wx

set_option maxRecDepth 100000 in
set_option maxHeartbeats 4000000 in
theorem reads_walk (a : Option Addr) (n c : Nat) (l : List UInt8) (a2 : Option Addr) (n2 c2 : Nat) (os : List (Int × Bool)) (w : World) (h : Bts w w.heap.size a n l) (hn : n ≤ 4096) (ho : Ops w w.heap.size a2 n2 os) (hn2 : n2 ≤ 9223372036854775807) :
    Calls Try.prog 3 #[.slice a n c, .slice a2 n2 c2] w fun e w' => e = .returned (.bool true) ∧ Below w.heap.size w w' := by
  have HB := Lib.hid h
  have HO := Lib.hid ho
  have HLN := Lib.hid h.1
  clear h ho
  go_enter Try.func3, Try.ntmps3
  go_wp2_with fail
  ((with_reducible refine (alive_calls w).mono ?_))
  rintro e w1 ⟨rfl, b1⟩
  go_wp2_with fail
  ((with_reducible refine (new_calls a n c l w1 ((HB.out.below b1).more b1.size) (by omega)).mono ?_))
  rintro e w2 ⟨r, g, rfl, hr, hg, h2, b2⟩
  have b2' := bel_more b1 (Nat.le_refl _) b2
  have hr' : w.heap.size ≤ r := Nat.le_trans b1.size hr
  have H2 := Lib.hid h2
  have B2 := Lib.hid b2'
  clear h2 b2 b2' b1 hr hg
  go_wp2_with fail
  obtain ⟨M, hM⟩ : ∃ M, M = w2.heap.size := ⟨_, rfl⟩
  have hM' : w.heap.size ≤ M := by rw [hM]; exact B2.out.size
  have hBoth : Both w (w2.alloc (.cells #[.slice a n c, .int .i64 0, .int .i64 0] 28)) r g M a n c l 0 0 :=
    ⟨H2.out.bel ((Below.refl _ _).alloc (Nat.le_refl _) _), by rw [hM]; exact heap_alloc_new w2 _, B2.out.alloc B2.out.size _⟩
  rw [← hM]
  have HH := Lib.hid hBoth
  clear hBoth hM
  go_loopw [7] (fun t W => ∃ k pos : Nat, ∃ err : Int, k ≤ 64 ∧ k ≤ n2 ∧ t = .int .i64 (k : Int) ∧ Both w W r g M a n c l pos err) (fun t _ => 64 - (intOf t).toNat)
  case atStart => exact ⟨0, 0, 0, by omega, by omega, rfl, HH.out⟩
  case round =>
    obtain ⟨k, pos, err, hk, hkn, rfl, hb⟩ := hrel
    have HR := Lib.hid hb.1
    have HM := Lib.hid hb.2.1
    have HBel := Lib.hid hb.2.2
    have hpos : pos ≤ l.length := hb.1.2.2.1
    have hll : l.length ≤ 140737488355328 := hb.1.2.2.2
    clear hb
    by_cases h1 : k < n2
    · by_cases h2 : k < 64
      · obtain ⟨b, o, rfl, hbB, hc⟩ := (HO.out.below HBel.out).2 (by omega)
        have hol : os.length = n2 := HO.out.1
        have hc1 := (hc k (by omega)).1
        have hc2 := (hc k (by omega)).2
        have HOL := Lib.hid hol
        generalize os[k].1 = N at hc1
        generalize os[k].2 = raw at hc2
        clear hc hol
        cases raw
        · go_wp2_with fail
          ((with_reducible refine (uint_any HR.out N).mono ?_))
          rintro e w4 ⟨rfl, h4, u4⟩
          have H4 := Lib.hid h4
          have hMr : M ≠ r := by
            rintro rfl
            have e1 := HM.out
            rw [HR.out.1] at e1
            injection e1 with e1
            injection e1 with _ e2
            exact absurd e2 (by decide)
          have hM4 : w4.heap[M]? = some (.cells #[.slice a n c, .int .i64 (pos : Int), .int .i64 err] 28 (0, 0)) := (u4.block M (by
            rcases Nat.lt_or_ge M wr.heap.size with hlt | hge
            · exact hlt
            · have := HM.out; rw [Array.getElem?_eq_none hge] at this; cases this) (by simpa using hMr)).trans HM.out
          have hB4 : Below w.heap.size w w4 := bel_upd HBel.out u4 (Nat.le_refl _) hr'
          have HM4 := Lib.hid hM4
          have HB4 := Lib.hid hB4
          have d1 : w4.cell? ⟨b, o + k * 2, none⟩ = some (.int .i64 N) := (World.cell?_of_block (w := wr) ((hB4.block b hbB).trans (HBel.out.block b hbB).symm)).trans hc1
          have m0 : w4.cell? ⟨M, 0, none⟩ = some (.slice a n c) := (cell_of_row w4 _ 0 _ _ _ hM4).trans rfl
          have m1 : w4.cell? ⟨M, 1, none⟩ = some (.int .i64 (pos : Int)) := (cell_of_row w4 _ 1 _ _ _ hM4).trans rfl
          have m2 : w4.cell? ⟨M, 2, none⟩ = some (.int .i64 err) := (cell_of_row w4 _ 2 _ _ _ hM4).trans rfl
          have hMlt : M < w4.heap.size := by
            rcases Nat.lt_or_ge M w4.heap.size with hlt | hge
            · exact hlt
            · rw [Array.getElem?_eq_none hge] at hM4; cases hM4
          have hblt : b < w4.heap.size := Nat.lt_of_lt_of_le hbB hB4.size
          have hpn : pos ≤ n := by rw [← HLN.out]; exact hpos
          have KS := Lib.hid (show ∀ W, Below w4.heap.size w4 W → W.cell? ⟨M, 0, none⟩ = some (.slice a n c) ∧ W.cell? ⟨M, 1, none⟩ = some (.int .i64 (pos : Int)) ∧ W.cell? ⟨M, 2, none⟩ = some (.int .i64 err) ∧ W.cell? ⟨b, o + k * 2, none⟩ = some (.int .i64 N) from
            fun W hW => ⟨(hW.cell (p := ⟨M, 0, none⟩) hMlt).trans m0, (hW.cell (p := ⟨M, 1, none⟩) hMlt).trans m1, (hW.cell (p := ⟨M, 2, none⟩) hMlt).trans m2, (hW.cell (p := ⟨b, o + k * 2, none⟩) hblt).trans d1⟩)
          have BB4 := Lib.hid ((HB.out.below hB4).more hB4.size)
          clear h4 hM4 hB4 u4 hc1 hc2
          go_upto_region 19 with fail
          go_cut [12, 13] from 70 to 79 (fun s t wx => CutU w4 a n c (uPos l pos err N) (uErr l pos err N) (uVal l pos err N) s t wx)
          case first =>
            refine region_way (fun W => W.cell? ⟨M, 0, none⟩ = some (.slice a n c) ∧ W.cell? ⟨M, 1, none⟩ = some (.int .i64 (pos : Int)) ∧ W.cell? ⟨M, 2, none⟩ = some (.int .i64 err) ∧ W.cell? ⟨b, o + k * 2, none⟩ = some (.int .i64 N))
              (.step 0 true (.step 1 true (.step 2 true (.step 3 true (.step 4 true (.step 5 true (.both 6 10 (.step 7 true (.step 8 true (.step 9 true (.step 10 false (.step 11 false (.step 12 true .done)))))) (.step 6 false (.step 7 true (.step 8 true (.step 9 true (.step 11 false (.step 12 true .done)))))))))))))
              (by kernel_rfl) (by kernel_rfl) (by kernel_rfl) (by kernel_rfl) (fun _ _ _ _ _ h => h) ⟨m0, m1, m2, d1⟩ ?_
            repeat
              refine way_pure (v := ?_) rfl (by rfl) (fun W hW => ?_) ?_
              rotate_left
              · go_simp
                try with_reducible rfl
              simp only [Act.put, List.setIfInBounds_toArray, List.set_cons_zero, List.set_cons_succ]
            refine way_both rfl (by rfl) rfl (by rfl) (fun K hK => ?_) (fun K hK => ?_)
            · go_simp
              ((with_reducible refine (refuint_calls a n c pos l err N w4.drew BB4.out.drewS hn hpn).mono ?_))
              rintro e w5 ⟨rfl, b5⟩
              simp only [rv]
              have B5 := Lib.hid (below_of_drew b5)
              clear b5
              go_simp
              refine hK _ w5 _ (fun W h => h) (KS.out _ B5.out) ?_
              clear hK K
              repeat
                refine way_pure (v := ?_) rfl (by rfl) (fun W hW => ?_) ?_
                rotate_left
                · go_simp
                  try with_reducible rfl
                simp only [Act.put, List.setIfInBounds_toArray, List.set_cons_zero, List.set_cons_succ]
              refine way_make rfl (by rfl) (fun K hK => ?_)
              go_simp
              refine hK _ _ _ (fun W h => h) (KS.out _ (B5.out.alloc B5.out.size _)) ?_
              clear hK K
              refine way_make rfl (by rfl) (fun K hK => ?_)
              go_simp
              refine hK _ _ _ (fun W h => h) (KS.out _ (B5.out.alloc B5.out.size _)) ?_
              clear hK K
              repeat
                refine way_pure (v := ?_) rfl (by rfl) (fun W hW => ?_) ?_
                rotate_left
                · go_simp
                  try with_reducible rfl
                simp only [Act.put, List.setIfInBounds_toArray, List.set_cons_zero, List.set_cons_succ]
              refine way_done ?_
              go_wp2_with fail
              go_meet
              exact ⟨w5.heap.size, rfl, rfl, B5.out.size, heap_alloc_new w5 _, B5.out.alloc B5.out.size _⟩
            · go_simp
              have bA : Below w4.heap.size w4 (w4.alloc (.cells #[.slice none 0 0, .int .i64 0, .int .i64 0] 28)) := (Below.refl _ _).alloc (Nat.le_refl _) _
              have BA := Lib.hid bA
              refine hK _ _ _ (fun W h => h) (KS.out _ bA.drew) ?_
              clear hK K bA
              refine way_make rfl (by rfl) (fun K hK => ?_)
              go_simp
              ((with_reducible refine (refuint_calls a n c pos l err N _ ((BB4.out.below BA.out).more BA.out.size).drewS hn hpn).mono ?_))
              rintro e w5 ⟨rfl, b5⟩
              simp only [rv]
              have B5 := Lib.hid (below_of_drew b5)
              have hz : (w4.alloc (.cells #[.slice none 0 0, .int .i64 0, .int .i64 0] 28)).heap.size = w4.heap.size + 1 := by simp
              have hq1 : w5.heap[w4.heap.size]? = some (.cells #[.slice none 0 0, .int .i64 0, .int .i64 0] 28 (0, 0)) := (B5.out.block _ (by rw [hz]; omega)).trans (heap_alloc_new w4 _)
              have b6 : Below w4.heap.size w4 w5 := BA.out.trans (B5.out.mono (by rw [hz]; omega))
              have B6 := Lib.hid b6
              have HQ1 := Lib.hid hq1
              have y0 : w5.cell? ⟨w4.heap.size, 0, none⟩ = some (.slice none 0 0) := (cell_of_row w5 _ 0 _ _ _ hq1).trans rfl
              have y1 : w5.cell? ⟨w4.heap.size, 1, none⟩ = some (.int .i64 0) := (cell_of_row w5 _ 1 _ _ _ hq1).trans rfl
              have y2 : w5.cell? ⟨w4.heap.size, 2, none⟩ = some (.int .i64 0) := (cell_of_row w5 _ 2 _ _ _ hq1).trans rfl
              have g0 : w5.frozen? ⟨w4.heap.size, 0, none⟩ = false := by simp [World.frozen?, hq1]
              have g1 : w5.frozen? ⟨w4.heap.size, 1, none⟩ = false := by simp [World.frozen?, hq1]
              have g2 : w5.frozen? ⟨w4.heap.size, 2, none⟩ = false := by simp [World.frozen?, hq1]
              clear b5 hz hq1 b6
              go_simp
              refine hK _ w5 _ (fun W h => h) (KS.out _ B6.out) ?_
              clear hK K
              repeat
                refine way_pure (v := ?_) rfl (by rfl) (fun W hW => ?_) ?_
                rotate_left
                · go_simp
                  try with_reducible rfl
                simp only [Act.put, List.setIfInBounds_toArray, List.set_cons_zero, List.set_cons_succ]
              refine way_make rfl (by rfl) (fun K hK => ?_)
              go_simp
              have b7 := ((B6.out.setCell (p := ⟨w4.heap.size, 0, none⟩) (Nat.le_refl _) (.slice a n c)).setCell (p := ⟨w4.heap.size, 1, none⟩) (Nat.le_refl _) (.int .i64 ((uPos l pos err N : Nat) : Int))).setCell (p := ⟨w4.heap.size, 2, none⟩) (Nat.le_refl _) (.int .i64 (uErr l pos err N))
              have B7 := Lib.hid b7
              refine hK _ _ _ (fun W h => h) (KS.out _ b7) ?_
              clear hK K b7
              repeat
                refine way_pure (v := ?_) rfl (by rfl) (fun W hW => ?_) ?_
                rotate_left
                · go_simp
                  try with_reducible rfl
                simp only [Act.put, List.setIfInBounds_toArray, List.set_cons_zero, List.set_cons_succ]
              refine way_done ?_
              go_wp2_with fail
              go_meet
              exact ⟨w4.heap.size, rfl, rfl, Nat.le_refl _, (row_set (row_set (row_set HQ1.out _ _) _ _) _ _).trans rfl, B7.out⟩
          case rest =>
            obtain ⟨p, rfl, rfl, hp, hrow, hbel⟩ := hcut
            have hbt' : Below w.heap.size w wc := bel_more HB4.out (Nat.le_refl _) hbel
            have hMc := (hbel.block M hMlt).trans HM4.out
            have hRc := H4.out.bel hbel
            have hboth := both_set (w := w) hRc hMc hbt' hM'
            have HH2 := Lib.hid hboth
            have hp' : uPos l pos err N ≤ n := by rw [← HLN.out]; exact H4.out.2.2.1
            have hneq : (((l.length : Int) - ((uPos l pos err N : Nat) : Int)) != ((n : Int) - ((uPos l pos err N : Nat) : Int))) = false := by rw [HLN.out]; simp
            have p0 : wc.cell? ⟨p, 0, none⟩ = some (.slice a n c) := (cell_of_row wc _ 0 _ _ _ hrow).trans rfl
            have p1 : wc.cell? ⟨p, 1, none⟩ = some (.int .i64 ((uPos l pos err N : Nat) : Int)) := (cell_of_row wc _ 1 _ _ _ hrow).trans rfl
            have p2 : wc.cell? ⟨p, 2, none⟩ = some (.int .i64 (uErr l pos err N)) := (cell_of_row wc _ 2 _ _ _ hrow).trans rfl
            have q0 : wc.cell? ⟨M, 0, none⟩ = some (.slice a n c) := (cell_of_row wc _ 0 _ _ _ hMc).trans rfl
            have q1 : wc.cell? ⟨M, 1, none⟩ = some (.int .i64 (pos : Int)) := (cell_of_row wc _ 1 _ _ _ hMc).trans rfl
            have q2 : wc.cell? ⟨M, 2, none⟩ = some (.int .i64 err) := (cell_of_row wc _ 2 _ _ _ hMc).trans rfl
            have g0 : wc.frozen? ⟨M, 0, none⟩ = false := by simp [World.frozen?, hMc]
            have g1 : wc.frozen? ⟨M, 1, none⟩ = false := by simp [World.frozen?, hMc]
            have g2 : wc.frozen? ⟨M, 2, none⟩ = false := by simp [World.frozen?, hMc]
            clear hboth hRc hMc hbt' hrow hbel d1 m0 m1 m2
            go_wp2_with fail
            obtain ⟨W5, hW5⟩ : ∃ W5, W5 = ((wc.setCell ⟨M, 0, none⟩ (.slice a n c)).setCell ⟨M, 1, none⟩ (.int .i64 ((uPos l pos err N : Nat) : Int))).setCell ⟨M, 2, none⟩ (.int .i64 (uErr l pos err N)) := ⟨_, rfl⟩
            rw [← hW5] at HH2 ⊢
            clear hW5 g0 g1 g2 q0 q1 q2 p0 p1 p2
            have hM5 := HH2.out.2.1
            have HR5 := Lib.hid HH2.out.1
            have c0 : W5.cell? ⟨M, 0, none⟩ = some (.slice a n c) := (cell_of_row W5 _ 0 _ _ _ hM5).trans rfl
            have c1 : W5.cell? ⟨M, 1, none⟩ = some (.int .i64 ((uPos l pos err N : Nat) : Int)) := (cell_of_row W5 _ 1 _ _ _ hM5).trans rfl
            have c3 : W5.cell? ⟨M, 2, none⟩ = some (.int .i64 (uErr l pos err N)) := (cell_of_row W5 _ 2 _ _ _ hM5).trans rfl
            have hM5lt : M < W5.heap.size := by
              rcases Nat.lt_or_ge M W5.heap.size with hlt | hge
              · exact hlt
              · rw [Array.getElem?_eq_none hge] at hM5; cases hM5
            clear hM5
            refine region_seq (fun W => W.cell? ⟨M, 0, none⟩ = some (.slice a n c) ∧ W.cell? ⟨M, 1, none⟩ = some (.int .i64 ((uPos l pos err N : Nat) : Int)) ∧ W.cell? ⟨M, 2, none⟩ = some (.int .i64 (uErr l pos err N)))
              [(0, true), (2, true), (1, false), (3, false), (4, true), (5, true), (6, true), (8, true), (9, true), (7, false), (10, true), (11, true)]
              (by kernel_rfl) (by kernel_rfl) (by kernel_rfl) (by kernel_rfl) (fun _ _ _ _ _ h => h) ⟨c0, c1, c3⟩ ?_
            repeat
              refine seq_pure (v := ?_) rfl (by rfl) (fun W hW => ?_) ?_
              rotate_left
              · go_simp
                try with_reducible rfl
              simp only [Act.put, List.setIfInBounds_toArray, List.set_cons_zero, List.set_cons_succ]
            refine seq_make rfl (by rfl) (fun K hK => ?_)
            go_simp
            ((with_reducible refine (left_calls HR5.out.drew).mono ?_))
            rintro e w6 ⟨rfl, m, rfl⟩
            go_simp
            refine hK _ _ _ (fun W h => h) ⟨c0, c1, c3⟩ ?_
            clear hK K
            refine seq_make rfl (by rfl) (fun K hK => ?_)
            go_simp
            ((with_reducible refine (refleft_calls a n c _ _ _ hn hp').mono ?_))
            rintro e w7 ⟨rfl, b7⟩
            have b8 : Below W5.heap.size W5 w7 := ⟨b7.os, b7.tape, b7.output, b7.size, b7.block⟩
            have B8 := Lib.hid b8
            have HB7 := Lib.hid (show Both w w7 r g M a n c l (uPos l pos err N) (uErr l pos err N) from ⟨HH2.out.1.bel b8, (b8.block M hM5lt).trans HH2.out.2.1, bel_more HH2.out.2.2 (Nat.le_refl _) b8⟩)
            have HR7 := Lib.hid HB7.out.1
            clear b7 b8
            go_simp
            refine hK _ _ _ (fun W h => h) ⟨(B8.out.cell (p := ⟨M, 0, none⟩) hM5lt).trans c0, (B8.out.cell (p := ⟨M, 1, none⟩) hM5lt).trans c1, (B8.out.cell (p := ⟨M, 2, none⟩) hM5lt).trans c3⟩ ?_
            clear hK K
            repeat
              refine seq_pure (v := ?_) rfl (by rfl) (fun W hW => ?_) ?_
              rotate_left
              · go_simp
                try with_reducible rfl
              simp only [Act.put, List.setIfInBounds_toArray, List.set_cons_zero, List.set_cons_succ]
            refine seq_make rfl (by rfl) (fun K hK => ?_)
            go_simp
            ((with_reducible refine (err_calls HR7.out).mono ?_))
            rintro e w8 ⟨rfl, rfl⟩
            go_simp
            refine hK _ _ _ (fun W h => h) ⟨(B8.out.cell (p := ⟨M, 0, none⟩) hM5lt).trans c0, (B8.out.cell (p := ⟨M, 1, none⟩) hM5lt).trans c1, (B8.out.cell (p := ⟨M, 2, none⟩) hM5lt).trans c3⟩ ?_
            clear hK K
            repeat
              refine seq_pure (v := ?_) rfl (by rfl) (fun W hW => ?_) ?_
              rotate_left
              · go_simp
                try with_reducible rfl
              simp only [Act.put, List.setIfInBounds_toArray, List.set_cons_zero, List.set_cons_succ]
            refine seq_done ?_
            go_wp2
            exact ⟨⟨k + 1, _, _, by omega, by omega, by go_num, HB7.out⟩, by simp [intOf]; omega⟩
        · go_wp2_with fail
          ((with_reducible refine (bytes_any HR.out N).mono ?_))
          rintro e w4 ⟨xa, xc, rfl, hx, h4, u4⟩
          have HX := Lib.hid hx
          clear hx
          have H4 := Lib.hid h4
          have hMr : M ≠ r := by
            rintro rfl
            have e1 := HM.out
            rw [HR.out.1] at e1
            injection e1 with e1
            injection e1 with _ e2
            exact absurd e2 (by decide)
          have hM4 : w4.heap[M]? = some (.cells #[.slice a n c, .int .i64 (pos : Int), .int .i64 err] 28 (0, 0)) := (u4.block M (by
            rcases Nat.lt_or_ge M wr.heap.size with hlt | hge
            · exact hlt
            · have := HM.out; rw [Array.getElem?_eq_none hge] at this; cases this) (by simpa using hMr)).trans HM.out
          have hB4 : Below w.heap.size w w4 := bel_upd HBel.out u4 (Nat.le_refl _) hr'
          have HM4 := Lib.hid hM4
          have HB4 := Lib.hid hB4
          have d1 : w4.cell? ⟨b, o + k * 2, none⟩ = some (.int .i64 N) := (World.cell?_of_block (w := wr) ((hB4.block b hbB).trans (HBel.out.block b hbB).symm)).trans hc1
          have m0 : w4.cell? ⟨M, 0, none⟩ = some (.slice a n c) := (cell_of_row w4 _ 0 _ _ _ hM4).trans rfl
          have m1 : w4.cell? ⟨M, 1, none⟩ = some (.int .i64 (pos : Int)) := (cell_of_row w4 _ 1 _ _ _ hM4).trans rfl
          have m2 : w4.cell? ⟨M, 2, none⟩ = some (.int .i64 err) := (cell_of_row w4 _ 2 _ _ _ hM4).trans rfl
          have hMlt : M < w4.heap.size := by
            rcases Nat.lt_or_ge M w4.heap.size with hlt | hge
            · exact hlt
            · rw [Array.getElem?_eq_none hge] at hM4; cases hM4
          have hblt : b < w4.heap.size := Nat.lt_of_lt_of_le hbB hB4.size
          have hpn : pos ≤ n := by rw [← HLN.out]; exact hpos
          have KS := Lib.hid (show ∀ W, Below w4.heap.size w4 W → W.cell? ⟨M, 0, none⟩ = some (.slice a n c) ∧ W.cell? ⟨M, 1, none⟩ = some (.int .i64 (pos : Int)) ∧ W.cell? ⟨M, 2, none⟩ = some (.int .i64 err) ∧ W.cell? ⟨b, o + k * 2, none⟩ = some (.int .i64 N) from
            fun W hW => ⟨(hW.cell (p := ⟨M, 0, none⟩) hMlt).trans m0, (hW.cell (p := ⟨M, 1, none⟩) hMlt).trans m1, (hW.cell (p := ⟨M, 2, none⟩) hMlt).trans m2, (hW.cell (p := ⟨b, o + k * 2, none⟩) hblt).trans d1⟩)
          have BB4 := Lib.hid ((HB.out.below hB4).more hB4.size)
          clear h4 hM4 hB4 u4 hc1 hc2
          go_upto_region 14 with fail
          go_cut [9, 10] from 47 to 56 (fun s t wx => CutB w4 a n c (bPos l pos err N) (bErr l pos err N) (bVal l pos err N) s t wx)
          case first =>
            refine region_way (fun W => W.cell? ⟨M, 0, none⟩ = some (.slice a n c) ∧ W.cell? ⟨M, 1, none⟩ = some (.int .i64 (pos : Int)) ∧ W.cell? ⟨M, 2, none⟩ = some (.int .i64 err) ∧ W.cell? ⟨b, o + k * 2, none⟩ = some (.int .i64 N))
              (.step 0 true (.step 1 true (.step 2 true (.step 3 true (.step 4 true (.step 5 true (.both 6 10 (.step 7 true (.step 8 true (.step 9 true (.step 10 false (.step 11 false (.step 12 true .done)))))) (.step 6 false (.step 7 true (.step 8 true (.step 9 true (.step 11 false (.step 12 true .done)))))))))))))
              (by kernel_rfl) (by kernel_rfl) (by kernel_rfl) (by kernel_rfl) (fun _ _ _ _ _ h => h) ⟨m0, m1, m2, d1⟩ ?_
            repeat
              refine way_pure (v := ?_) rfl (by rfl) (fun W hW => ?_) ?_
              rotate_left
              · go_simp
                try with_reducible rfl
              simp only [Act.put, List.setIfInBounds_toArray, List.set_cons_zero, List.set_cons_succ]
            refine way_both rfl (by rfl) rfl (by rfl) (fun K hK => ?_) (fun K hK => ?_)
            · go_simp
              ((with_reducible refine (refbytes_calls a n c pos l err N w4.drew BB4.out.drewS hn hpn).mono ?_))
              rintro e w5 ⟨A, c3, rfl, hq, b5, hge⟩
              simp only [rv]
              have B5 := Lib.hid (below_of_drew b5)
              have HQ := Lib.hid hq
              clear hq hge
              clear b5
              go_simp
              refine hK _ w5 _ (fun W h => h) (KS.out _ B5.out) ?_
              clear hK K
              repeat
                refine way_pure (v := ?_) rfl (by rfl) (fun W hW => ?_) ?_
                rotate_left
                · go_simp
                  try with_reducible rfl
                simp only [Act.put, List.setIfInBounds_toArray, List.set_cons_zero, List.set_cons_succ]
              refine way_make rfl (by rfl) (fun K hK => ?_)
              go_simp
              refine hK _ _ _ (fun W h => h) (KS.out _ (B5.out.alloc B5.out.size _)) ?_
              clear hK K
              refine way_make rfl (by rfl) (fun K hK => ?_)
              go_simp
              refine hK _ _ _ (fun W h => h) (KS.out _ (B5.out.alloc B5.out.size _)) ?_
              clear hK K
              repeat
                refine way_pure (v := ?_) rfl (by rfl) (fun W hW => ?_) ?_
                rotate_left
                · go_simp
                  try with_reducible rfl
                simp only [Act.put, List.setIfInBounds_toArray, List.set_cons_zero, List.set_cons_succ]
              refine way_done ?_
              go_wp2_with fail
              go_meet
              exact ⟨w5.heap.size, A, c3, rfl, rfl, B5.out.size, heap_alloc_new w5 _, (HQ.out.keep fun b hb => Below.heap_alloc _ _ _ hb).more (by simp), B5.out.alloc B5.out.size _⟩
            · go_simp
              have bA : Below w4.heap.size w4 (w4.alloc (.cells #[.slice none 0 0, .int .i64 0, .int .i64 0] 28)) := (Below.refl _ _).alloc (Nat.le_refl _) _
              have BA := Lib.hid bA
              refine hK _ _ _ (fun W h => h) (KS.out _ bA.drew) ?_
              clear hK K bA
              refine way_make rfl (by rfl) (fun K hK => ?_)
              go_simp
              ((with_reducible refine (refbytes_calls a n c pos l err N _ ((BB4.out.below BA.out).more BA.out.size).drewS hn hpn).mono ?_))
              rintro e w5 ⟨A, c3, rfl, hq, b5, hge⟩
              simp only [rv]
              have B5 := Lib.hid (below_of_drew b5)
              have hz : (w4.alloc (.cells #[.slice none 0 0, .int .i64 0, .int .i64 0] 28)).heap.size = w4.heap.size + 1 := by simp
              have hq1 : w5.heap[w4.heap.size]? = some (.cells #[.slice none 0 0, .int .i64 0, .int .i64 0] 28 (0, 0)) := (B5.out.block _ (by rw [hz]; omega)).trans (heap_alloc_new w4 _)
              have b6 : Below w4.heap.size w4 w5 := BA.out.trans (B5.out.mono (by rw [hz]; omega))
              have B6 := Lib.hid b6
              have HQ1 := Lib.hid hq1
              have y0 : w5.cell? ⟨w4.heap.size, 0, none⟩ = some (.slice none 0 0) := (cell_of_row w5 _ 0 _ _ _ hq1).trans rfl
              have y1 : w5.cell? ⟨w4.heap.size, 1, none⟩ = some (.int .i64 0) := (cell_of_row w5 _ 1 _ _ _ hq1).trans rfl
              have y2 : w5.cell? ⟨w4.heap.size, 2, none⟩ = some (.int .i64 0) := (cell_of_row w5 _ 2 _ _ _ hq1).trans rfl
              have g0 : w5.frozen? ⟨w4.heap.size, 0, none⟩ = false := by simp [World.frozen?, hq1]
              have g1 : w5.frozen? ⟨w4.heap.size, 1, none⟩ = false := by simp [World.frozen?, hq1]
              have g2 : w5.frozen? ⟨w4.heap.size, 2, none⟩ = false := by simp [World.frozen?, hq1]
              have hne : 0 < (bVal l pos err N).length → ∀ b, blk A = some b → b ≠ w4.heap.size := fun _ b h => by have := hge b h; rw [show (w4.alloc (.cells #[.slice none 0 0, .int .i64 0, .int .i64 0] 28)).drew.heap.size = w4.heap.size + 1 from hz] at this; omega
              have HQ := Lib.hid ((((hq.far hne (k := 0) (u := .slice a n c)).far hne (k := 1) (u := .int .i64 ((bPos l pos err N : Nat) : Int)))).far hne (k := 2) (u := .int .i64 (bErr l pos err N)))
              clear hq hge hne
              clear b5 hz hq1 b6
              go_simp
              refine hK _ w5 _ (fun W h => h) (KS.out _ B6.out) ?_
              clear hK K
              repeat
                refine way_pure (v := ?_) rfl (by rfl) (fun W hW => ?_) ?_
                rotate_left
                · go_simp
                  try with_reducible rfl
                simp only [Act.put, List.setIfInBounds_toArray, List.set_cons_zero, List.set_cons_succ]
              refine way_make rfl (by rfl) (fun K hK => ?_)
              go_simp
              have b7 := ((B6.out.setCell (p := ⟨w4.heap.size, 0, none⟩) (Nat.le_refl _) (.slice a n c)).setCell (p := ⟨w4.heap.size, 1, none⟩) (Nat.le_refl _) (.int .i64 ((bPos l pos err N : Nat) : Int))).setCell (p := ⟨w4.heap.size, 2, none⟩) (Nat.le_refl _) (.int .i64 (bErr l pos err N))
              have B7 := Lib.hid b7
              refine hK _ _ _ (fun W h => h) (KS.out _ b7) ?_
              clear hK K b7
              repeat
                refine way_pure (v := ?_) rfl (by rfl) (fun W hW => ?_) ?_
                rotate_left
                · go_simp
                  try with_reducible rfl
                simp only [Act.put, List.setIfInBounds_toArray, List.set_cons_zero, List.set_cons_succ]
              refine way_done ?_
              go_wp2_with fail
              go_meet
              exact ⟨w4.heap.size, A, c3, rfl, rfl, Nat.le_refl _, (row_set (row_set (row_set HQ1.out _ _) _ _) _ _).trans rfl, by simpa [World.setCell] using HQ.out, B7.out⟩
          case rest =>
            obtain ⟨p, A, c3, rfl, rfl, hp, hrow, hbt, hbel⟩ := hcut
            have hbt' : Below w.heap.size w wc := bel_more HB4.out (Nat.le_refl _) hbel
            have hMc := (hbel.block M hMlt).trans HM4.out
            have hRc := H4.out.bel hbel
            have hxc := HX.out.below hbel
            have hx2 := ((((hxc.far (hxc.off hMc) (k := 0) (u := .slice a n c)).far (hxc.off hMc) (k := 1) (u := .int .i64 ((bPos l pos err N : Nat) : Int)))).far (hxc.off hMc) (k := 2) (u := .int .i64 (bErr l pos err N)))
            have ha2 := ((((hbt.far (hbt.off hMc) (k := 0) (u := .slice a n c)).far (hbt.off hMc) (k := 1) (u := .int .i64 ((bPos l pos err N : Nat) : Int)))).far (hbt.off hMc) (k := 2) (u := .int .i64 (bErr l pos err N)))
            have t1 := fun cc => hx2.text (P := Try.prog) (c := cc) 22 5 9 Try.underlying22 Try.underlying5 Try.underlying9
            have t2 := fun cc => ha2.text (P := Try.prog) (c := cc) 22 5 9 Try.underlying22 Try.underlying5 Try.underlying9
            clear hxc hx2 ha2 hbt
            have hboth := both_set (w := w) hRc hMc hbt' hM'
            have HH2 := Lib.hid hboth
            have hp' : bPos l pos err N ≤ n := by rw [← HLN.out]; exact H4.out.2.2.1
            have hneq : (((l.length : Int) - ((bPos l pos err N : Nat) : Int)) != ((n : Int) - ((bPos l pos err N : Nat) : Int))) = false := by rw [HLN.out]; simp
            have p0 : wc.cell? ⟨p, 0, none⟩ = some (.slice a n c) := (cell_of_row wc _ 0 _ _ _ hrow).trans rfl
            have p1 : wc.cell? ⟨p, 1, none⟩ = some (.int .i64 ((bPos l pos err N : Nat) : Int)) := (cell_of_row wc _ 1 _ _ _ hrow).trans rfl
            have p2 : wc.cell? ⟨p, 2, none⟩ = some (.int .i64 (bErr l pos err N)) := (cell_of_row wc _ 2 _ _ _ hrow).trans rfl
            have q0 : wc.cell? ⟨M, 0, none⟩ = some (.slice a n c) := (cell_of_row wc _ 0 _ _ _ hMc).trans rfl
            have q1 : wc.cell? ⟨M, 1, none⟩ = some (.int .i64 (pos : Int)) := (cell_of_row wc _ 1 _ _ _ hMc).trans rfl
            have q2 : wc.cell? ⟨M, 2, none⟩ = some (.int .i64 err) := (cell_of_row wc _ 2 _ _ _ hMc).trans rfl
            have g0 : wc.frozen? ⟨M, 0, none⟩ = false := by simp [World.frozen?, hMc]
            have g1 : wc.frozen? ⟨M, 1, none⟩ = false := by simp [World.frozen?, hMc]
            have g2 : wc.frozen? ⟨M, 2, none⟩ = false := by simp [World.frozen?, hMc]
            clear hboth hRc hMc hbt' hrow hbel d1 m0 m1 m2
            go_wp2_with fail
            obtain ⟨W5, hW5⟩ : ∃ W5, W5 = ((wc.setCell ⟨M, 0, none⟩ (.slice a n c)).setCell ⟨M, 1, none⟩ (.int .i64 ((bPos l pos err N : Nat) : Int))).setCell ⟨M, 2, none⟩ (.int .i64 (bErr l pos err N)) := ⟨_, rfl⟩
            rw [← hW5] at HH2 ⊢
            clear hW5 g0 g1 g2 q0 q1 q2 p0 p1 p2
            have hM5 := HH2.out.2.1
            have HR5 := Lib.hid HH2.out.1
            have c0 : W5.cell? ⟨M, 0, none⟩ = some (.slice a n c) := (cell_of_row W5 _ 0 _ _ _ hM5).trans rfl
            have c1 : W5.cell? ⟨M, 1, none⟩ = some (.int .i64 ((bPos l pos err N : Nat) : Int)) := (cell_of_row W5 _ 1 _ _ _ hM5).trans rfl
            have c3 : W5.cell? ⟨M, 2, none⟩ = some (.int .i64 (bErr l pos err N)) := (cell_of_row W5 _ 2 _ _ _ hM5).trans rfl
            have hM5lt : M < W5.heap.size := by
              rcases Nat.lt_or_ge M W5.heap.size with hlt | hge
              · exact hlt
              · rw [Array.getElem?_eq_none hge] at hM5; cases hM5
            clear hM5
            refine region_seq (fun W => W.cell? ⟨M, 0, none⟩ = some (.slice a n c) ∧ W.cell? ⟨M, 1, none⟩ = some (.int .i64 ((bPos l pos err N : Nat) : Int)) ∧ W.cell? ⟨M, 2, none⟩ = some (.int .i64 (bErr l pos err N)))
              [(0, true), (2, true), (1, false), (3, false), (4, true), (5, true), (6, true), (8, true), (9, true), (7, false), (10, true), (11, true)]
              (by kernel_rfl) (by kernel_rfl) (by kernel_rfl) (by kernel_rfl) (fun _ _ _ _ _ h => h) ⟨c0, c1, c3⟩ ?_
            repeat
              refine seq_pure (v := ?_) rfl (by rfl) (fun W hW => ?_) ?_
              rotate_left
              · go_simp
                try with_reducible rfl
              simp only [Act.put, List.setIfInBounds_toArray, List.set_cons_zero, List.set_cons_succ]
            refine seq_make rfl (by rfl) (fun K hK => ?_)
            go_simp
            ((with_reducible refine (left_calls HR5.out.drew).mono ?_))
            rintro e w6 ⟨rfl, m, rfl⟩
            go_simp
            refine hK _ _ _ (fun W h => h) ⟨c0, c1, c3⟩ ?_
            clear hK K
            refine seq_make rfl (by rfl) (fun K hK => ?_)
            go_simp
            ((with_reducible refine (refleft_calls a n c _ _ _ hn hp').mono ?_))
            rintro e w7 ⟨rfl, b7⟩
            have b8 : Below W5.heap.size W5 w7 := ⟨b7.os, b7.tape, b7.output, b7.size, b7.block⟩
            have B8 := Lib.hid b8
            have HB7 := Lib.hid (show Both w w7 r g M a n c l (bPos l pos err N) (bErr l pos err N) from ⟨HH2.out.1.bel b8, (b8.block M hM5lt).trans HH2.out.2.1, bel_more HH2.out.2.2 (Nat.le_refl _) b8⟩)
            have HR7 := Lib.hid HB7.out.1
            clear b7 b8
            go_simp
            refine hK _ _ _ (fun W h => h) ⟨(B8.out.cell (p := ⟨M, 0, none⟩) hM5lt).trans c0, (B8.out.cell (p := ⟨M, 1, none⟩) hM5lt).trans c1, (B8.out.cell (p := ⟨M, 2, none⟩) hM5lt).trans c3⟩ ?_
            clear hK K
            repeat
              refine seq_pure (v := ?_) rfl (by rfl) (fun W hW => ?_) ?_
              rotate_left
              · go_simp
                try with_reducible rfl
              simp only [Act.put, List.setIfInBounds_toArray, List.set_cons_zero, List.set_cons_succ]
            refine seq_make rfl (by rfl) (fun K hK => ?_)
            go_simp
            ((with_reducible refine (err_calls HR7.out).mono ?_))
            rintro e w8 ⟨rfl, rfl⟩
            go_simp
            refine hK _ _ _ (fun W h => h) ⟨(B8.out.cell (p := ⟨M, 0, none⟩) hM5lt).trans c0, (B8.out.cell (p := ⟨M, 1, none⟩) hM5lt).trans c1, (B8.out.cell (p := ⟨M, 2, none⟩) hM5lt).trans c3⟩ ?_
            clear hK K
            repeat
              refine seq_pure (v := ?_) rfl (by rfl) (fun W hW => ?_) ?_
              rotate_left
              · go_simp
                try with_reducible rfl
              simp only [Act.put, List.setIfInBounds_toArray, List.set_cons_zero, List.set_cons_succ]
            refine seq_done ?_
            go_wp2
            exact ⟨⟨k + 1, _, _, by omega, by omega, by go_num, HB7.out⟩, by simp [intOf]; omega⟩
      · go_wp2
        go_ret
        exact ⟨rfl, HBel.out⟩
    · go_wp2
      go_ret
      exact ⟨rfl, HBel.out⟩
end Go.Proofs.Ytkjkgjkjjiejaaa
