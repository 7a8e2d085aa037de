/-
  Contracts of the document's answer for layer 5 (viaductref05): Bind, Free, Map, Unmap, and of what LfibActs compares with (rows). Conditions: the rows that come in read as lists that rise, of at most 2^38.
-/
import Derived.Test.YtkbbnfinmipenaaLfibR
namespace Go.Proofs.Ytkbbnfinmipenaa
open Go.RowKit Go.Maps
set_option linter.unusedVariables false

set_option maxRecDepth 100000 in
set_option maxHeartbeats 800000 in
theorem rows5_calls (a a2 : Option Addr) (n c c2 : Nat) (l : List (Int × Int × Int)) (B B2 : Nat) (w : World) (h : Row ec w B a n l) (h2 : Row ec w B2 a2 n l) (hn : n ≤ 1099511627776) :
    Calls Try.prog 22 #[.slice a n c, .slice a2 n c2] w fun e w' => e = .returned (.bool true) ∧ Below w.heap.size w w' := by
  have HL := Lib.hid h.1
  have H1 := Lib.hid h
  have H2 := Lib.hid h2
  clear h h2
  go_enter Try.func22, Try.ntmps22
  go_wp2
  go_loopw [13] (fun t W => ∃ j m : Nat, j ≤ n ∧ t = .int .i64 (j : Int) ∧ W = w.drewN m) (fun t _ => n - (intOf t).toNat)
  case atStart => exact ⟨0, 0, Nat.zero_le _, rfl, rfl⟩
  case round =>
    obtain ⟨j, m, hj, rfl, rfl⟩ := hrel
    by_cases hlt : j < n
    · have hjl : j < l.length := by rw [HL.out]; exact hlt
      obtain ⟨b, o, rfl, _, hc⟩ := row_at3 H1.out (by omega)
      obtain ⟨b2, o2, rfl, _, hc2⟩ := row_at3 H2.out (by omega)
      have C1 := Lib.hid (hc j hjl)
      have C2 := Lib.hid (hc2 j hjl)
      clear hc hc2
      generalize l[j].1 = x at *
      generalize l[j].2.1 = y at *
      generalize l[j].2.2 = z at *
      go_wp2_with fail
      refine region_seq (fun W => At3 W b (o + j * 3) x y z ∧ At3 W b2 (o2 + j * 3) x y z) [(0, true), (1, true), (2, true), (3, true), (4, true), (5, true), (6, true), (7, true), (8, true), (9, true), (10, true), (11, true), (12, true), (13, true), (14, true), (15, true), (16, true), (17, true), (18, true), (19, true), (20, true), (21, true)]
        (by kernel_rfl) (by kernel_rfl) (by kernel_rfl) (by kernel_rfl) (fun _ _ _ _ _ h => h) ⟨C1.out, C2.out⟩ ?_
      repeat
        refine seq_pure (v := ?_) rfl (by rfl) (fun W hW => ?_) ?_
        rotate_left
        · obtain ⟨⟨c0, c1, c2⟩, d0, d1, d2⟩ := hW
          go_simp
          try with_reducible rfl
        simp only [Act.put, List.setIfInBounds_toArray, List.set_cons_zero, List.set_cons_succ]
      refine seq_done ?_
      go_wp2
      exact ⟨⟨j + 1, m + 1, by omega, by go_num, rfl⟩, by simp [intOf]; omega⟩
    · go_wp2
      go_ret
      exact ⟨rfl, bel_drewN (Below.refl _ _) m⟩

theorem Blk.set3 {w : World} {q : Nat} {T : TypeId} {u0 u1 u2 : Value} (h : Blk w q T [u0, u1, u2]) (v0 v1 v2 : Value) : Blk (((w.setCell ⟨q, 0, none⟩ v0).setCell ⟨q, 1, none⟩ v1).setCell ⟨q, 2, none⟩ v2) q T [v0, v1, v2] := ((h.set 0 v0).set 1 v1).set 2 v2
theorem bel_set3 {w : World} {q : Nat} {B : Nat} {a : World} (h : Below B a w) (hq : B ≤ q) (v0 v1 v2 : Value) : Below B a (((w.setCell ⟨q, 0, none⟩ v0).setCell ⟨q, 1, none⟩ v1).setCell ⟨q, 2, none⟩ v2) :=
  ((h.setCell (p := ⟨q, 0, none⟩) hq v0).setCell (p := ⟨q, 1, none⟩) hq v1).setCell (p := ⟨q, 2, none⟩) hq v2
theorem Row.set3 {α : Type} {enc : α → List Value} {w : World} {n q : Nat} {a : Option Addr} {l : List α} (h : Row enc w w.heap.size a n l) (hne : ∀ b o, a = some ⟨b, o, none⟩ → 0 < n → b ≠ q) (v0 v1 v2 : Value) : Row enc (((w.setCell ⟨q, 0, none⟩ v0).setCell ⟨q, 1, none⟩ v1).setCell ⟨q, 2, none⟩ v2) (((w.setCell ⟨q, 0, none⟩ v0).setCell ⟨q, 1, none⟩ v1).setCell ⟨q, 2, none⟩ v2).heap.size a n l := by
  refine ⟨h.1, fun hn => ?_⟩
  obtain ⟨b, o, e, hb, hc⟩ := h.2 hn
  have hne' := hne b o e hn
  refine ⟨b, o, e, by simpa [World.setCell] using hb, fun i hi => (World.cell?_of_block (w := w) ?_).trans (hc i hi)⟩
  rw [Below.heap_setCell _ _ _ _ hne', Below.heap_setCell _ _ _ _ hne', Below.heap_setCell _ _ _ _ hne']
theorem Row.set1 {α : Type} {enc : α → List Value} {w : World} {n q k : Nat} {a : Option Addr} {l : List α} (h : Row enc w w.heap.size a n l) (hne : ∀ b o, a = some ⟨b, o, none⟩ → 0 < n → b ≠ q) (v : Value) : Row enc (w.setCell ⟨q, k, none⟩ v) (w.setCell ⟨q, k, none⟩ v).heap.size a n l := by
  refine ⟨h.1, fun hn => ?_⟩
  obtain ⟨b, o, e, hb, hc⟩ := h.2 hn
  refine ⟨b, o, e, by simpa [World.setCell] using hb, fun i hi => (World.cell?_of_block (w := w) (Below.heap_setCell _ _ _ _ (hne b o e hn))).trans (hc i hi)⟩
/-- A row that is there lies in no block that comes later. -/
theorem Row.old {α : Type} {enc : α → List Value} {w : World} {B n q : Nat} {a : Option Addr} {l : List α} (h : Row enc w B a n l) (hq : B ≤ q) : ∀ b o, a = some ⟨b, o, none⟩ → 0 < n → b ≠ q := fun b o e hn => by
  obtain ⟨b', o', e', hb, _⟩ := h.2 hn
  rw [e] at e'
  injection e' with e'
  injection e' with e1 _
  omega

/-- The document's table, as it comes out: one of its lists is anew. -/
def RBind (w : World) (a : Option Addr) (n : Nat) (l : List (Int × Int × Int)) (er : Int) (f : Option Addr → Nat → Nat → Value) (e : Ending) (w' : World) : Prop :=
  ∃ A c, e = .returned (.tuple #[f A l.length c, .int .i64 er]) ∧ Row ec w' w'.heap.size A l.length l ∧ Below w.heap.size w w' ∧ Far5 w.heap.size a n A l.length


set_option maxRecDepth 100000 in
set_option maxHeartbeats 1600000 in
theorem refbind_calls (A1 A2 : Option Addr) (n1 c1 n2 c2 : Nat) (l : List (Int × Int × Int)) (most k x y : Int) (w : World) (h : Row ec w w.heap.size A1 n1 l) (hn : n1 ≤ 274877906944) (hr : RisR l) :
    Calls Try.prog 11 #[.agg #[.slice A1 n1 c1, .slice A2 n2 c2, .int .i64 most], .int .i64 k, .int .i64 x, .int .i64 y] w (RBind w A1 n1 (actL (wn k 16 1048575 && okO x y) most l (k, x, y)) (actE (wn k 16 1048575 && okO x y) most l k) (fun A n c => .agg #[.slice A n c, .slice A2 n2 c2, .int .i64 most])) := by
  have K0 := Lib.hid (bel_new (bel_new (Below.refl w.heap.size w) (.cells #[.slice A1 n1 c1, .slice A2 n2 c2, .int .i64 most] 28)) (.cells #[.slice none 0 0, .slice none 0 0, .int .i64 0] 28))
  have T0 := Lib.hid ((Blk.new w 28 [.slice A1 n1 c1, .slice A2 n2 c2, .int .i64 most]).alloc (.cells #[.slice none 0 0, .slice none 0 0, .int .i64 0] 28))
  have R0 := Lib.hid (show Blk ((w.alloc (.cells #[.slice A1 n1 c1, .slice A2 n2 c2, .int .i64 most] 28)).alloc (.cells #[.slice none 0 0, .slice none 0 0, .int .i64 0] 28)) (w.heap.size + 1) 28 [.slice none 0 0, .slice none 0 0, .int .i64 0] by
    have := Blk.new (w.alloc (.cells #[.slice A1 n1 c1, .slice A2 n2 c2, .int .i64 most] 28)) 28 [.slice none 0 0, .slice none 0 0, .int .i64 0]
    rwa [World.size_alloc] at this)
  have SZ := Lib.hid (show ((w.alloc (.cells #[.slice A1 n1 c1, .slice A2 n2 c2, .int .i64 most] 28)).alloc (.cells #[.slice none 0 0, .slice none 0 0, .int .i64 0] 28)).heap.size = w.heap.size + 2 by simp)
  have H1 := Lib.hid ((h.below K0.out).more K0.out.size)
  have HL := Lib.hid h.1
  have HO := Lib.hid (h.old (q := w.heap.size) (Nat.le_refl _))
  have HO1 := Lib.hid (h.old (q := w.heap.size + 1) (Nat.le_succ _))
  clear h
  have HR := Lib.hid hr
  clear hr
  go_enter Try.func11, Try.ntmps11
  go_wp2_with fail
  generalize ((w.alloc (.cells #[.slice A1 n1 c1, .slice A2 n2 c2, .int .i64 most] 28)).alloc (.cells #[.slice none 0 0, .slice none 0 0, .int .i64 0] 28)) = w1 at *
  ((with_reducible refine (bind5_calls k w1).mono ?_))
  rintro e w' ⟨rfl, rfl⟩
  cases hx : wn k 16 1048575
  · have q0 : w1.cell? ⟨w.heap.size, 0, none⟩ = some (.slice A1 n1 c1) := T0.out.cell 0
    have q1 : w1.cell? ⟨w.heap.size, 1, none⟩ = some (.slice A2 n2 c2) := T0.out.cell 1
    have q2 : w1.cell? ⟨w.heap.size, 2, none⟩ = some (.int .i64 most) := T0.out.cell 2
    have r0 : w1.cell? ⟨w.heap.size + 1, 0, none⟩ = some (.slice none 0 0) := R0.out.cell 0
    have r1 : w1.cell? ⟨w.heap.size + 1, 1, none⟩ = some (.slice none 0 0) := R0.out.cell 1
    have r2 : w1.cell? ⟨w.heap.size + 1, 2, none⟩ = some (.int .i64 0) := R0.out.cell 2
    have f0 := R0.out.free 0
    have f1 := R0.out.free 1
    have f2 := R0.out.free 2
    go_wp2
    have hq := R0.out.set3 (.slice A1 n1 c1) (.slice A2 n2 c2) (.int .i64 most)
    have y0 := hq.cell 0
    have y1 := hq.cell 1
    have y2 := hq.cell 2
    simp only [List.getElem?_cons_zero, List.getElem?_cons_succ] at y0 y1 y2
    refine bodyPost_ret (v := .tuple #[.agg #[.slice A1 n1 c1, .slice A2 n2 c2, .int .i64 most], .int .i64 2]) (by simp [results, Try.results11, go_sem, y0, y1, y2]) rfl ?_
    have hok : (wn k 16 1048575 && okO x y) = false := by rw [hx]; rfl
    refine ⟨A1, c1, ?_, ?_, bel_set3 K0.out (by omega) _ _ _, fun b o e hm => .inl ⟨rfl, by unfold actL at hm; rw [hok, if_neg (by simp), HL.out] at hm; exact hm⟩⟩
    · unfold actE actL
      rw [hok, if_neg (by simp), if_neg (by simp), HL.out]
    · unfold actL
      rw [hok, if_neg (by simp), HL.out]
      exact H1.out.set3 HO1.out _ _ _
  · go_wp2_with fail
    ((with_reducible refine (may5_calls x y w1).mono ?_))
    rintro e w' ⟨rfl, rfl⟩
    cases hy : okO x y
    · have q0 : w1.cell? ⟨w.heap.size, 0, none⟩ = some (.slice A1 n1 c1) := T0.out.cell 0
      have q1 : w1.cell? ⟨w.heap.size, 1, none⟩ = some (.slice A2 n2 c2) := T0.out.cell 1
      have q2 : w1.cell? ⟨w.heap.size, 2, none⟩ = some (.int .i64 most) := T0.out.cell 2
      have r0 : w1.cell? ⟨w.heap.size + 1, 0, none⟩ = some (.slice none 0 0) := R0.out.cell 0
      have r1 : w1.cell? ⟨w.heap.size + 1, 1, none⟩ = some (.slice none 0 0) := R0.out.cell 1
      have r2 : w1.cell? ⟨w.heap.size + 1, 2, none⟩ = some (.int .i64 0) := R0.out.cell 2
      have f0 := R0.out.free 0
      have f1 := R0.out.free 1
      have f2 := R0.out.free 2
      go_wp2
      have hq := R0.out.set3 (.slice A1 n1 c1) (.slice A2 n2 c2) (.int .i64 most)
      have y0 := hq.cell 0
      have y1 := hq.cell 1
      have y2 := hq.cell 2
      simp only [List.getElem?_cons_zero, List.getElem?_cons_succ] at y0 y1 y2
      refine bodyPost_ret (v := .tuple #[.agg #[.slice A1 n1 c1, .slice A2 n2 c2, .int .i64 most], .int .i64 2]) (by simp [results, Try.results11, go_sem, y0, y1, y2]) rfl ?_
      have hok : (wn k 16 1048575 && okO x y) = false := by rw [hx, hy]; rfl
      refine ⟨A1, c1, ?_, ?_, bel_set3 K0.out (by omega) _ _ _, fun b o e hm => .inl ⟨rfl, by unfold actL at hm; rw [hok, if_neg (by simp), HL.out] at hm; exact hm⟩⟩
      · unfold actE actL
        rw [hok, if_neg (by simp), if_neg (by simp), HL.out]
      · unfold actL
        rw [hok, if_neg (by simp), HL.out]
        exact H1.out.set3 HO1.out _ _ _
    · have q0 : w1.cell? ⟨w.heap.size, 0, none⟩ = some (.slice A1 n1 c1) := T0.out.cell 0
      have q2 : w1.cell? ⟨w.heap.size, 2, none⟩ = some (.int .i64 most) := T0.out.cell 2
      go_wp2_with fail
      ((with_reducible refine (refput_calls A1 n1 c1 l most k x y w1 H1.out hn HR.out).mono ?_))
      rintro e w4 ⟨A4, c4, rfl, r4, b4, fr4⟩
      have K4 := Lib.hid (bel_more K0.out (Nat.le_refl _) b4)
      have T4 := Lib.hid (T0.out.below b4)
      have RR4 := Lib.hid (R0.out.below b4)
      have R4 := Lib.hid r4
      have NE4 := Lib.hid (show ∀ b o, A4 = some ⟨b, o, none⟩ → 0 < (setL most l (k, x, y)).length → b ≠ w.heap.size ∧ b ≠ w.heap.size + 1 from fun b o e hm => by
        rcases fr4 b o e hm with ⟨rfl, hn0⟩ | hge
        · exact ⟨HO.out b o e hn0, HO1.out b o e hn0⟩
        · rw [SZ.out] at hge
          omega)
      have FR4 := Lib.hid (show Far5 w.heap.size A1 n1 A4 (setL most l (k, x, y)).length from fun b o e hm => (fr4 b o e hm).imp id (fun hge => by rw [SZ.out] at hge; omega))
      have HSE := Lib.hid (show actE (wn k 16 1048575 && okO x y) most l k = setE most l k by unfold actE; rw [hx, hy]; rfl)
      have HSL := Lib.hid (show actL (wn k 16 1048575 && okO x y) most l (k, x, y) = setL most l (k, x, y) by unfold actL; rw [hx, hy]; rfl)
      clear r4 b4 fr4 q0 q2 T0 R0
      generalize setE most l k = er at *
      generalize HM : (setL most l (k, x, y)).length = m4 at *
      have t0 : w4.cell? ⟨w.heap.size, 0, none⟩ = some (.slice A1 n1 c1) := T4.out.cell 0
      have tf := T4.out.free 0
      go_upto_region 5 with fail
      have T5 := Lib.hid (show Blk (w4.setCell ⟨w.heap.size, 0, none⟩ (.slice A4 m4 c4)) w.heap.size 28 [.slice A4 m4 c4, .slice A2 n2 c2, .int .i64 most] from T4.out.set 0 _)
      have RR5 := Lib.hid (RR4.out.other (p := ⟨w.heap.size, 0, none⟩) (by simp) (.slice A4 m4 c4))
      have K5 := Lib.hid (K4.out.setCell (p := ⟨w.heap.size, 0, none⟩) (Nat.le_refl _) (.slice A4 m4 c4))
      have R5 := Lib.hid (R4.out.set1 (q := w.heap.size) (k := 0) (fun b o e hm => (NE4.out b o e hm).1) (.slice A4 m4 c4))
      clear t0 tf T4 RR4 K4 R4
      generalize w4.setCell ⟨w.heap.size, 0, none⟩ (.slice A4 m4 c4) = w5 at *
      have q0 : w5.cell? ⟨w.heap.size, 0, none⟩ = some (.slice A4 m4 c4) := T5.out.cell 0
      have q1 : w5.cell? ⟨w.heap.size, 1, none⟩ = some (.slice A2 n2 c2) := T5.out.cell 1
      have q2 : w5.cell? ⟨w.heap.size, 2, none⟩ = some (.int .i64 most) := T5.out.cell 2
      have r0 : w5.cell? ⟨w.heap.size + 1, 0, none⟩ = some (.slice none 0 0) := RR5.out.cell 0
      have r1 : w5.cell? ⟨w.heap.size + 1, 1, none⟩ = some (.slice none 0 0) := RR5.out.cell 1
      have r2 : w5.cell? ⟨w.heap.size + 1, 2, none⟩ = some (.int .i64 0) := RR5.out.cell 2
      have f0 := RR5.out.free 0
      have f1 := RR5.out.free 1
      have f2 := RR5.out.free 2
      go_wp2
      have hq := RR5.out.set3 (.slice A4 m4 c4) (.slice A2 n2 c2) (.int .i64 most)
      have y0 := hq.cell 0
      have y1 := hq.cell 1
      have y2 := hq.cell 2
      simp only [List.getElem?_cons_zero, List.getElem?_cons_succ] at y0 y1 y2
      refine bodyPost_ret (v := .tuple #[.agg #[.slice A4 m4 c4, .slice A2 n2 c2, .int .i64 most], .int .i64 er]) (by simp [results, Try.results11, go_sem, y0, y1, y2]) rfl ?_
      refine ⟨A4, c4, ?_, ?_, bel_set3 K5.out (by omega) _ _ _, ?_⟩
      · rw [HSE.out, HSL.out, HM]
      · rw [HSL.out, HM]; exact R5.out.set3 (fun b o e hm => (NE4.out b o e hm).2) _ _ _
      · rw [HSL.out, HM]; exact FR4.out

set_option maxRecDepth 100000 in
set_option maxHeartbeats 1600000 in
theorem refmap_calls (A1 A2 : Option Addr) (n1 c1 n2 c2 : Nat) (l : List (Int × Int × Int)) (most k x y : Int) (w : World) (h : Row ec w w.heap.size A2 n2 l) (hn : n2 ≤ 274877906944) (hr : RisR l) :
    Calls Try.prog 15 #[.agg #[.slice A1 n1 c1, .slice A2 n2 c2, .int .i64 most], .int .i64 k, .int .i64 x, .int .i64 y] w (RBind w A2 n2 (actL (wn k 1 65535 && okO x y) most l (k, x, y)) (actE (wn k 1 65535 && okO x y) most l k) (fun A n c => .agg #[.slice A1 n1 c1, .slice A n c, .int .i64 most])) := by
  have K0 := Lib.hid (bel_new (bel_new (Below.refl w.heap.size w) (.cells #[.slice A1 n1 c1, .slice A2 n2 c2, .int .i64 most] 28)) (.cells #[.slice none 0 0, .slice none 0 0, .int .i64 0] 28))
  have T0 := Lib.hid ((Blk.new w 28 [.slice A1 n1 c1, .slice A2 n2 c2, .int .i64 most]).alloc (.cells #[.slice none 0 0, .slice none 0 0, .int .i64 0] 28))
  have R0 := Lib.hid (show Blk ((w.alloc (.cells #[.slice A1 n1 c1, .slice A2 n2 c2, .int .i64 most] 28)).alloc (.cells #[.slice none 0 0, .slice none 0 0, .int .i64 0] 28)) (w.heap.size + 1) 28 [.slice none 0 0, .slice none 0 0, .int .i64 0] by
    have := Blk.new (w.alloc (.cells #[.slice A1 n1 c1, .slice A2 n2 c2, .int .i64 most] 28)) 28 [.slice none 0 0, .slice none 0 0, .int .i64 0]
    rwa [World.size_alloc] at this)
  have SZ := Lib.hid (show ((w.alloc (.cells #[.slice A1 n1 c1, .slice A2 n2 c2, .int .i64 most] 28)).alloc (.cells #[.slice none 0 0, .slice none 0 0, .int .i64 0] 28)).heap.size = w.heap.size + 2 by simp)
  have H1 := Lib.hid ((h.below K0.out).more K0.out.size)
  have HL := Lib.hid h.1
  have HO := Lib.hid (h.old (q := w.heap.size) (Nat.le_refl _))
  have HO1 := Lib.hid (h.old (q := w.heap.size + 1) (Nat.le_succ _))
  clear h
  have HR := Lib.hid hr
  clear hr
  go_enter Try.func15, Try.ntmps15
  go_upto_region 1 with fail
  generalize ((w.alloc (.cells #[.slice A1 n1 c1, .slice A2 n2 c2, .int .i64 most] 28)).alloc (.cells #[.slice none 0 0, .slice none 0 0, .int .i64 0] 28)) = w1 at *
  by_cases h1 : k < 1
  · have HX := Lib.hid (show wn k 1 65535 = false by simp [wn]; omega)
    have g1 : decide (k < 1) = true := by simpa using h1
    have q0 : w1.cell? ⟨w.heap.size, 0, none⟩ = some (.slice A1 n1 c1) := T0.out.cell 0
    have q1 : w1.cell? ⟨w.heap.size, 1, none⟩ = some (.slice A2 n2 c2) := T0.out.cell 1
    have q2 : w1.cell? ⟨w.heap.size, 2, none⟩ = some (.int .i64 most) := T0.out.cell 2
    have r0 : w1.cell? ⟨w.heap.size + 1, 0, none⟩ = some (.slice none 0 0) := R0.out.cell 0
    have r1 : w1.cell? ⟨w.heap.size + 1, 1, none⟩ = some (.slice none 0 0) := R0.out.cell 1
    have r2 : w1.cell? ⟨w.heap.size + 1, 2, none⟩ = some (.int .i64 0) := R0.out.cell 2
    have f0 := R0.out.free 0
    have f1 := R0.out.free 1
    have f2 := R0.out.free 2
    go_wp2
    have hq := R0.out.set3 (.slice A1 n1 c1) (.slice A2 n2 c2) (.int .i64 most)
    have y0 := hq.cell 0
    have y1 := hq.cell 1
    have y2 := hq.cell 2
    simp only [List.getElem?_cons_zero, List.getElem?_cons_succ] at y0 y1 y2
    refine bodyPost_ret (v := .tuple #[.agg #[.slice A1 n1 c1, .slice A2 n2 c2, .int .i64 most], .int .i64 2]) (by simp [results, Try.results15, go_sem, y0, y1, y2]) rfl ?_
    have hok : (wn k 1 65535 && okO x y) = false := by rw [HX.out]; rfl
    refine ⟨A2, c2, ?_, ?_, bel_set3 K0.out (by omega) _ _ _, fun b o e hm => .inl ⟨rfl, by unfold actL at hm; rw [hok, if_neg (by simp), HL.out] at hm; exact hm⟩⟩
    · unfold actE actL
      rw [hok, if_neg (by simp), if_neg (by simp), HL.out]
    · unfold actL
      rw [hok, if_neg (by simp), HL.out]
      exact H1.out.set3 HO1.out _ _ _
  have g1 : decide (k < 1) = false := by simp; omega
  by_cases h2 : 65535 < k
  · have HX := Lib.hid (show wn k 1 65535 = false by simp [wn]; omega)
    have g2 : decide (k > 65535) = true := by simp; omega
    have g2' : decide (65535 < k) = true := by simp; omega
    have q0 : w1.cell? ⟨w.heap.size, 0, none⟩ = some (.slice A1 n1 c1) := T0.out.cell 0
    have q1 : w1.cell? ⟨w.heap.size, 1, none⟩ = some (.slice A2 n2 c2) := T0.out.cell 1
    have q2 : w1.cell? ⟨w.heap.size, 2, none⟩ = some (.int .i64 most) := T0.out.cell 2
    have r0 : w1.cell? ⟨w.heap.size + 1, 0, none⟩ = some (.slice none 0 0) := R0.out.cell 0
    have r1 : w1.cell? ⟨w.heap.size + 1, 1, none⟩ = some (.slice none 0 0) := R0.out.cell 1
    have r2 : w1.cell? ⟨w.heap.size + 1, 2, none⟩ = some (.int .i64 0) := R0.out.cell 2
    have f0 := R0.out.free 0
    have f1 := R0.out.free 1
    have f2 := R0.out.free 2
    go_wp2
    have hq := R0.out.set3 (.slice A1 n1 c1) (.slice A2 n2 c2) (.int .i64 most)
    have y0 := hq.cell 0
    have y1 := hq.cell 1
    have y2 := hq.cell 2
    simp only [List.getElem?_cons_zero, List.getElem?_cons_succ] at y0 y1 y2
    refine bodyPost_ret (v := .tuple #[.agg #[.slice A1 n1 c1, .slice A2 n2 c2, .int .i64 most], .int .i64 2]) (by simp [results, Try.results15, go_sem, y0, y1, y2]) rfl ?_
    have hok : (wn k 1 65535 && okO x y) = false := by rw [HX.out]; rfl
    refine ⟨A2, c2, ?_, ?_, bel_set3 K0.out (by omega) _ _ _, fun b o e hm => .inl ⟨rfl, by unfold actL at hm; rw [hok, if_neg (by simp), HL.out] at hm; exact hm⟩⟩
    · unfold actE actL
      rw [hok, if_neg (by simp), if_neg (by simp), HL.out]
    · unfold actL
      rw [hok, if_neg (by simp), HL.out]
      exact H1.out.set3 HO1.out _ _ _
  have g2 : decide (k > 65535) = false := by simp; omega
  have g2' : decide (65535 < k) = false := by simp; omega
  have HX := Lib.hid (show wn k 1 65535 = true by simp [wn]; omega)
  go_wp2_with fail
  ((with_reducible refine (may5_calls x y w1).mono ?_))
  rintro e w' ⟨rfl, rfl⟩
  cases hy : okO x y
  · have q0 : w1.cell? ⟨w.heap.size, 0, none⟩ = some (.slice A1 n1 c1) := T0.out.cell 0
    have q1 : w1.cell? ⟨w.heap.size, 1, none⟩ = some (.slice A2 n2 c2) := T0.out.cell 1
    have q2 : w1.cell? ⟨w.heap.size, 2, none⟩ = some (.int .i64 most) := T0.out.cell 2
    have r0 : w1.cell? ⟨w.heap.size + 1, 0, none⟩ = some (.slice none 0 0) := R0.out.cell 0
    have r1 : w1.cell? ⟨w.heap.size + 1, 1, none⟩ = some (.slice none 0 0) := R0.out.cell 1
    have r2 : w1.cell? ⟨w.heap.size + 1, 2, none⟩ = some (.int .i64 0) := R0.out.cell 2
    have f0 := R0.out.free 0
    have f1 := R0.out.free 1
    have f2 := R0.out.free 2
    go_wp2
    have hq := R0.out.set3 (.slice A1 n1 c1) (.slice A2 n2 c2) (.int .i64 most)
    have y0 := hq.cell 0
    have y1 := hq.cell 1
    have y2 := hq.cell 2
    simp only [List.getElem?_cons_zero, List.getElem?_cons_succ] at y0 y1 y2
    refine bodyPost_ret (v := .tuple #[.agg #[.slice A1 n1 c1, .slice A2 n2 c2, .int .i64 most], .int .i64 2]) (by simp [results, Try.results15, go_sem, y0, y1, y2]) rfl ?_
    have hok : (wn k 1 65535 && okO x y) = false := by rw [HX.out, hy]; rfl
    refine ⟨A2, c2, ?_, ?_, bel_set3 K0.out (by omega) _ _ _, fun b o e hm => .inl ⟨rfl, by unfold actL at hm; rw [hok, if_neg (by simp), HL.out] at hm; exact hm⟩⟩
    · unfold actE actL
      rw [hok, if_neg (by simp), if_neg (by simp), HL.out]
    · unfold actL
      rw [hok, if_neg (by simp), HL.out]
      exact H1.out.set3 HO1.out _ _ _
  · have q0 : w1.cell? ⟨w.heap.size, 1, none⟩ = some (.slice A2 n2 c2) := T0.out.cell 1
    have q2 : w1.cell? ⟨w.heap.size, 2, none⟩ = some (.int .i64 most) := T0.out.cell 2
    go_wp2_with fail
    ((with_reducible refine (refput_calls A2 n2 c2 l most k x y w1 H1.out hn HR.out).mono ?_))
    rintro e w4 ⟨A4, c4, rfl, r4, b4, fr4⟩
    have K4 := Lib.hid (bel_more K0.out (Nat.le_refl _) b4)
    have T4 := Lib.hid (T0.out.below b4)
    have RR4 := Lib.hid (R0.out.below b4)
    have R4 := Lib.hid r4
    have NE4 := Lib.hid (show ∀ b o, A4 = some ⟨b, o, none⟩ → 0 < (setL most l (k, x, y)).length → b ≠ w.heap.size ∧ b ≠ w.heap.size + 1 from fun b o e hm => by
      rcases fr4 b o e hm with ⟨rfl, hn0⟩ | hge
      · exact ⟨HO.out b o e hn0, HO1.out b o e hn0⟩
      · rw [SZ.out] at hge
        omega)
    have FR4 := Lib.hid (show Far5 w.heap.size A2 n2 A4 (setL most l (k, x, y)).length from fun b o e hm => (fr4 b o e hm).imp id (fun hge => by rw [SZ.out] at hge; omega))
    have HSE := Lib.hid (show actE (wn k 1 65535 && okO x y) most l k = setE most l k by unfold actE; rw [HX.out, hy]; rfl)
    have HSL := Lib.hid (show actL (wn k 1 65535 && okO x y) most l (k, x, y) = setL most l (k, x, y) by unfold actL; rw [HX.out, hy]; rfl)
    clear r4 b4 fr4 q0 q2 T0 R0
    generalize setE most l k = er at *
    generalize HM : (setL most l (k, x, y)).length = m4 at *
    have t0 : w4.cell? ⟨w.heap.size, 1, none⟩ = some (.slice A2 n2 c2) := T4.out.cell 1
    have tf := T4.out.free 1
    go_upto_region 5 with fail
    have T5 := Lib.hid (show Blk (w4.setCell ⟨w.heap.size, 1, none⟩ (.slice A4 m4 c4)) w.heap.size 28 [.slice A1 n1 c1, .slice A4 m4 c4, .int .i64 most] from T4.out.set 1 _)
    have RR5 := Lib.hid (RR4.out.other (p := ⟨w.heap.size, 1, none⟩) (by simp) (.slice A4 m4 c4))
    have K5 := Lib.hid (K4.out.setCell (p := ⟨w.heap.size, 1, none⟩) (Nat.le_refl _) (.slice A4 m4 c4))
    have R5 := Lib.hid (R4.out.set1 (q := w.heap.size) (k := 1) (fun b o e hm => (NE4.out b o e hm).1) (.slice A4 m4 c4))
    clear t0 tf T4 RR4 K4 R4
    generalize w4.setCell ⟨w.heap.size, 1, none⟩ (.slice A4 m4 c4) = w5 at *
    have q0 : w5.cell? ⟨w.heap.size, 0, none⟩ = some (.slice A1 n1 c1) := T5.out.cell 0
    have q1 : w5.cell? ⟨w.heap.size, 1, none⟩ = some (.slice A4 m4 c4) := T5.out.cell 1
    have q2 : w5.cell? ⟨w.heap.size, 2, none⟩ = some (.int .i64 most) := T5.out.cell 2
    have r0 : w5.cell? ⟨w.heap.size + 1, 0, none⟩ = some (.slice none 0 0) := RR5.out.cell 0
    have r1 : w5.cell? ⟨w.heap.size + 1, 1, none⟩ = some (.slice none 0 0) := RR5.out.cell 1
    have r2 : w5.cell? ⟨w.heap.size + 1, 2, none⟩ = some (.int .i64 0) := RR5.out.cell 2
    have f0 := RR5.out.free 0
    have f1 := RR5.out.free 1
    have f2 := RR5.out.free 2
    go_wp2
    have hq := RR5.out.set3 (.slice A1 n1 c1) (.slice A4 m4 c4) (.int .i64 most)
    have y0 := hq.cell 0
    have y1 := hq.cell 1
    have y2 := hq.cell 2
    simp only [List.getElem?_cons_zero, List.getElem?_cons_succ] at y0 y1 y2
    refine bodyPost_ret (v := .tuple #[.agg #[.slice A1 n1 c1, .slice A4 m4 c4, .int .i64 most], .int .i64 er]) (by simp [results, Try.results15, go_sem, y0, y1, y2]) rfl ?_
    refine ⟨A4, c4, ?_, ?_, bel_set3 K5.out (by omega) _ _ _, ?_⟩
    · rw [HSE.out, HSL.out, HM]
    · rw [HSL.out, HM]; exact R5.out.set3 (fun b o e hm => (NE4.out b o e hm).2) _ _ _
    · rw [HSL.out, HM]; exact FR4.out

set_option maxRecDepth 100000 in
set_option maxHeartbeats 1600000 in
theorem reffree_calls (A1 A2 : Option Addr) (n1 c1 n2 c2 : Nat) (l : List (Int × Int × Int)) (most k : Int) (w : World) (h : Row ec w w.heap.size A1 n1 l) (hn : n1 ≤ 274877906944) :
    Calls Try.prog 13 #[.agg #[.slice A1 n1 c1, .slice A2 n2 c2, .int .i64 most], .int .i64 k] w (RBind w A1 n1 (remR l k) (remE l k) (fun A n c => .agg #[.slice A n c, .slice A2 n2 c2, .int .i64 most])) := by
  have K0 := Lib.hid (bel_new (bel_new (Below.refl w.heap.size w) (.cells #[.slice A1 n1 c1, .slice A2 n2 c2, .int .i64 most] 28)) (.cells #[.slice none 0 0, .slice none 0 0, .int .i64 0] 28))
  have T0 := Lib.hid ((Blk.new w 28 [.slice A1 n1 c1, .slice A2 n2 c2, .int .i64 most]).alloc (.cells #[.slice none 0 0, .slice none 0 0, .int .i64 0] 28))
  have R0 := Lib.hid (show Blk ((w.alloc (.cells #[.slice A1 n1 c1, .slice A2 n2 c2, .int .i64 most] 28)).alloc (.cells #[.slice none 0 0, .slice none 0 0, .int .i64 0] 28)) (w.heap.size + 1) 28 [.slice none 0 0, .slice none 0 0, .int .i64 0] by
    have := Blk.new (w.alloc (.cells #[.slice A1 n1 c1, .slice A2 n2 c2, .int .i64 most] 28)) 28 [.slice none 0 0, .slice none 0 0, .int .i64 0]
    rwa [World.size_alloc] at this)
  have SZ := Lib.hid (show ((w.alloc (.cells #[.slice A1 n1 c1, .slice A2 n2 c2, .int .i64 most] 28)).alloc (.cells #[.slice none 0 0, .slice none 0 0, .int .i64 0] 28)).heap.size = w.heap.size + 2 by simp)
  have H1 := Lib.hid ((h.below K0.out).more K0.out.size)
  have HL := Lib.hid h.1
  have HO := Lib.hid (h.old (q := w.heap.size) (Nat.le_refl _))
  have HO1 := Lib.hid (h.old (q := w.heap.size + 1) (Nat.le_succ _))
  clear h
  go_enter Try.func13, Try.ntmps13
  go_wp2_with fail
  generalize ((w.alloc (.cells #[.slice A1 n1 c1, .slice A2 n2 c2, .int .i64 most] 28)).alloc (.cells #[.slice none 0 0, .slice none 0 0, .int .i64 0] 28)) = w1 at *
  have q0 : w1.cell? ⟨w.heap.size, 0, none⟩ = some (.slice A1 n1 c1) := T0.out.cell 0
  go_wp2_with fail
  ((with_reducible refine (reffind_calls A1 n1 c1 l k w1 H1.out (by omega)).mono ?_))
  rintro e w2 ⟨rfl, b2⟩
  generalize (fndR l k).1 = f0
  generalize (fndR l k).2.1 = f1
  generalize (fndR l k).2.2 = f2
  have k3 := bel_new b2 (.cells #[.int .i64 f0, .int .i64 f1, .int .i64 f2] 77)
  have K3 := Lib.hid (bel_more K0.out (Nat.le_refl _) k3)
  have T3 := Lib.hid (T0.out.below k3)
  have R3 := Lib.hid (R0.out.below k3)
  have H3 := Lib.hid ((H1.out.below k3).more k3.size)
  have S3 := Lib.hid (Nat.le_trans (Nat.le_of_eq SZ.out.symm) k3.size)
  clear b2 k3 q0 T0 R0
  go_upto_region 2 with fail
  generalize w2.alloc (.cells #[.int .i64 f0, .int .i64 f1, .int .i64 f2] 77) = w3 at *
  cases hs : (fnd l k).isSome
  · have q0 : w3.cell? ⟨w.heap.size, 0, none⟩ = some (.slice A1 n1 c1) := T3.out.cell 0
    have q1 : w3.cell? ⟨w.heap.size, 1, none⟩ = some (.slice A2 n2 c2) := T3.out.cell 1
    have q2 : w3.cell? ⟨w.heap.size, 2, none⟩ = some (.int .i64 most) := T3.out.cell 2
    have r0 : w3.cell? ⟨w.heap.size + 1, 0, none⟩ = some (.slice none 0 0) := R3.out.cell 0
    have r1 : w3.cell? ⟨w.heap.size + 1, 1, none⟩ = some (.slice none 0 0) := R3.out.cell 1
    have r2 : w3.cell? ⟨w.heap.size + 1, 2, none⟩ = some (.int .i64 0) := R3.out.cell 2
    have f0 := R3.out.free 0
    have f1 := R3.out.free 1
    have f2 := R3.out.free 2
    go_wp2
    have hq := R3.out.set3 (.slice A1 n1 c1) (.slice A2 n2 c2) (.int .i64 most)
    have y0 := hq.cell 0
    have y1 := hq.cell 1
    have y2 := hq.cell 2
    simp only [List.getElem?_cons_zero, List.getElem?_cons_succ] at y0 y1 y2
    refine bodyPost_ret (v := .tuple #[.agg #[.slice A1 n1 c1, .slice A2 n2 c2, .int .i64 most], .int .i64 8]) (by simp [results, Try.results13, go_sem, y0, y1, y2]) rfl ?_
    have hf : fnd l k = none := by simpa using hs
    have e1 : remR l k = l := remR_not (fnd_not hf)
    have e2 : remE l k = 8 := by unfold remE; rw [if_pos hf]
    refine ⟨A1, c1, ?_, ?_, bel_set3 K3.out (by omega) _ _ _, fun b o e hm => .inl ⟨rfl, by rw [e1, HL.out] at hm; exact hm⟩⟩
    · rw [e1, e2, HL.out]
    · rw [e1, HL.out]; exact H3.out.set3 HO1.out _ _ _
  · have hf : fnd l k ≠ none := by intro h; rw [h] at hs; cases hs
    have e2 : remE l k = 0 := by unfold remE; rw [if_neg hf]
    have q0 : w3.cell? ⟨w.heap.size, 0, none⟩ = some (.slice A1 n1 c1) := T3.out.cell 0
    have f0' := T3.out.free 0
    go_wp2_with fail
    ((with_reducible refine (refwithout_calls A1 n1 c1 l k w3 H3.out (by omega)).mono ?_))
    rintro e w4 ⟨A4, c4, rfl, a4, b4⟩
    have fr4 : ∀ b o, A4 = some ⟨b, o, none⟩ → w.heap.size + 2 ≤ b := fun b o e => by subst e; exact Nat.le_trans S3.out (AccR.ge a4 rfl).1
    have K4 := Lib.hid (bel_more K3.out (Nat.le_refl _) b4)
    have T4 := Lib.hid (T3.out.below b4)
    have RR4 := Lib.hid (R3.out.below b4)
    have R4 := Lib.hid (show Row ec w4 w4.heap.size A4 (remR l k).length (remR l k) from AccR.row a4)
    have NE4 := Lib.hid (show ∀ b o, A4 = some ⟨b, o, none⟩ → 0 < (remR l k).length → b ≠ w.heap.size ∧ b ≠ w.heap.size + 1 from fun b o e hm => by have := fr4 b o e; omega)
    have FR4 := Lib.hid (show Far5 w.heap.size A1 n1 A4 (remR l k).length from fun b o e hm => .inr (by have := fr4 b o e; omega))
    clear a4 b4 fr4 q0 f0' T3 R3
    generalize HM : (remR l k).length = m4 at *
    have t0 : w4.cell? ⟨w.heap.size, 0, none⟩ = some (.slice A1 n1 c1) := T4.out.cell 0
    have tf := T4.out.free 0
    go_upto_region 5 with fail
    have T5 := Lib.hid (show Blk (w4.setCell ⟨w.heap.size, 0, none⟩ (.slice A4 m4 c4)) w.heap.size 28 [.slice A4 m4 c4, .slice A2 n2 c2, .int .i64 most] from T4.out.set 0 _)
    have RR5 := Lib.hid (RR4.out.other (p := ⟨w.heap.size, 0, none⟩) (by simp) (.slice A4 m4 c4))
    have K5 := Lib.hid (K4.out.setCell (p := ⟨w.heap.size, 0, none⟩) (Nat.le_refl _) (.slice A4 m4 c4))
    have R5 := Lib.hid (R4.out.set1 (q := w.heap.size) (k := 0) (fun b o e hm => (NE4.out b o e hm).1) (.slice A4 m4 c4))
    clear t0 tf T4 RR4 K4 R4
    generalize w4.setCell ⟨w.heap.size, 0, none⟩ (.slice A4 m4 c4) = w5 at *
    have q0 : w5.cell? ⟨w.heap.size, 0, none⟩ = some (.slice A4 m4 c4) := T5.out.cell 0
    have q1 : w5.cell? ⟨w.heap.size, 1, none⟩ = some (.slice A2 n2 c2) := T5.out.cell 1
    have q2 : w5.cell? ⟨w.heap.size, 2, none⟩ = some (.int .i64 most) := T5.out.cell 2
    have r0 : w5.cell? ⟨w.heap.size + 1, 0, none⟩ = some (.slice none 0 0) := RR5.out.cell 0
    have r1 : w5.cell? ⟨w.heap.size + 1, 1, none⟩ = some (.slice none 0 0) := RR5.out.cell 1
    have r2 : w5.cell? ⟨w.heap.size + 1, 2, none⟩ = some (.int .i64 0) := RR5.out.cell 2
    have f0 := RR5.out.free 0
    have f1 := RR5.out.free 1
    have f2 := RR5.out.free 2
    go_wp2
    have hq := RR5.out.set3 (.slice A4 m4 c4) (.slice A2 n2 c2) (.int .i64 most)
    have y0 := hq.cell 0
    have y1 := hq.cell 1
    have y2 := hq.cell 2
    simp only [List.getElem?_cons_zero, List.getElem?_cons_succ] at y0 y1 y2
    refine bodyPost_ret (v := .tuple #[.agg #[.slice A4 m4 c4, .slice A2 n2 c2, .int .i64 most], .int .i64 0]) (by simp [results, Try.results13, go_sem, y0, y1, y2]) rfl ?_
    refine ⟨A4, c4, ?_, ?_, bel_set3 K5.out (by omega) _ _ _, ?_⟩
    · rw [e2, HM]
    · rw [HM]; exact R5.out.set3 (fun b o e hm => (NE4.out b o e hm).2) _ _ _
    · rw [HM]; exact FR4.out

set_option maxRecDepth 100000 in
set_option maxHeartbeats 1600000 in
theorem refunmap_calls (A1 A2 : Option Addr) (n1 c1 n2 c2 : Nat) (l : List (Int × Int × Int)) (most k : Int) (w : World) (h : Row ec w w.heap.size A2 n2 l) (hn : n2 ≤ 274877906944) :
    Calls Try.prog 17 #[.agg #[.slice A1 n1 c1, .slice A2 n2 c2, .int .i64 most], .int .i64 k] w (RBind w A2 n2 (remR l k) (remE l k) (fun A n c => .agg #[.slice A1 n1 c1, .slice A n c, .int .i64 most])) := by
  have K0 := Lib.hid (bel_new (bel_new (Below.refl w.heap.size w) (.cells #[.slice A1 n1 c1, .slice A2 n2 c2, .int .i64 most] 28)) (.cells #[.slice none 0 0, .slice none 0 0, .int .i64 0] 28))
  have T0 := Lib.hid ((Blk.new w 28 [.slice A1 n1 c1, .slice A2 n2 c2, .int .i64 most]).alloc (.cells #[.slice none 0 0, .slice none 0 0, .int .i64 0] 28))
  have R0 := Lib.hid (show Blk ((w.alloc (.cells #[.slice A1 n1 c1, .slice A2 n2 c2, .int .i64 most] 28)).alloc (.cells #[.slice none 0 0, .slice none 0 0, .int .i64 0] 28)) (w.heap.size + 1) 28 [.slice none 0 0, .slice none 0 0, .int .i64 0] by
    have := Blk.new (w.alloc (.cells #[.slice A1 n1 c1, .slice A2 n2 c2, .int .i64 most] 28)) 28 [.slice none 0 0, .slice none 0 0, .int .i64 0]
    rwa [World.size_alloc] at this)
  have SZ := Lib.hid (show ((w.alloc (.cells #[.slice A1 n1 c1, .slice A2 n2 c2, .int .i64 most] 28)).alloc (.cells #[.slice none 0 0, .slice none 0 0, .int .i64 0] 28)).heap.size = w.heap.size + 2 by simp)
  have H1 := Lib.hid ((h.below K0.out).more K0.out.size)
  have HL := Lib.hid h.1
  have HO := Lib.hid (h.old (q := w.heap.size) (Nat.le_refl _))
  have HO1 := Lib.hid (h.old (q := w.heap.size + 1) (Nat.le_succ _))
  clear h
  go_enter Try.func17, Try.ntmps17
  go_wp2_with fail
  generalize ((w.alloc (.cells #[.slice A1 n1 c1, .slice A2 n2 c2, .int .i64 most] 28)).alloc (.cells #[.slice none 0 0, .slice none 0 0, .int .i64 0] 28)) = w1 at *
  have q0 : w1.cell? ⟨w.heap.size, 1, none⟩ = some (.slice A2 n2 c2) := T0.out.cell 1
  go_wp2_with fail
  ((with_reducible refine (reffind_calls A2 n2 c2 l k w1 H1.out (by omega)).mono ?_))
  rintro e w2 ⟨rfl, b2⟩
  generalize (fndR l k).1 = f0
  generalize (fndR l k).2.1 = f1
  generalize (fndR l k).2.2 = f2
  have k3 := bel_new b2 (.cells #[.int .i64 f0, .int .i64 f1, .int .i64 f2] 77)
  have K3 := Lib.hid (bel_more K0.out (Nat.le_refl _) k3)
  have T3 := Lib.hid (T0.out.below k3)
  have R3 := Lib.hid (R0.out.below k3)
  have H3 := Lib.hid ((H1.out.below k3).more k3.size)
  have S3 := Lib.hid (Nat.le_trans (Nat.le_of_eq SZ.out.symm) k3.size)
  clear b2 k3 q0 T0 R0
  go_upto_region 2 with fail
  generalize w2.alloc (.cells #[.int .i64 f0, .int .i64 f1, .int .i64 f2] 77) = w3 at *
  cases hs : (fnd l k).isSome
  · have q0 : w3.cell? ⟨w.heap.size, 0, none⟩ = some (.slice A1 n1 c1) := T3.out.cell 0
    have q1 : w3.cell? ⟨w.heap.size, 1, none⟩ = some (.slice A2 n2 c2) := T3.out.cell 1
    have q2 : w3.cell? ⟨w.heap.size, 2, none⟩ = some (.int .i64 most) := T3.out.cell 2
    have r0 : w3.cell? ⟨w.heap.size + 1, 0, none⟩ = some (.slice none 0 0) := R3.out.cell 0
    have r1 : w3.cell? ⟨w.heap.size + 1, 1, none⟩ = some (.slice none 0 0) := R3.out.cell 1
    have r2 : w3.cell? ⟨w.heap.size + 1, 2, none⟩ = some (.int .i64 0) := R3.out.cell 2
    have f0 := R3.out.free 0
    have f1 := R3.out.free 1
    have f2 := R3.out.free 2
    go_wp2
    have hq := R3.out.set3 (.slice A1 n1 c1) (.slice A2 n2 c2) (.int .i64 most)
    have y0 := hq.cell 0
    have y1 := hq.cell 1
    have y2 := hq.cell 2
    simp only [List.getElem?_cons_zero, List.getElem?_cons_succ] at y0 y1 y2
    refine bodyPost_ret (v := .tuple #[.agg #[.slice A1 n1 c1, .slice A2 n2 c2, .int .i64 most], .int .i64 8]) (by simp [results, Try.results17, go_sem, y0, y1, y2]) rfl ?_
    have hf : fnd l k = none := by simpa using hs
    have e1 : remR l k = l := remR_not (fnd_not hf)
    have e2 : remE l k = 8 := by unfold remE; rw [if_pos hf]
    refine ⟨A2, c2, ?_, ?_, bel_set3 K3.out (by omega) _ _ _, fun b o e hm => .inl ⟨rfl, by rw [e1, HL.out] at hm; exact hm⟩⟩
    · rw [e1, e2, HL.out]
    · rw [e1, HL.out]; exact H3.out.set3 HO1.out _ _ _
  · have hf : fnd l k ≠ none := by intro h; rw [h] at hs; cases hs
    have e2 : remE l k = 0 := by unfold remE; rw [if_neg hf]
    have q0 : w3.cell? ⟨w.heap.size, 1, none⟩ = some (.slice A2 n2 c2) := T3.out.cell 1
    have f0' := T3.out.free 1
    go_wp2_with fail
    ((with_reducible refine (refwithout_calls A2 n2 c2 l k w3 H3.out (by omega)).mono ?_))
    rintro e w4 ⟨A4, c4, rfl, a4, b4⟩
    have fr4 : ∀ b o, A4 = some ⟨b, o, none⟩ → w.heap.size + 2 ≤ b := fun b o e => by subst e; exact Nat.le_trans S3.out (AccR.ge a4 rfl).1
    have K4 := Lib.hid (bel_more K3.out (Nat.le_refl _) b4)
    have T4 := Lib.hid (T3.out.below b4)
    have RR4 := Lib.hid (R3.out.below b4)
    have R4 := Lib.hid (show Row ec w4 w4.heap.size A4 (remR l k).length (remR l k) from AccR.row a4)
    have NE4 := Lib.hid (show ∀ b o, A4 = some ⟨b, o, none⟩ → 0 < (remR l k).length → b ≠ w.heap.size ∧ b ≠ w.heap.size + 1 from fun b o e hm => by have := fr4 b o e; omega)
    have FR4 := Lib.hid (show Far5 w.heap.size A2 n2 A4 (remR l k).length from fun b o e hm => .inr (by have := fr4 b o e; omega))
    clear a4 b4 fr4 q0 f0' T3 R3
    generalize HM : (remR l k).length = m4 at *
    have t0 : w4.cell? ⟨w.heap.size, 1, none⟩ = some (.slice A2 n2 c2) := T4.out.cell 1
    have tf := T4.out.free 1
    go_upto_region 5 with fail
    have T5 := Lib.hid (show Blk (w4.setCell ⟨w.heap.size, 1, none⟩ (.slice A4 m4 c4)) w.heap.size 28 [.slice A1 n1 c1, .slice A4 m4 c4, .int .i64 most] from T4.out.set 1 _)
    have RR5 := Lib.hid (RR4.out.other (p := ⟨w.heap.size, 1, none⟩) (by simp) (.slice A4 m4 c4))
    have K5 := Lib.hid (K4.out.setCell (p := ⟨w.heap.size, 1, none⟩) (Nat.le_refl _) (.slice A4 m4 c4))
    have R5 := Lib.hid (R4.out.set1 (q := w.heap.size) (k := 1) (fun b o e hm => (NE4.out b o e hm).1) (.slice A4 m4 c4))
    clear t0 tf T4 RR4 K4 R4
    generalize w4.setCell ⟨w.heap.size, 1, none⟩ (.slice A4 m4 c4) = w5 at *
    have q0 : w5.cell? ⟨w.heap.size, 0, none⟩ = some (.slice A1 n1 c1) := T5.out.cell 0
    have q1 : w5.cell? ⟨w.heap.size, 1, none⟩ = some (.slice A4 m4 c4) := T5.out.cell 1
    have q2 : w5.cell? ⟨w.heap.size, 2, none⟩ = some (.int .i64 most) := T5.out.cell 2
    have r0 : w5.cell? ⟨w.heap.size + 1, 0, none⟩ = some (.slice none 0 0) := RR5.out.cell 0
    have r1 : w5.cell? ⟨w.heap.size + 1, 1, none⟩ = some (.slice none 0 0) := RR5.out.cell 1
    have r2 : w5.cell? ⟨w.heap.size + 1, 2, none⟩ = some (.int .i64 0) := RR5.out.cell 2
    have f0 := RR5.out.free 0
    have f1 := RR5.out.free 1
    have f2 := RR5.out.free 2
    go_wp2
    have hq := RR5.out.set3 (.slice A1 n1 c1) (.slice A4 m4 c4) (.int .i64 most)
    have y0 := hq.cell 0
    have y1 := hq.cell 1
    have y2 := hq.cell 2
    simp only [List.getElem?_cons_zero, List.getElem?_cons_succ] at y0 y1 y2
    refine bodyPost_ret (v := .tuple #[.agg #[.slice A1 n1 c1, .slice A4 m4 c4, .int .i64 most], .int .i64 0]) (by simp [results, Try.results17, go_sem, y0, y1, y2]) rfl ?_
    refine ⟨A4, c4, ?_, ?_, bel_set3 K5.out (by omega) _ _ _, ?_⟩
    · rw [e2, HM]
    · rw [HM]; exact R5.out.set3 (fun b o e hm => (NE4.out b o e hm).2) _ _ _
    · rw [HM]; exact FR4.out
end Go.Proofs.Ytkbbnfinmipenaa
