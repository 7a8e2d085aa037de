/-
  Contracts of the document's own answers for layer 1: Uint, Bytes, Left. Conditions: the bytes of the reader read as a list of at most 4096 bytes, and its place lies in them.
-/
import Derived.Test.YtkjkgjkjjiejaaaRefC
namespace Go.Proofs.Ytkjkgjkjjiejaaa
open Go.RowKit

theorem refleft_calls (a : Option Addr) (n c i : Nat) (err : Int) (w : World) (hn : n ≤ 4096) (hi : i ≤ n) :
    Calls Try.prog 16 #[.agg #[.slice a n c, .int .i64 (i : Int), .int .i64 err]] w fun e w' => e = .returned (.int .i64 ((n : Int) - (i : Int))) ∧ Below w.heap.size w w' := by
  go_enter Try.func16, Try.ntmps16
  go_wp2
  go_ret
  exact ⟨rfl, (Below.refl _ _).alloc (Nat.le_refl _) _⟩

def RefUintPost (w : World) (a : Option Addr) (n c : Nat) (l : List UInt8) (i : Nat) (err k : Int) (e : Ending) (w' : World) : Prop :=
  e = .returned (.tuple #[rv a n c (uPos l i err k) (uErr l i err k), .int .u64 ((uVal l i err k : Nat) : Int)]) ∧ Below w.heap.size w w'

set_option maxHeartbeats 1000000 in
theorem refuint_calls (a : Option Addr) (n c i : Nat) (l : List UInt8) (err k : Int) (w : World) (hB : Bts w w.heap.size a n l) (hn : n ≤ 4096) (hi : i ≤ n) :
    Calls Try.prog 14 #[.agg #[.slice a n c, .int .i64 (i : Int), .int .i64 err], .int .i64 k] w (RefUintPost w a n c l i err k) := by
  have HB := Lib.hid hB
  have hln := hB.1
  have hE : tErr n i err k 1 8 = uErr l i err k := by unfold tErr uErr wid; rw [hln]
  have hP : (if tErr n i err k 1 8 = 0 then i + k.toNat else i) = uPos l i err k := by rw [hE]; rfl
  have hlst : (if tErr n i err k 1 8 = 0 then (l.drop i).take k.toNat else []).length ≤ 8 := by
    split
    · rename_i hz
      obtain ⟨_, hw, _⟩ := errOf_zero hz
      simp at hw
      simp; omega
    · simp
  have hV : num (if tErr n i err k 1 8 = 0 then (l.drop i).take k.toNat else []) = uVal l i err k := by
    rw [hE]; unfold uVal; split <;> rfl
  have T := Lib.hid (fun W (h : Bts W W.heap.size a n l) => take_any a n c i l err k 1 8 W h hn hi (by omega))
  rw [hP, hE] at T
  rw [hE] at hlst hV
  generalize (if uErr l i err k = 0 then (l.drop i).take k.toNat else []) = lst at *
  have HV := Lib.hid hV
  have HE := Lib.hid hE
  clear hB hln hP hV hE
  generalize hp' : uPos l i err k = P' at *
  generalize he' : uErr l i err k = E' at *
  have HP' := Lib.hid hp'
  have HE' := Lib.hid he'
  clear hp' he'
  go_enter Try.func14, Try.ntmps14
  go_wp2_with fail
  obtain ⟨W0, hW0⟩ : ∃ W0, W0 = (w.alloc (.cells #[.slice a n c, .int .i64 (i : Int), .int .i64 err] 28)).alloc (.cells #[.slice none 0 0, .int .i64 0, .int .i64 0] 28) := ⟨_, rfl⟩
  rw [← hW0]
  have hz : W0.heap.size = w.heap.size + 2 := by rw [hW0]; simp
  have hr1 : W0.heap[w.heap.size + 1]? = some (.cells #[.slice none 0 0, .int .i64 0, .int .i64 0] 28 (0, 0)) := by
    rw [hW0]
    have := heap_alloc_new (w.alloc (.cells #[.slice a n c, .int .i64 (i : Int), .int .i64 err] 28)) (.cells #[.slice none 0 0, .int .i64 0, .int .i64 0] 28)
    simpa using this
  have hb0 : Below w.heap.size w W0 := by rw [hW0]; exact ((Below.refl _ _).alloc (Nat.le_refl _) _).alloc (by simp) _
  have HZ := Lib.hid hz
  have HR1 := Lib.hid hr1
  have HB0 := Lib.hid hb0
  clear hz hr1 hb0 hW0
  ((with_reducible refine (T.out W0 ((HB.out.below HB0.out).more HB0.out.size)).mono ?_))
  rintro e w1 ⟨A, c2, rfl, ht, b1, hge⟩
  simp only [rv]
  have HT := Lib.hid ht
  have B1 := Lib.hid b1
  have hsz : w.heap.size + 2 ≤ w1.heap.size := by rw [← HZ.out]; exact b1.size
  have hr2 : w1.heap[w.heap.size + 1]? = some (.cells #[.slice none 0 0, .int .i64 0, .int .i64 0] 28 (0, 0)) := (b1.block _ (by rw [HZ.out]; omega)).trans HR1.out
  have HR2 := Lib.hid hr2
  clear ht b1 hr2 hge
  go_wp2_with fail
  obtain ⟨W2, hW2⟩ : ∃ W2, W2 = w1.alloc (.cells #[.slice a n c, .int .i64 (P' : Int), .int .i64 E'] 28) := ⟨_, rfl⟩
  rw [← hW2]
  have hq : W2.heap[w1.heap.size]? = some (.cells #[.slice a n c, .int .i64 (P' : Int), .int .i64 E'] 28 (0, 0)) := by rw [hW2]; exact heap_alloc_new w1 _
  have hq1 : W2.heap[w.heap.size + 1]? = some (.cells #[.slice none 0 0, .int .i64 0, .int .i64 0] 28 (0, 0)) := by rw [hW2, Below.heap_alloc _ _ _ (by omega)]; exact HR2.out
  have bW2 : Below w.heap.size w W2 := by rw [hW2]; exact (bel_more HB0.out (Nat.le_refl _) B1.out).alloc (by omega) _
  have tW2 : Bts W2 w1.heap.size A lst.length lst := by rw [hW2]; exact HT.out.keep fun b hb => Below.heap_alloc _ _ _ hb
  have x0 : W2.cell? ⟨w1.heap.size, 0, none⟩ = some (.slice a n c) := (cell_of_row W2 _ 0 _ _ _ hq).trans rfl
  have x1 : W2.cell? ⟨w1.heap.size, 1, none⟩ = some (.int .i64 (P' : Int)) := (cell_of_row W2 _ 1 _ _ _ hq).trans rfl
  have x2 : W2.cell? ⟨w1.heap.size, 2, none⟩ = some (.int .i64 E') := (cell_of_row W2 _ 2 _ _ _ hq).trans rfl
  have y0 : W2.cell? ⟨w.heap.size + 1, 0, none⟩ = some (.slice none 0 0) := (cell_of_row W2 _ 0 _ _ _ hq1).trans rfl
  have y1 : W2.cell? ⟨w.heap.size + 1, 1, none⟩ = some (.int .i64 0) := (cell_of_row W2 _ 1 _ _ _ hq1).trans rfl
  have y2 : W2.cell? ⟨w.heap.size + 1, 2, none⟩ = some (.int .i64 0) := (cell_of_row W2 _ 2 _ _ _ hq1).trans rfl
  have g0 : W2.frozen? ⟨w.heap.size + 1, 0, none⟩ = false := by simp [World.frozen?, hq1]
  have g1 : W2.frozen? ⟨w.heap.size + 1, 1, none⟩ = false := by simp [World.frozen?, hq1]
  have g2 : W2.frozen? ⟨w.heap.size + 1, 2, none⟩ = false := by simp [World.frozen?, hq1]
  have BW := Lib.hid bW2
  have TW := Lib.hid tW2
  clear hW2 hq hq1 bW2 tW2
  refine region_seq (fun W => W.cell? ⟨w1.heap.size, 0, none⟩ = some (.slice a n c) ∧ W.cell? ⟨w1.heap.size, 1, none⟩ = some (.int .i64 (P' : Int)) ∧ W.cell? ⟨w1.heap.size, 2, none⟩ = some (.int .i64 E'))
    [(0, true), (1, true), (2, false), (3, false), (4, true)]
    (by kernel_rfl) (by kernel_rfl) (by kernel_rfl) (by kernel_rfl) (fun _ _ _ _ _ h => h) ⟨x0, x1, x2⟩ ?_
  repeat
    refine seq_pure (v := ?_) rfl (by rfl) (fun W hW => ?_) ?_
    rotate_left
    · go_simp
      try with_reducible rfl
    simp only [Act.put, List.setIfInBounds_toArray, List.set_cons_zero, List.set_cons_succ]
  refine seq_make rfl (by rfl) (fun K hK => ?_)
  go_simp
  ((with_reducible refine (number_calls A _ c2 lst _ _ TW.out.drew hlst).mono ?_))
  rintro e w3 ⟨rfl, rfl⟩
  rw [HV.out]
  go_simp
  refine hK _ _ _ (fun W h => h) ⟨x0, x1, x2⟩ ?_
  clear hK K
  refine seq_make rfl (by rfl) (fun K hK => ?_)
  go_simp
  have hfar : ∀ j, (((W2.drew.setCell ⟨w.heap.size + 1, 0, none⟩ (.slice a n c)).setCell ⟨w.heap.size + 1, 1, none⟩ (.int .i64 (P' : Int))).setCell ⟨w.heap.size + 1, 2, none⟩ (.int .i64 E')).cell? ⟨w1.heap.size, j, none⟩ = W2.cell? ⟨w1.heap.size, j, none⟩ := by
    intro j
    refine World.cell?_of_block (w := W2) ?_
    rw [Below.heap_setCell _ _ _ _ (by show w1.heap.size ≠ w.heap.size + 1; omega), Below.heap_setCell _ _ _ _ (by show w1.heap.size ≠ w.heap.size + 1; omega), Below.heap_setCell _ _ _ _ (by show w1.heap.size ≠ w.heap.size + 1; omega)]
    rfl
  refine hK _ _ _ (fun W h => h) ⟨(hfar 0).trans x0, (hfar 1).trans x1, (hfar 2).trans x2⟩ ?_
  clear hK K hfar
  repeat
    refine seq_pure (v := ?_) rfl (by rfl) (fun W hW => ?_) ?_
    rotate_left
    · go_simp
      try with_reducible rfl
    simp only [Act.put, List.setIfInBounds_toArray, List.set_cons_zero, List.set_cons_succ]
  refine seq_done ?_
  go_wp2
  refine bodyPost_ret (v := .tuple #[rv a n c P' E', .int .u64 ((uVal l i err k : Nat) : Int)]) (by simp [results, Try.results14, go_sem, rv, y0, y1, y2]) rfl ⟨by rw [HP'.out, HE'.out], ?_⟩
  exact (((BW.out.setCell (p := ⟨w.heap.size + 1, 0, none⟩) (by show w.heap.size ≤ w.heap.size + 1; omega) _).setCell (p := ⟨w.heap.size + 1, 1, none⟩) (by show w.heap.size ≤ w.heap.size + 1; omega) _).setCell (p := ⟨w.heap.size + 1, 2, none⟩) (by show w.heap.size ≤ w.heap.size + 1; omega) _).drew

/-- A store elsewhere leaves bytes as they were. -/
theorem Bts.away {w : World} {B n : Nat} {a : Option Addr} {l : List UInt8} {q k : Nat} {u : Value} (h : Bts w B a n l) (hq : ∀ b, blk a = some b → b ≠ q) : Bts (w.setCell ⟨q, k, none⟩ u) B a n l :=
  ⟨h.1, fun hn => by
    obtain ⟨b, o, e, hb, hc⟩ := h.2 hn
    subst e
    exact ⟨b, o, rfl, hb, fun i hi => (World.cell?_of_block (w := w) (Below.heap_setCell _ _ _ _ (hq b rfl))).trans (hc i hi)⟩⟩

def RefBytesPost (w : World) (a : Option Addr) (n c : Nat) (l : List UInt8) (i : Nat) (err k : Int) (e : Ending) (w' : World) : Prop :=
  ∃ A c2, e = .returned (.tuple #[rv a n c (bPos l i err k) (bErr l i err k), .slice A (bVal l i err k).length c2]) ∧ Bts w' w'.heap.size A (bVal l i err k).length (bVal l i err k) ∧ Below w.heap.size w w' ∧ ∀ b, blk A = some b → w.heap.size ≤ b

set_option maxHeartbeats 1000000 in
theorem refbytes_calls (a : Option Addr) (n c i : Nat) (l : List UInt8) (err k : Int) (w : World) (hB : Bts w w.heap.size a n l) (hn : n ≤ 4096) (hi : i ≤ n) :
    Calls Try.prog 12 #[.agg #[.slice a n c, .int .i64 (i : Int), .int .i64 err], .int .i64 k] w (RefBytesPost w a n c l i err k) := by
  have hln := hB.1
  by_cases hA : (n : Int) < k ∧ err = 0
  · obtain ⟨h1, rfl⟩ := hA
    have hE : bErr l i 0 k = 4 := by
      unfold bErr errOf
      rw [if_pos rfl, decide_eq_true (by omega : 0 ≤ k), if_pos rfl, if_pos (by omega)]
    have hP : bPos l i 0 k = i := by unfold bPos; rw [hE, if_neg (by decide)]
    have hV : bVal l i 0 k = [] := by unfold bVal; rw [hE, if_neg (by decide)]
    unfold RefBytesPost
    rw [hE, hP, hV]
    have HB := Lib.hid hB
    clear hE hP hV hB hln
    go_enter Try.func12, Try.ntmps12
    go_wp2
    exact bodyPost_ret (v := .tuple #[rv a n c i 4, .slice none 0 0]) (by simp [results, Try.results12, go_sem, rv]) rfl ⟨none, 0, rfl, Bts.nil, ((Below.refl _ _).alloc (Nat.le_refl _) _).alloc (by simp) _, fun _ h => by cases h⟩
  · have hE : tErr n i err k 0 n = bErr l i err k := by
      unfold tErr bErr
      by_cases he : err = 0
      · have hk : k ≤ n := by omega
        rw [hln, decide_eq_true hk, Bool.and_true]
      · rw [errOf_keepsC he, errOf_keepsC he]
    have hP : (if tErr n i err k 0 n = 0 then i + k.toNat else i) = bPos l i err k := by rw [hE]; rfl
    have hV : (if tErr n i err k 0 n = 0 then (l.drop i).take k.toNat else []) = bVal l i err k := by rw [hE]; rfl
    have T := Lib.hid (fun W (h : Bts W W.heap.size a n l) => take_any a n c i l err k 0 n W h hn hi (by omega))
    rw [hP, hV, hE] at T
    unfold RefBytesPost
    generalize bPos l i err k = P' at *
    generalize bErr l i err k = E' at *
    generalize bVal l i err k = lst at *
    have HB := Lib.hid hB
    clear hE hP hV hB hln
    have hguard : (decide ((n : Int) < k) && (err == 0)) = false := by
      rw [Bool.and_eq_false_iff]
      by_cases h : (n : Int) < k
      · exact .inr (by simpa using fun h0 => hA ⟨h, h0⟩)
      · exact .inl (decide_eq_false h)
    by_cases hk : (n : Int) < k
    · have he : (err == 0) = false := by simpa using fun h0 => hA ⟨hk, h0⟩
      have HA := Lib.hid hA
      clear hA hguard
      go_enter Try.func12, Try.ntmps12
      go_wp2_with fail
      obtain ⟨W0, hW0⟩ : ∃ W0, W0 = (w.alloc (.cells #[.slice a n c, .int .i64 (i : Int), .int .i64 err] 28)).alloc (.cells #[.slice none 0 0, .int .i64 0, .int .i64 0] 28) := ⟨_, rfl⟩
      rw [← hW0]
      have hz : W0.heap.size = w.heap.size + 2 := by rw [hW0]; simp
      have hr1 : W0.heap[w.heap.size + 1]? = some (.cells #[.slice none 0 0, .int .i64 0, .int .i64 0] 28 (0, 0)) := by
        rw [hW0]
        have := heap_alloc_new (w.alloc (.cells #[.slice a n c, .int .i64 (i : Int), .int .i64 err] 28)) (.cells #[.slice none 0 0, .int .i64 0, .int .i64 0] 28)
        simpa using this
      have hb0 : Below w.heap.size w W0 := by rw [hW0]; exact ((Below.refl _ _).alloc (Nat.le_refl _) _).alloc (by simp) _
      have HZ := Lib.hid hz
      have HR1 := Lib.hid hr1
      have HB0 := Lib.hid hb0
      clear hz hr1 hb0 hW0
      ((with_reducible refine (T.out W0 ((HB.out.below HB0.out).more HB0.out.size)).mono ?_))
      rintro e w1 ⟨A, c2, rfl, ht, b1, hge⟩
      simp only [rv]
      have hsz : w.heap.size + 2 ≤ w1.heap.size := by rw [← HZ.out]; exact b1.size
      have hq1 : w1.heap[w.heap.size + 1]? = some (.cells #[.slice none 0 0, .int .i64 0, .int .i64 0] 28 (0, 0)) := (b1.block _ (by rw [HZ.out]; omega)).trans HR1.out
      have y0 : w1.cell? ⟨w.heap.size + 1, 0, none⟩ = some (.slice none 0 0) := (cell_of_row w1 _ 0 _ _ _ hq1).trans rfl
      have y1 : w1.cell? ⟨w.heap.size + 1, 1, none⟩ = some (.int .i64 0) := (cell_of_row w1 _ 1 _ _ _ hq1).trans rfl
      have y2 : w1.cell? ⟨w.heap.size + 1, 2, none⟩ = some (.int .i64 0) := (cell_of_row w1 _ 2 _ _ _ hq1).trans rfl
      have g0 : w1.frozen? ⟨w.heap.size + 1, 0, none⟩ = false := by simp [World.frozen?, hq1]
      have g1 : w1.frozen? ⟨w.heap.size + 1, 1, none⟩ = false := by simp [World.frozen?, hq1]
      have g2 : w1.frozen? ⟨w.heap.size + 1, 2, none⟩ = false := by simp [World.frozen?, hq1]
      have hne : ∀ b, blk A = some b → b ≠ w.heap.size + 1 := fun b h => by have := hge b h; rw [HZ.out] at this; omega
      have hbt : Bts (((w1.setCell ⟨w.heap.size + 1, 0, none⟩ (.slice a n c)).setCell ⟨w.heap.size + 1, 1, none⟩ (.int .i64 (P' : Int))).setCell ⟨w.heap.size + 1, 2, none⟩ (.int .i64 E')) w1.heap.size A lst.length lst :=
        Bts.away (Bts.away (Bts.away ht hne) hne) hne
      have HBT := Lib.hid hbt
      have HG := Lib.hid hge
      have B1 := Lib.hid (bel_more HB0.out (Nat.le_refl _) b1)
      clear ht b1 hq1 hbt hne hge
      go_wp2
      refine bodyPost_ret (v := .tuple #[rv a n c P' E', .slice A lst.length c2]) (by simp [results, Try.results12, go_sem, rv, y0, y1, y2]) rfl ⟨A, c2, rfl, by simpa [World.setCell] using HBT.out, ?_, fun b h => Nat.le_trans HB0.out.size (HG.out b h)⟩
      exact ((B1.out.setCell (p := ⟨w.heap.size + 1, 0, none⟩) (by show w.heap.size ≤ w.heap.size + 1; omega) _).setCell (p := ⟨w.heap.size + 1, 1, none⟩) (by show w.heap.size ≤ w.heap.size + 1; omega) _).setCell (p := ⟨w.heap.size + 1, 2, none⟩) (by show w.heap.size ≤ w.heap.size + 1; omega) _
    · have HA := Lib.hid hA
      clear hA hguard
      go_enter Try.func12, Try.ntmps12
      go_wp2_with fail
      obtain ⟨W0, hW0⟩ : ∃ W0, W0 = (w.alloc (.cells #[.slice a n c, .int .i64 (i : Int), .int .i64 err] 28)).alloc (.cells #[.slice none 0 0, .int .i64 0, .int .i64 0] 28) := ⟨_, rfl⟩
      rw [← hW0]
      have hz : W0.heap.size = w.heap.size + 2 := by rw [hW0]; simp
      have hr1 : W0.heap[w.heap.size + 1]? = some (.cells #[.slice none 0 0, .int .i64 0, .int .i64 0] 28 (0, 0)) := by
        rw [hW0]
        have := heap_alloc_new (w.alloc (.cells #[.slice a n c, .int .i64 (i : Int), .int .i64 err] 28)) (.cells #[.slice none 0 0, .int .i64 0, .int .i64 0] 28)
        simpa using this
      have hb0 : Below w.heap.size w W0 := by rw [hW0]; exact ((Below.refl _ _).alloc (Nat.le_refl _) _).alloc (by simp) _
      have HZ := Lib.hid hz
      have HR1 := Lib.hid hr1
      have HB0 := Lib.hid hb0
      clear hz hr1 hb0 hW0
      ((with_reducible refine (T.out W0 ((HB.out.below HB0.out).more HB0.out.size)).mono ?_))
      rintro e w1 ⟨A, c2, rfl, ht, b1, hge⟩
      simp only [rv]
      have hsz : w.heap.size + 2 ≤ w1.heap.size := by rw [← HZ.out]; exact b1.size
      have hq1 : w1.heap[w.heap.size + 1]? = some (.cells #[.slice none 0 0, .int .i64 0, .int .i64 0] 28 (0, 0)) := (b1.block _ (by rw [HZ.out]; omega)).trans HR1.out
      have y0 : w1.cell? ⟨w.heap.size + 1, 0, none⟩ = some (.slice none 0 0) := (cell_of_row w1 _ 0 _ _ _ hq1).trans rfl
      have y1 : w1.cell? ⟨w.heap.size + 1, 1, none⟩ = some (.int .i64 0) := (cell_of_row w1 _ 1 _ _ _ hq1).trans rfl
      have y2 : w1.cell? ⟨w.heap.size + 1, 2, none⟩ = some (.int .i64 0) := (cell_of_row w1 _ 2 _ _ _ hq1).trans rfl
      have g0 : w1.frozen? ⟨w.heap.size + 1, 0, none⟩ = false := by simp [World.frozen?, hq1]
      have g1 : w1.frozen? ⟨w.heap.size + 1, 1, none⟩ = false := by simp [World.frozen?, hq1]
      have g2 : w1.frozen? ⟨w.heap.size + 1, 2, none⟩ = false := by simp [World.frozen?, hq1]
      have hne : ∀ b, blk A = some b → b ≠ w.heap.size + 1 := fun b h => by have := hge b h; rw [HZ.out] at this; omega
      have hbt : Bts (((w1.setCell ⟨w.heap.size + 1, 0, none⟩ (.slice a n c)).setCell ⟨w.heap.size + 1, 1, none⟩ (.int .i64 (P' : Int))).setCell ⟨w.heap.size + 1, 2, none⟩ (.int .i64 E')) w1.heap.size A lst.length lst :=
        Bts.away (Bts.away (Bts.away ht hne) hne) hne
      have HBT := Lib.hid hbt
      have HG := Lib.hid hge
      have B1 := Lib.hid (bel_more HB0.out (Nat.le_refl _) b1)
      clear ht b1 hq1 hbt hne hge
      go_wp2
      refine bodyPost_ret (v := .tuple #[rv a n c P' E', .slice A lst.length c2]) (by simp [results, Try.results12, go_sem, rv, y0, y1, y2]) rfl ⟨A, c2, rfl, by simpa [World.setCell] using HBT.out, ?_, fun b h => Nat.le_trans HB0.out.size (HG.out b h)⟩
      exact ((B1.out.setCell (p := ⟨w.heap.size + 1, 0, none⟩) (by show w.heap.size ≤ w.heap.size + 1; omega) _).setCell (p := ⟨w.heap.size + 1, 1, none⟩) (by show w.heap.size ≤ w.heap.size + 1; omega) _).setCell (p := ⟨w.heap.size + 1, 2, none⟩) (by show w.heap.size ≤ w.heap.size + 1; omega) _
end Go.Proofs.Ytkjkgjkjjiejaaa
