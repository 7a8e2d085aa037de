/-
  The walk of the statement OctetNobody: for any number it answers true, and nothing that was there has turned. No condition.
-/
import Derived.Test.YtkjkgjkjjiejaaaAlive
import Derived.Test.YtkjkgjkjjiejaaaOctG
import Derived.LoopN
namespace Go.Proofs.Ytkjkgjkjjiejaaa
open Go.RowKit

set_option maxHeartbeats 2000000 in
theorem nobody_walk (n : Int) (w : World) :
    Calls Try.prog 7 #[.int .i64 n] w fun e w' => e = .returned (.bool true) ∧ Below w.heap.size w w' := by
  go_enter Try.func7, Try.ntmps7
  go_wp2_with fail
  ((with_reducible refine (alive_calls w).mono ?_))
  rintro e w1 ⟨rfl, b1⟩
  go_wp2_with fail
  obtain ⟨W, hW⟩ : ∃ W, W = (w1.alloc (.cells #[.bool false, .slice none 0 0, .int .i64 0, .int .i64 0] 53)).alloc (.cells #[.pointer none, .pointer (some ⟨w1.heap.size, 0, none⟩)] 25) := ⟨_, rfl⟩
  have z1 : Zdr W w1.heap.size := by
    rw [hW]; unfold Zdr; rw [Below.heap_alloc _ _ _ (by simp)]; exact heap_alloc_new w1 _
  have hblk : W.heap[w1.heap.size + 1]? = some (.cells #[.pointer none, .pointer (some ⟨w1.heap.size, 0, none⟩)] 25 (0, 0)) := by
    rw [hW]
    have := heap_alloc_new (w1.alloc (.cells #[.bool false, .slice none 0 0, .int .i64 0, .int .i64 0] 53)) (.cells #[.pointer none, .pointer (some ⟨w1.heap.size, 0, none⟩)] 25)
    simpa using this
  have k0 : W.cell? ⟨w1.heap.size + 1, 0, none⟩ = some (.pointer none) := (cell_of_row W _ 0 _ _ _ hblk).trans rfl
  have k1 : W.cell? ⟨w1.heap.size + 1, 1, none⟩ = some (.pointer (some ⟨w1.heap.size, 0, none⟩)) := (cell_of_row W _ 1 _ _ _ hblk).trans rfl
  have bW : Below w.heap.size w W := by
    rw [hW]; exact (b1.alloc b1.size _).alloc (by simp; have := b1.size; omega) _
  rw [← hW]
  have Z1 := Lib.hid z1
  have BW := Lib.hid bW
  clear hW z1 hblk bW
  refine wp_loop_rounds 3 ?_
  rw [rounds_succ]
  go_wp2_with fail
  ((with_reducible refine (uint_nil _ _).mono ?_))
  rintro e w' ⟨rfl, rfl⟩
  go_wp2_with fail
  ((with_reducible refine (bytes_nil _ _).mono ?_))
  rintro e w' ⟨rfl, rfl⟩
  go_wp2_with fail
  ((with_reducible refine (left_nil _).mono ?_))
  rintro e w' ⟨rfl, rfl⟩
  go_wp2_with fail
  ((with_reducible refine (err_nil _).mono ?_))
  rintro e w' ⟨rfl, rfl⟩
  go_wp2_with fail
  rw [rounds_succ]
  go_wp2_with fail
  ((with_reducible refine (uint_zero Z1.out _).mono ?_))
  rintro e w' ⟨rfl, rfl⟩
  go_wp2_with fail
  ((with_reducible refine (bytes_zero Z1.out _).mono ?_))
  rintro e w' ⟨rfl, rfl⟩
  go_wp2_with fail
  ((with_reducible refine (left_zero Z1.out).mono ?_))
  rintro e w' ⟨rfl, m, rfl⟩
  go_wp2_with fail
  ((with_reducible refine (err_zero (Z1.out.drewN m)).mono ?_))
  rintro e w' ⟨rfl, rfl⟩
  go_wp2_with fail
  rw [rounds_succ]
  go_wp2_with fail
  have o1 := own_alloc (W.drewN m) [1, 2, 3] #[.int .u8 1, .int .u8 2, .int .u8 3] rfl
  have O1 := Lib.hid o1
  clear o1 k0 k1
  ((with_reducible refine (new_calls _ 3 3 [1, 2, 3] _ (O1.out.bts (by simp)) (by omega)).mono ?_))
  rintro e w2 ⟨r, g, rfl, hr, hg, h2, b2⟩
  have o2 : Own w2 W.heap.size [1, 2, 3] := O1.out.below b2 (by simp)
  have hr' : W.heap.size < r := by simp at hr; omega
  have hg' : W.heap.size < g := by simp at hg; omega
  have c1 : w2.cell? ⟨W.heap.size, 0, none⟩ = some (.int .u8 1) := o2.cell 0 (by simp)
  have f1 := o2.frozen 0
  have h2' : Rdr (w2.setCell ⟨W.heap.size, 0, none⟩ (.int .u8 9)) r g [1, 2, 3] 0 0 :=
    h2.same (Below.heap_setCell _ _ _ _ (by show r ≠ W.heap.size; omega)) (Below.heap_setCell _ _ _ _ (by show g ≠ W.heap.size; omega))
  have b2' : Below w.heap.size w w2 := by
    have h := BW.out
    have hs : w.heap.size ≤ W.heap.size := h.size
    exact ((bel_drewN h m).alloc hs _).trans (b2.mono (by simp; omega))
  have H2 := Lib.hid h2'
  have B2 := Lib.hid b2'
  clear h2 h2' b2 b2' o2 hr hg
  go_wp2_with fail
  ((with_reducible refine (bytes_i H2.out _ (by omega) (by simp)).mono ?_))
  rintro e w3 ⟨b, rfl, hb, h3, h3r, u3⟩
  have e1 : Int.toNat 1 = 1 := rfl
  rw [e1] at h3 ⊢
  have c3 : w3.cell? ⟨b, 0, none⟩ = some (.int .u8 1) := h3.cell 0 (by simp)
  have b3 : Below w.heap.size w w3 := by
    have hs : w.heap.size ≤ W.heap.size := BW.out.size
    exact bel_upd (B2.out.setCell (p := ⟨W.heap.size, 0, none⟩) hs _) u3 (Nat.le_refl _) (by omega)
  have B3 := Lib.hid b3
  clear b3 h3 e1 c1 f1
  go_wp2_with fail
  ((with_reducible refine (put_i _ 0 _ [] _ _ _ Bts.nil (by omega) (by omega) (by omega) (by omega) (by decide)).mono ?_))
  rintro e w4 ⟨rfl, h4, b4⟩
  have o4 := (own_alloc w3 [7] #[.int .u8 7] rfl).below b4 (by simp)
  have c4 : w4.cell? ⟨w3.heap.size, 0, none⟩ = some (.int .u8 7) := o4.cell 0 (by simp)
  have htx : ((convert 22 9 (.slice (some ⟨w3.heap.size + 1, 0, none⟩) 1 1)).run Try.prog w4) = .ok (.string ⟨#[5]⟩) w4 := by
    have h := ((h4.bts h4.lt).text (P := Try.prog) (c := 1) 22 5 9 Try.underlying22 Try.underlying5 Try.underlying9)
    have hd : dig (Int.toNat 1) (Int.toNat 5) = [5] := by decide
    rw [List.nil_append, hd] at h
    simpa using h
  have b4' : Below w.heap.size w w4 := bel_more (B3.out.alloc B3.out.size _) (Nat.le_refl _) b4
  have B4 := Lib.hid b4'
  clear o4 h4 b4 b4' c3
  go_wp2
  go_ret
  exact ⟨rfl, B4.out⟩
end Go.Proofs.Ytkjkgjkjjiejaaa
