/-
  The answers that the document fixes for layer 3 ('alive') come out: no condition.
-/
import Derived.Test.YtjfjfmpdgcokdaaShimC
namespace Go.Proofs.Ytjfjfmpdgcokdaa
open Go.RowKit

/-- New memory reads as the values that were laid there. -/
theorem row_alloc {α : Type} {enc : α → List Value} (w : World) (l : List α) (cs : Array Value) (T : TypeId) (h : cs = (l.flatMap enc).toArray) : Row enc (w.alloc (.cells cs T)) (w.alloc (.cells cs T)).heap.size (some ⟨w.heap.size, 0, none⟩) l.length l := by
  subst h
  refine ⟨rfl, fun _ => ⟨w.heap.size, 0, rfl, by simp, fun i hi => ?_⟩⟩
  rw [cell_of_row _ _ _ _ _ _ (heap_alloc_new w _)]
  simp

theorem At3.below {W W' : World} {B b k : Nat} {x y z : Int} (h : At3 W b k x y z) (hb : Below B W W') (hB : b < B) : At3 W' b k x y z :=
  ⟨(hb.cell (p := ⟨b, k, none⟩) hB).trans h.1, (hb.cell (p := ⟨b, k + 1, none⟩) hB).trans h.2.1, (hb.cell (p := ⟨b, k + 2, none⟩) hB).trans h.2.2⟩
theorem At3.new (w : World) (x y z : Int) : At3 (w.alloc (.cells #[.int .i64 x, .int .i64 y, .int .i64 z] 24)) w.heap.size 0 x y z :=
  ⟨cell_of_row _ _ _ _ _ _ (heap_alloc_new w _), cell_of_row _ _ _ _ _ _ (heap_alloc_new w _), cell_of_row _ _ _ _ _ _ (heap_alloc_new w _)⟩

set_option maxHeartbeats 800000 in
theorem alive_calls (w : World) : Calls Try.prog 9 #[] w fun e w' => e = .returned (.bool true) ∧ Below w.heap.size w w' := by
  have o1 := Lib.hid (row_alloc (enc := ec) w [(16, 5, 64), (3, 0, 1)] #[.int .i64 16, .int .i64 5, .int .i64 64, .int .i64 3, .int .i64 0, .int .i64 1] 24 rfl)
  have k1 := Lib.hid ((Below.refl w.heap.size w).alloc (Nat.le_refl _) (.cells #[.int .i64 16, .int .i64 5, .int .i64 64, .int .i64 3, .int .i64 0, .int .i64 1] 24))
  go_enter Try.func9, Try.ntmps9
  go_wp2_with fail
  ((with_reducible refine (encode_calls _ 2 2 [(16, 5, 64), (3, 0, 1)] _ o1.out (by omega)).mono ?_))
  rintro e w1 ⟨A, c, rfl, h1, b1⟩
  have e1 : encR [(16, 5, 64), (3, 0, 1)] = [0, 1, 10, 64, 0, 0, 49, 1] := by decide +kernel
  have e2 : encErr [(16, 5, 64), (3, 0, 1)] = 0 := by decide +kernel
  rw [e1] at h1 ⊢
  rw [e2]
  have K1 := Lib.hid (bel_more k1.out (Nat.le_refl _) b1)
  have H1 := Lib.hid (show Bts w1 w1.heap.size A 8 [0, 1, 10, 64, 0, 0, 49, 1] from h1)
  clear e1 e2 h1 b1 o1 k1
  have o2 := Lib.hid (own_alloc w1 [0, 1, 1, 64, 255] #[.int .u8 0, .int .u8 1, .int .u8 1, .int .u8 64, .int .u8 255] rfl)
  have k2 := Lib.hid ((Below.refl w1.heap.size w1).alloc (Nat.le_refl _) (.cells #[.int .u8 0, .int .u8 1, .int .u8 1, .int .u8 64, .int .u8 255] 5))
  go_wp2_with fail
  ((with_reducible refine (decode_calls _ 5 5 [0, 1, 1, 64, 255] _ (o2.out.bts (by simp)) (by omega)).mono ?_))
  rintro e w2 ⟨A2, c2, A3, c3, rfl, h2, h3, b2⟩
  have e3 : dec [0, 1, 1, 64, 255] 8 0 = (1, 0) := by decide +kernel
  have e4 : stk [0, 1, 1, 64, 255] 1 = [(16, 0, 64)] := by decide +kernel
  have e5 : rst [0, 1, 1, 64, 255] = [255] := by decide +kernel
  rw [e3] at h2 ⊢
  rw [e4] at h2
  rw [e5]
  have K2 := Lib.hid (bel_more k2.out (Nat.le_refl _) b2)
  have T1 := (H1.out.below K2.out).more K2.out.size
  have htx : ((convert 26 9 (.slice A 8 c)).run Try.prog w2) = .ok (.string ⟨#[0, 1, 10, 64, 0, 0, 49, 1]⟩) w2 :=
    (T1.text (P := Try.prog) (c := c) 26 5 9 Try.underlying26 Try.underlying5 Try.underlying9).trans rfl
  obtain ⟨b, o, rfl, _, hc⟩ := row_at3 h2 (by omega)
  have hat := hc 0 (by simp)
  obtain ⟨c0, c1, c2'⟩ : At3 w2 b o 16 0 64 := by simpa using hat
  have K3 := Lib.hid (bel_more K1.out (Nat.le_refl _) K2.out)
  clear e3 e4 e5 h2 h3 b2 T1 hc hat k2 o2 K1 K2
  go_wp2_with fail
  ((with_reducible refine (may_calls 16 0 64 _).mono ?_))
  rintro e w3 ⟨rfl, rfl⟩
  have e6 : may 16 0 64 = true := by decide +kernel
  rw [e6]
  clear e6 htx
  go_wp2
  go_ret
  exact ⟨rfl, bel_new K3.out _⟩
end Go.Proofs.Ytjfjfmpdgcokdaa
