/-
  The answers that the document fixes for layer 6 ('alive') come out: no condition.
-/
import Derived.Test.YtnmcfgoikffopaaObjB
import Derived.Test.YtnmcfgoikffopaaObjD
import Derived.Lib.SlBytesConst
namespace Go.Proofs.Ytnmcfgoikffopaa
open Go.RowKit

/-- New memory reads as the values that were laid there. -/
theorem row_new {α : Type} {enc : α → List Value} (w : World) (x : Nat) (hx : x = w.heap.size) (l : List α) (cs : Array Value) (T : TypeId) (h : cs = (l.flatMap enc).toArray) : Row enc (w.alloc (.cells cs T)) (w.alloc (.cells cs T)).heap.size (some ⟨x, 0, none⟩) l.length l := by
  subst h
  subst hx
  refine ⟨rfl, fun _ => ⟨w.heap.size, 0, rfl, by simp, fun i hi => ?_⟩⟩
  rw [cell_of_row _ _ _ _ _ _ (heap_alloc_new w _)]
  simp

set_option maxHeartbeats 800000 in
theorem alive6_calls (w : World) : Calls Try.prog 7 #[] w fun e w' => e = .returned (.bool true) ∧ Below w.heap.size w w' := by
  have kc := fun (w : World) (C : Array Value) (n c : Nat) => Lib.run_convert_bytes_const (P := Try.prog) w 25 5 C n c Try.underlying25 Try.underlying5
  have o1 : Bts (w.alloc (.cells #[.int .u8 97, .int .u8 98, .int .u8 99, .int .u8 100] 5 (4, 5))) (w.alloc (.cells #[.int .u8 97, .int .u8 98, .int .u8 99, .int .u8 100] 5 (4, 5))).heap.size (some ⟨w.heap.size, 0, none⟩) 4 [97, 98, 99, 100] := by
    refine ⟨rfl, fun _ => ⟨w.heap.size, 0, rfl, by simp, fun i hi => ?_⟩⟩
    rw [cell_of_row _ _ _ _ _ _ (heap_alloc_new w _)]
    simp only [List.length_cons, List.length_nil] at hi
    match i, hi with
    | 0, _ => rfl
    | 1, _ => rfl
    | 2, _ => rfl
    | 3, _ => rfl
  have k1 := bel_new (Below.refl w.heap.size w) (.cells #[.int .u8 97, .int .u8 98, .int .u8 99, .int .u8 100] 5 (4, 5))
  have r2 := row_new (enc := eo) (w.alloc (.cells #[.int .u8 97, .int .u8 98, .int .u8 99, .int .u8 100] 5 (4, 5))) (w.heap.size + 1) (World.size_alloc _ _).symm [⟨1, 7, some ⟨w.heap.size, 0, none⟩, 4, 4, [97, 98, 99, 100]⟩, ⟨8, 1, none, 0, 0, []⟩]
    #[.int .i64 1, .int .i64 7, .slice (some ⟨w.heap.size, 0, none⟩) 4 4, .int .i64 8, .int .i64 1, .slice none 0 0] 44 rfl
  have k2' := bel_new (Below.refl (w.alloc (.cells #[.int .u8 97, .int .u8 98, .int .u8 99, .int .u8 100] 5 (4, 5))).heap.size (w.alloc (.cells #[.int .u8 97, .int .u8 98, .int .u8 99, .int .u8 100] 5 (4, 5)))) (.cells #[.int .i64 1, .int .i64 7, .slice (some ⟨w.heap.size, 0, none⟩) 4 4, .int .i64 8, .int .i64 1, .slice none 0 0] 44)
  have k2 := bel_more k1 (Nat.le_refl _) k2'
  have o2 := (o1.below k2').more k2'.size
  have b2 : Bods ((w.alloc (.cells #[.int .u8 97, .int .u8 98, .int .u8 99, .int .u8 100] 5 (4, 5))).alloc (.cells #[.int .i64 1, .int .i64 7, .slice (some ⟨w.heap.size, 0, none⟩) 4 4, .int .i64 8, .int .i64 1, .slice none 0 0] 44)) ((w.alloc (.cells #[.int .u8 97, .int .u8 98, .int .u8 99, .int .u8 100] 5 (4, 5))).alloc (.cells #[.int .i64 1, .int .i64 7, .slice (some ⟨w.heap.size, 0, none⟩) 4 4, .int .i64 8, .int .i64 1, .slice none 0 0] 44)).heap.size
      [⟨1, 7, some ⟨w.heap.size, 0, none⟩, 4, 4, [97, 98, 99, 100]⟩, ⟨8, 1, none, 0, 0, []⟩] := by
    intro q hq
    rcases List.mem_cons.1 hq with rfl | hq
    · exact ⟨o2, by show 4 ≤ maxLen; unfold maxLen; omega⟩
    · obtain rfl := List.mem_singleton.1 hq
      exact ⟨Bts.nil, Nat.zero_le _⟩
  have OB := Lib.hid (show Objs _ _ _ 2 _ from ⟨r2, b2⟩)
  have K2 := Lib.hid k2
  clear o1 k1 r2 k2' k2 o2 b2
  go_enter Try.func7, Try.ntmps7
  go_wp2_with fail
  ((with_reducible refine (obencode_calls _ 2 2 _ _ OB.out (by unfold maxLen; omega)).mono ?_))
  rintro e w1 ⟨A, c, rfl, h1, b1⟩
  have e1 : oEnc (vals [⟨1, 7, some ⟨w.heap.size, 0, none⟩, 4, 4, [97, 98, 99, 100]⟩, ⟨8, 1, none, 0, 0, []⟩]) = [0, 8, 1, 7, 97, 98, 99, 100, 0, 4, 8, 1] := by
    show oEnc [(1, 7, [97, 98, 99, 100]), (8, 1, [])] = _
    decide +kernel
  have e2 : oErr (vals [⟨1, 7, some ⟨w.heap.size, 0, none⟩, 4, 4, [97, 98, 99, 100]⟩, ⟨8, 1, none, 0, 0, []⟩]) = 0 := by
    show oErr [(1, 7, [97, 98, 99, 100]), (8, 1, [])] = _
    decide +kernel
  rw [e1] at h1 ⊢
  rw [e2]
  have K1 := Lib.hid (bel_more K2.out (Nat.le_refl _) b1)
  have H1 := Lib.hid (show Bts w1 w1.heap.size A 12 [0, 8, 1, 7, 97, 98, 99, 100, 0, 4, 8, 1] from h1.bts)
  clear e1 e2 h1 b1 OB K2
  have o2 := Lib.hid (own_alloc w1 [0, 5, 1, 1, 0] #[.int .u8 0, .int .u8 5, .int .u8 1, .int .u8 1, .int .u8 0] rfl)
  have k2 := Lib.hid ((Below.refl w1.heap.size w1).alloc (Nat.le_refl _) (.cells #[.int .u8 0, .int .u8 5, .int .u8 1, .int .u8 1, .int .u8 0] 5))
  go_wp2_with fail
  ((with_reducible refine (obdecode_calls _ 5 5 [0, 5, 1, 1, 0] _ (o2.out.bts (by simp)) (by unfold maxLen; omega)).mono ?_))
  rintro e w2 ⟨A2, c2, qs, rfl, _, _, _, b2⟩
  have e3 : (oDec [0, 5, 1, 1, 0]).2 = 5 := by decide +kernel
  rw [e3]
  have K3 := Lib.hid (bel_more k2.out (Nat.le_refl _) b2)
  have T1 := (H1.out.below K3.out).more K3.out.size
  have htx : ((convert 25 9 (.slice A 12 c)).run Try.prog w2) = .ok (.string ⟨#[0, 8, 1, 7, 97, 98, 99, 100, 0, 4, 8, 1]⟩) w2 :=
    (T1.text (P := Try.prog) (c := c) 25 5 9 Try.underlying25 Try.underlying5 Try.underlying9).trans rfl
  have K4 := Lib.hid (bel_more K1.out (Nat.le_refl _) K3.out)
  clear e3 b2 T1 k2 o2 K1 K3
  go_wp2
  go_ret
  exact ⟨rfl, K4.out⟩
end Go.Proofs.Ytnmcfgoikffopaa
