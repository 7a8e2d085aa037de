/-
  The walk of the statement ShimEncodes: for any entries it answers true, and nothing that was there has turned. No condition.
-/
import Derived.Test.YtjfjfmpdgcokdaaShimAlive
import Derived.Test.YtjfjfmpdgcokdaaShimE
import Derived.Test.YtjfjfmpdgcokdaaSeq
namespace Go.Proofs.Ytjfjfmpdgcokdaa
open Go.RowKit

theorem encodes_long (a : Option Addr) (n c : Nat) (x y z : Int) (w : World) (hn : 4096 < n) (hm : n ≤ maxLen) :
    Calls Try.prog 3 #[.slice a n c, .agg #[.int .i64 x, .int .i64 y, .int .i64 z]] w fun e w' => e = .returned (.bool true) ∧ Below w.heap.size w w' := by
  unfold maxLen at hm
  have k0 := Lib.hid (bel_new (Below.refl w.heap.size w) (.cells #[.int .i64 x, .int .i64 y, .int .i64 z] 24))
  go_enter Try.func3, Try.ntmps3
  go_wp2_with fail
  ((with_reducible refine (alive_calls _).mono ?_))
  rintro e w1 ⟨rfl, b1⟩
  have K1 := Lib.hid (bel_more k0.out (Nat.le_refl _) b1)
  go_wp2
  go_ret
  exact ⟨rfl, K1.out⟩

set_option maxHeartbeats 800000 in
theorem encodes_ok (a : Option Addr) (n c : Nat) (es : List (Int × Int × Int)) (x y z : Int) (w : World) (h : Row ec w w.heap.size a n es) (hn : n ≤ 4096) :
    Calls Try.prog 3 #[.slice a n c, .agg #[.int .i64 x, .int .i64 y, .int .i64 z]] w fun e w' => e = .returned (.bool true) ∧ Below w.heap.size w w' := by
  have HR := Lib.hid h
  clear h
  have k0 := Lib.hid (bel_new (Below.refl w.heap.size w) (.cells #[.int .i64 x, .int .i64 y, .int .i64 z] 24))
  have HAT := Lib.hid (At3.new w x y z)
  go_enter Try.func3, Try.ntmps3
  go_wp2_with fail
  ((with_reducible refine (alive_calls _).mono ?_))
  rintro e w1 ⟨rfl, b1⟩
  have K1 := Lib.hid (bel_more k0.out (Nat.le_refl _) b1)
  have HR1 := Lib.hid ((HR.out.below K1.out).more K1.out.size)
  have AT1 := Lib.hid (HAT.out.below b1 (by simp))
  have hw1 : w.heap.size < w1.heap.size := by have := b1.size; rw [World.size_alloc] at this; omega
  clear b1
  go_wp2_with fail
  ((with_reducible refine (encode_calls a n c es w1 HR1.out (by omega)).mono ?_))
  rintro e w2 ⟨A2, c2, rfl, h2, b2⟩
  have K2 := Lib.hid (bel_more K1.out (Nat.le_refl _) b2)
  have HR2 := Lib.hid ((HR1.out.below b2).more b2.size)
  have AT2 := Lib.hid (AT1.out.below b2 hw1)
  have hw2 : w.heap.size < w2.heap.size := Nat.lt_of_lt_of_le hw1 b2.size
  have H2 := Lib.hid h2
  clear h2 b2
  go_wp2_with fail
  ((with_reducible refine (refencode_calls a n c es w2 HR2.out (by omega)).mono ?_))
  rintro e w3 ⟨A3, c3, rfl, h3, b3⟩
  have K3 := Lib.hid (bel_more K2.out (Nat.le_refl _) b3)
  have AT3 := Lib.hid (AT2.out.below b3 hw2)
  have hw3 : w.heap.size < w3.heap.size := Nat.lt_of_lt_of_le hw2 b3.size
  have H3 := Lib.hid h3
  have H2' := Lib.hid ((H2.out.below b3).more b3.size)
  clear h3 b3 H2
  generalize encR es = R at *
  generalize encErr es = E at *
  generalize hRl : R.length = N at *
  clear hRl
  go_wp2_with fail
  refine region_seq (fun W => Bts W w3.heap.size A2 N R ∧ Bts W w3.heap.size A3 N R ∧ At3 W w.heap.size 0 x y z)
    [(0, true), (1, true), (2, true), (3, true), (4, true), (5, true), (6, true), (7, true), (8, true), (9, true), (10, true), (11, true), (13, true), (12, false), (14, false), (15, true), (16, true), (17, true)]
    (by kernel_rfl) (by kernel_rfl) (by kernel_rfl) (by kernel_rfl) (fun _ _ _ _ _ h => h) ⟨H2'.out, H3.out, AT3.out⟩ ?_
  repeat
    refine seq_pure (v := ?_) rfl (by rfl) (fun W hW => ?_) ?_
    rotate_left
    · have t1 := fun cc => hW.1.text (P := Try.prog) (c := cc) 26 5 9 Try.underlying26 Try.underlying5 Try.underlying9
      have t2 := fun cc => hW.2.1.text (P := Try.prog) (c := cc) 26 5 9 Try.underlying26 Try.underlying5 Try.underlying9
      obtain ⟨_, _, d0, d1, d2⟩ := hW
      go_simp
      try with_reducible rfl
    simp only [Act.put, List.setIfInBounds_toArray, List.set_cons_zero, List.set_cons_succ]
  refine seq_make rfl (by rfl) (fun K hK => ?_)
  go_simp
  ((with_reducible refine (may_calls x y z _).mono ?_))
  rintro e w4 ⟨rfl, rfl⟩
  go_simp
  have b4 : Below w3.heap.size w3 (w3.drew.alloc (.cells #[.int .i64 x, .int .i64 y, .int .i64 z] 24)) := below_of_drew (bel_new (Below.refl _ _) _)
  have B4 := Lib.hid b4
  refine hK _ _ (fun W => Bts W w3.heap.size A2 N R ∧ Bts W w3.heap.size A3 N R ∧ At3 W w.heap.size 0 x y z) (fun W h => h) ⟨H2'.out.below b4, H3.out.below b4, AT3.out.below b4 hw3⟩ ?_
  clear hK K b4
  refine seq_make rfl (by rfl) (fun K hK => ?_)
  go_simp
  ((with_reducible refine (refmay_calls x y z _).mono ?_))
  rintro e w5 ⟨rfl, rfl⟩
  go_simp
  have b5 := bel_new B4.out (.cells #[.int .i64 x, .int .i64 y, .int .i64 z] 24)
  have B5 := Lib.hid b5
  refine hK _ _ (fun W => Bts W w3.heap.size A2 N R ∧ Bts W w3.heap.size A3 N R ∧ At3 W w.heap.size 0 x y z) (fun W h => h) ⟨H2'.out.below b5, H3.out.below b5, AT3.out.below b5 hw3⟩ ?_
  clear hK K b5
  repeat
    refine seq_pure (v := ?_) rfl (by rfl) (fun W hW => ?_) ?_
    rotate_left
    · clear hW
      go_simp
      try with_reducible rfl
    simp only [Act.put, List.setIfInBounds_toArray, List.set_cons_zero, List.set_cons_succ]
  refine seq_done ?_
  go_wp2
  go_ret
  exact ⟨rfl, bel_more K3.out (Nat.le_refl _) B5.out⟩

theorem encodes_walk (a : Option Addr) (n c : Nat) (x y z : Int) (w : World) (h : n ≤ c ∧ c ≤ maxLen ∧ ∃ es, Row ec w w.heap.size a n es) :
    Calls Try.prog 3 #[.slice a n c, .agg #[.int .i64 x, .int .i64 y, .int .i64 z]] w fun e w' => e = .returned (.bool true) ∧ Below w.heap.size w w' := by
  obtain ⟨h1, h2, es, hr⟩ := h
  by_cases hn : n ≤ 4096
  · exact encodes_ok a n c es x y z w hr hn
  · exact encodes_long a n c x y z w (by omega) (Nat.le_trans h1 h2)
end Go.Proofs.Ytjfjfmpdgcokdaa
