/-
  The walk of the statement ShimDecodes: for any bytes it answers true, and nothing that was there has turned. No condition.
-/
import Derived.Test.YtjfjfmpdgcokdaaShimAlive
import Derived.Test.YtjfjfmpdgcokdaaShimF
namespace Go.Proofs.Ytjfjfmpdgcokdaa
open Go.RowKit

theorem decodes_long (a : Option Addr) (n c : Nat) (w : World) (hn : 4096 < n) (hm : n ≤ maxLen) :
    Calls Try.prog 4 #[.slice a n c] w fun e w' => e = .returned (.bool true) ∧ Below w.heap.size w w' := by
  unfold maxLen at hm
  go_enter Try.func4, Try.ntmps4
  go_wp2_with fail
  ((with_reducible refine (alive_calls _).mono ?_))
  rintro e w1 ⟨rfl, b1⟩
  go_wp2
  go_ret
  exact ⟨rfl, b1⟩

theorem dec_le (b : List UInt8) : (dec b 8 0).1 ≤ 8 := by
  by_cases h : (dec b 8 0).2 = 0
  · have := dec_ok b 8 0 (dec b 8 0).1 (Prod.ext rfl h); omega
  · rw [dec_no b 8 0 h]; omega

set_option maxHeartbeats 800000 in
theorem decodes_ok (a : Option Addr) (n c : Nat) (b : List UInt8) (w : World) (h : Bts w w.heap.size a n b) (hn : n ≤ 4096) (hc : n ≤ c) (hm : c ≤ maxLen) :
    Calls Try.prog 4 #[.slice a n c] w fun e w' => e = .returned (.bool true) ∧ Below w.heap.size w w' := by
  have HB := Lib.hid h
  have HM := Lib.hid hm
  have hd8 := dec_le b
  clear h hm
  go_enter Try.func4, Try.ntmps4
  go_wp2_with fail
  ((with_reducible refine (alive_calls _).mono ?_))
  rintro e w1 ⟨rfl, b1⟩
  have B1 := Lib.hid b1
  have HB1 := Lib.hid ((HB.out.below b1).more b1.size)
  clear b1
  go_wp2_with fail
  ((with_reducible refine (decode_calls a n c b w1 HB1.out (by omega)).mono ?_))
  rintro e w2 ⟨A2, c2, A3, c3, rfl, h2, h3, b2⟩
  have B2 := Lib.hid (bel_more B1.out (Nat.le_refl _) b2)
  have HB2 := Lib.hid ((HB1.out.below b2).more b2.size)
  have H2 := Lib.hid h2
  have H3 := Lib.hid h3
  clear h2 h3 b2
  go_wp2_with fail
  ((with_reducible refine (refdecode_calls a n c b w2 HB2.out (by omega) hc HM.out).mono ?_))
  rintro e w3 ⟨A4, c4, A5, c5, rfl, h4, h5, b3⟩
  have B3 := Lib.hid (bel_more B2.out (Nat.le_refl _) b3)
  have H2' := Lib.hid (H2.out.below b3)
  have H3' := Lib.hid (H3.out.below b3)
  have H4 := Lib.hid h4
  have H5 := Lib.hid h5
  clear h4 h5 b3 H2 H3
  generalize stk b (dec b 8 0).1 = S at *
  generalize (dec b 8 0).1 = M at *
  generalize (dec b 8 0).2 = E at *
  generalize rst b = R at *
  generalize hRl : R.length = N at *
  clear hRl
  go_wp2_with fail
  ((with_reducible refine (same_calls A2 A4 M c2 c4 S _ _ w3 H2'.out H4.out (by omega)).mono ?_))
  rintro e w4 ⟨rfl, m, rfl⟩
  have t1 := fun cc => (H3'.out).text (P := Try.prog) (w := w3.drewN m) (c := cc) 26 5 9 Try.underlying26 Try.underlying5 Try.underlying9
  have t2 := fun cc => (H5.out).text (P := Try.prog) (w := w3.drewN m) (c := cc) 26 5 9 Try.underlying26 Try.underlying5 Try.underlying9
  go_wp2
  go_ret
  exact ⟨rfl, bel_drewN B3.out m⟩

theorem decodes_walk (a : Option Addr) (n c : Nat) (w : World) (h : n ≤ maxLen ∧ ∃ l, Bts w w.heap.size a n l) (hc : n ≤ c ∧ c ≤ maxLen) :
    Calls Try.prog 4 #[.slice a n c] w fun e w' => e = .returned (.bool true) ∧ Below w.heap.size w w' := by
  obtain ⟨hm, l, hl⟩ := h
  by_cases hn : n ≤ 4096
  · exact decodes_ok a n c l w hl hn hc.1 hc.2
  · exact decodes_long a n c w (by omega) hm
end Go.Proofs.Ytjfjfmpdgcokdaa
