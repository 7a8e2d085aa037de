/-
  The walk of the statement PoolOnce: for any bounds and any calls it answers true, and nothing that was there has turned. No condition.
-/
import Derived.Test.YtclhpmmdcapboaaPoolAlive
namespace Go.Proofs.Ytclhpmmdcapboaa
open Go.RowKit
set_option linter.unusedVariables false

theorem once_no (low high : Int) (a : Option Addr) (n c : Nat) (w : World) (hr : rightB low high = false) :
    Calls Try.prog 4 #[.int .i64 low, .int .i64 high, .slice a n c] w fun e w' => e = .returned (.bool true) ∧ Below w.heap.size w w' := by
  have hn : ¬ (16 ≤ low ∧ high ≤ 1048575 ∧ low ≤ high) := by simpa [rightB] using hr
  go_enter Try.func4, Try.ntmps4
  go_wp2_with fail
  ((with_reducible refine (alive_calls _).mono ?_))
  rintro e w1 ⟨rfl, b1⟩
  go_wp2_with fail
  ((with_reducible refine (new_no low high _ hn).mono ?_))
  rintro e w2 ⟨rfl, rfl⟩
  go_wp2_with fail
  ((with_reducible refine (right_calls low high _).mono ?_))
  rintro e w2 ⟨rfl, rfl⟩
  rw [hr]
  go_wp2
  go_ret
  exact ⟨rfl, b1⟩

set_option maxHeartbeats 1600000 in
set_option maxRecDepth 100000 in
theorem once_yes (low high : Int) (a : Option Addr) (n c : Nat) (es : List (Bool × Bool × Int)) (w : World) (h : Acts w w.heap.size a n es) (hm : n ≤ maxLen) (h1 : 16 ≤ low) (h2 : high ≤ 1048575) (h3 : low ≤ high) :
    Calls Try.prog 4 #[.int .i64 low, .int .i64 high, .slice a n c] w fun e w' => e = .returned (.bool true) ∧ Below w.heap.size w w' := by
  unfold maxLen at hm
  have HA := Lib.hid h
  clear h
  go_enter Try.func4, Try.ntmps4
  go_wp2_with fail
  ((with_reducible refine (alive_calls _).mono ?_))
  rintro e w1 ⟨rfl, b1⟩
  have B1 := Lib.hid b1
  clear b1
  go_wp2_with fail
  ((with_reducible refine (new_yes low high _ h1 h2 h3).mono ?_))
  rintro e w2 ⟨pb, mb, rfl, hP, hpb, hmb, b2⟩
  have hS : ∀ k ∈ [pb, mb], w.heap.size ≤ k := by have := B1.out.size; simp; omega
  have HS := Lib.hid hS
  have B2 := Lib.hid (bel_more B1.out (Nat.le_refl _) b2)
  have HP := Lib.hid hP
  clear hP b2 hS
  go_wp2
  go_loopw [8, 9] (fun u v W => ∃ (i : Nat) (last next : Int) (s : List Int), i ≤ 100 ∧ u = .int .i64 last ∧ v = .int .i64 (i : Int) ∧ last < next ∧ -1 ≤ last ∧ Pool W pb mb low next high s ∧ Below w.heap.size w W) (fun _ v _ => 100 - (intOf v).toNat)
  case atStart => exact ⟨0, low - 1, low, [], by omega, rfl, rfl, by omega, by omega, HP.out, B2.out⟩
  case round =>
    obtain ⟨i, last, next, s, hi, rfl, rfl, hlast, hlo, hP, hB⟩ := hrel
    have HP2 := Lib.hid hP
    have HB := Lib.hid hB
    have HA2 := Lib.hid (HA.out.below hB)
    clear hP hB
    by_cases hlt : i < n ∧ i < 100
    · obtain ⟨hin, hi1⟩ := hlt
      obtain ⟨b, o, bk, fk, l, rfl, d0, d1, d2, hw, _⟩ := HA2.out.at hin
      cases bk
      · go_wp2_with fail
        ((with_reducible refine (take_calls HP2.out).mono ?_))
        rintro e w3 ⟨l3, er, nx, s3, rfl, hP3, hr, ht⟩
        have HP3 := Lib.hid hP3
        have HB3 := Lib.hid (Turn.bel HB.out (Nat.le_refl _) ht HS.out)
        obtain ⟨q1, q2, q3, q4⟩ := HP2.out.2.2.1
        clear hP3 ht d0 d1 d2
        rcases hr with ⟨hle, rfl, rfl, rfl, rfl⟩ | ⟨hle, rfl, rfl, rfl, rfl⟩
        · have e1 : decide (l3 ≤ last) = false := by simp; omega
          have e2 : decide (l3 > high) = false := by simp; omega
          go_wp2
          exact ⟨⟨i + 1, _, _, _, by omega, rfl, by go_num, by omega, by omega, HP3.out, HB3.out⟩, by simp [intOf]; omega⟩
        · go_wp2_with fail
          ((with_reducible refine (left_calls_p HP3.out).mono ?_))
          rintro e w4 ⟨rfl, m4, rfl⟩
          have e1 : high - nx + 1 = 0 := by omega
          rw [e1]
          go_wp2
          exact ⟨⟨i + 1, _, _, _, by omega, rfl, by go_num, hlast, hlo, HP3.out.drewN m4, bel_drewN HB3.out m4⟩, by simp [intOf]; omega⟩
      · go_wp2_with fail
        ((with_reducible refine (drop_calls HP2.out l hw).mono ?_))
        rintro e w3 ⟨er, s3, rfl, hP3, hr, ht⟩
        have HP3 := Lib.hid hP3
        have HB3 := Lib.hid (Turn.bel HB.out (Nat.le_refl _) ht HS.out)
        clear hP3 ht d0 d1 d2 hr
        go_wp2
        exact ⟨⟨i + 1, _, _, _, by omega, rfl, by go_num, hlast, hlo, HP3.out, HB3.out⟩, by simp [intOf]; omega⟩
    · by_cases hin : i < n
      · have hi1 : ¬ i < 100 := fun h => hlt ⟨hin, h⟩
        clear hlt
        go_wp2
        go_ret
        exact ⟨rfl, HB.out⟩
      · clear hlt
        go_wp2
        go_ret
        exact ⟨rfl, HB.out⟩

theorem once_walk (low high : Int) (a : Option Addr) (n c : Nat) (w : World) (h : n ≤ maxLen ∧ ∃ es, Acts w w.heap.size a n es) :
    Calls Try.prog 4 #[.int .i64 low, .int .i64 high, .slice a n c] w fun e w' => e = .returned (.bool true) ∧ Below w.heap.size w w' := by
  obtain ⟨hm, es, h⟩ := h
  cases hr : rightB low high
  · exact once_no low high a n c w hr
  · obtain ⟨h1, h2, h3⟩ : 16 ≤ low ∧ high ≤ 1048575 ∧ low ≤ high := by simpa [rightB] using hr
    exact once_yes low high a n c es w h hm h1 h2 h3
end Go.Proofs.Ytclhpmmdcapboaa
