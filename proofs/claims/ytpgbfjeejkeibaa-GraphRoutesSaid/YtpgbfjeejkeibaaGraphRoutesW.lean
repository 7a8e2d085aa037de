/-
  The walk of the statement GraphRoutes: for any links and any list of nodes it answers true, and nothing that was there has turned. No condition.
-/
import Derived.Test.YtpgbfjeejkeibaaGraphAlive
import Derived.Test.YtpgbfjeejkeibaaGraphI
namespace Go.Proofs.Ytpgbfjeejkeibaa
open Go.RowKit

set_option maxHeartbeats 1600000 in
theorem routes_walk (p q : Option Addr) (n c m d : Nat) (w : World) (h : n ≤ c ∧ c ≤ maxLen ∧ ∃ L, Row lkc w w.heap.size p n L) (h2 : m ≤ d ∧ d ≤ maxLen ∧ ∃ r, Row ei w w.heap.size q m r) :
    Calls Try.prog 4 #[.slice p n c, .slice q m d] w fun e w' => e = .returned (.bool true) ∧ Below w.heap.size w w' := by
  obtain ⟨_, hcm, L, hR⟩ := h
  obtain ⟨hmd, hdm, r, hQ⟩ := h2
  have HR := Lib.hid hR
  have HQ := Lib.hid hQ
  have HL := Lib.hid hR.1
  have hb63 : n ≤ 9223372036854775807 := by simp only [maxLen] at hcm; omega
  have hm63 : m ≤ 9223372036854775807 := by simp only [maxLen] at hdm; omega
  have HMD := Lib.hid hmd
  clear hR hcm hQ hdm hmd
  go_enter Try.func4, Try.ntmps4
  go_wp2_with fail
  ((with_reducible refine (alive9_calls w).mono ?_))
  rintro e w1 ⟨rfl, b1⟩
  have B1 := Lib.hid b1
  have RL := Lib.hid ((HR.out.below b1).more b1.size)
  have RQ := Lib.hid ((HQ.out.below b1).more b1.size)
  clear b1
  go_wp2_with fail
  refine (small_calls p n c _ L w1 RL.out hb63).mono ?_
  rintro e w2 ⟨b, rfl, hb, rfl⟩
  cases b with
  | false =>
    go_wp2_with fail
    all_goals
      go_ret
      exact ⟨rfl, B1.out⟩
  | true =>
    obtain ⟨hsm, hn200⟩ := hb rfl
    have HSM := Lib.hid hsm
    clear hb hsm
    by_cases hm2 : 200 < m
    · have hm3 : (200 : Int) < (m : Int) := by omega
      go_wp2_with fail
      all_goals
        go_ret
        exact ⟨rfl, B1.out⟩
    · have hm3 : ¬ (200 : Int) < (m : Int) := by omega
      go_wp2_with fail
      refine (route_calls p q n c m d _ L r w2 RL.out RQ.out (Nat.le_refl _) (by omega) HMD.out HSM.out).mono ?_
      rintro e w3 ⟨b3, hres⟩
      have B3 := Lib.hid (bel_more B1.out (Nat.le_refl _) b3)
      have RL3 := Lib.hid ((RL.out.below b3).more b3.size)
      have RQ3 := Lib.hid ((RQ.out.below b3).more b3.size)
      clear b3 hm3
      rcases hres with ⟨hok, rfl⟩ | ⟨hno, rfl⟩
      · go_wp2_with fail
        refine (rroute_calls p q n c m d _ _ L r w3 RL3.out RQ3.out (by omega) HMD.out hm63 HSM.out).mono ?_
        rintro e w4 ⟨⟨k, rfl⟩, ⟨_, rfl⟩ | ⟨hno, _⟩⟩
        · have hbb : (cst L r r.length == cst L r r.length) = true := by simp
          go_wp2_with fail
          go_ret
          exact ⟨rfl, bel_drewN B3.out k⟩
        · exact absurd hok hno
      · go_wp2_with fail
        refine (rroute_calls p q n c m d _ _ L r w3 RL3.out RQ3.out (by omega) HMD.out hm63 HSM.out).mono ?_
        rintro e w4 ⟨⟨k, rfl⟩, ⟨hok, _⟩ | ⟨_, rfl⟩⟩
        · exact absurd hok hno
        · go_wp2_with fail
          go_ret
          exact ⟨rfl, bel_drewN B3.out k⟩
end Go.Proofs.Ytpgbfjeejkeibaa
