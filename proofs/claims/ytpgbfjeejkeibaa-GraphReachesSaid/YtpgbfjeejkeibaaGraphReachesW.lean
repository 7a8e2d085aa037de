/-
  The walk of the statement GraphReaches: for any links, any number of nodes and any first one it answers true, and nothing that was there has turned. No condition.
-/
import Derived.Test.YtpgbfjeejkeibaaGraphAlive
import Derived.Test.YtpgbfjeejkeibaaGraphK
namespace Go.Proofs.Ytpgbfjeejkeibaa
open Go.RowKit

theorem marks_same {n : Nat} {bs cs : List Bool} (h1 : bs.length = n) (h2 : cs.length = n) (h : ∀ x : Int, 0 ≤ x → x < n → (bat bs x = true ↔ bat cs x = true)) : bs = cs := by
  apply List.ext_getElem (by omega)
  intro i hi hj
  have := h (i : Int) (by omega) (by omega)
  unfold bat at this
  rw [Int.toNat_natCast] at this
  simp only [List.getD_eq_getElem?_getD, List.getElem?_eq_getElem hi, List.getElem?_eq_getElem hj, Option.getD_some] at this
  cases hb : bs[i] <;> cases hc : cs[i] <;> simp_all

set_option maxHeartbeats 1600000 in
theorem reaches_walk (n : Int) (p : Option Addr) (m c : Nat) (a : Int) (w : World) (h : m ≤ c ∧ c ≤ maxLen ∧ ∃ L, Row lkc w w.heap.size p m L) (hn : -9223372036854775808 ≤ n ∧ n < 9223372036854775808) :
    Calls Try.prog 5 #[.int .i64 n, .slice p m c, .int .i64 a] w fun e w' => e = .returned (.bool true) ∧ Below w.heap.size w w' := by
  obtain ⟨_, hcm, L, hR⟩ := h
  have HR := Lib.hid hR
  have HL := Lib.hid hR.1
  have hb63 : m ≤ 9223372036854775807 := by simp only [maxLen] at hcm; omega
  clear hR hcm
  go_enter Try.func5, Try.ntmps5
  go_wp2_with fail
  ((with_reducible refine (alive9_calls w).mono ?_))
  rintro e w1 ⟨rfl, b1⟩
  have B1 := Lib.hid b1
  have RL := Lib.hid ((HR.out.below b1).more b1.size)
  clear b1
  by_cases hm : 200 < m
  · have hm2 : (200 : Int) < (m : Int) := by omega
    go_wp2_with fail
    go_ret
    exact ⟨rfl, B1.out⟩
  have hm2 : ¬ (200 : Int) < (m : Int) := by omega
  go_wp2_with fail
  refine (reach_calls n a p m c L w1 RL.out (by omega) (by omega) (by omega)).mono ?_
  rintro e w2 ⟨b2, hres⟩
  have B2 := Lib.hid (bel_more B1.out (Nat.le_refl _) b2)
  have RL2 := Lib.hid ((RL.out.below b2).more b2.size)
  clear hm2
  rcases hres with ⟨hno, rfl⟩ | ⟨hz, ha0, ha1, rb, bs, rfl, hrb, hM, hbl, hiff⟩
  · clear b2
    go_wp2_with fail
    refine (rreach_calls n a p m c L w2 RL2.out (by omega)).mono ?_
    rintro e w3 ⟨b3, ⟨_, rfl⟩ | ⟨hz, ha0, ha1, _⟩⟩
    · have B3 := Lib.hid (bel_more B2.out (Nat.le_refl _) b3)
      clear b3
      go_wp2_with fail
      refine wp_loop_rounds 1 ?_
      rw [rounds_succ]
      go_wp2
      go_ret
      exact ⟨rfl, B3.out⟩
    · exact absurd ⟨hz, ha0, ha1⟩ hno
  · clear b2
    have HM := Lib.hid hM
    have HIF := Lib.hid hiff
    have HZA := Lib.hid (And.intro hz (And.intro ha0 ha1))
    have HBL := Lib.hid hbl
    clear hM hiff hz ha0 ha1 hbl
    go_wp2_with fail
    refine (rreach_calls n a p m c L w2 RL2.out (by omega)).mono ?_
    rintro e w3 ⟨b3, ⟨hno, _⟩ | ⟨_, _, _, rb2, cs, rfl, hrb2, hM2, hcl, hiff2⟩⟩
    · exact absurd HZA.out hno
    · have hsame : bs = cs := by
        have h1 := HBL.out
        refine marks_same (n := bs.length) rfl (by omega) (fun x h0 hx => ?_)
        rw [HIF.out x h0 (by omega), hiff2 x h0 (by omega)]
      subst hsame
      have B3 := Lib.hid (bel_more B2.out (Nat.le_refl _) b3)
      have M1 := Lib.hid (show Mks w3 rb bs from Blk.below HM.out b3)
      have M2 := Lib.hid hM2
      have hlen : bs.length ≤ 9223372036854775807 := by have := HBL.out; omega
      have hbb : (((bs.length : Nat) : Int) != ((bs.length : Nat) : Int)) = false := by simp
      clear b3 hM2 hiff2 hcl
      go_wp2_with fail
      clear hbb
      go_loopw [30] (fun t wr => ∃ i : Nat, i ≤ bs.length ∧ t = .int .i64 (i : Int) ∧ ∃ k, wr = w3.drewN k) (fun t wr => bs.length - (intOf t).toNat)
      case atStart => exact ⟨0, Nat.zero_le _, rfl, 0, rfl⟩
      case round =>
        obtain ⟨i, hi, rfl, k0, rfl⟩ := hrel
        by_cases hlt : i < bs.length
        · have c1 := M1.out.cell (i : Int) (by omega) (by omega)
          have c2 := M2.out.cell (i : Int) (by omega) (by omega)
          rw [Int.toNat_natCast] at c1 c2
          have HC := Lib.hid (And.intro c1 c2)
          have hi63 : i < 9223372036854775807 := by omega
          generalize bat bs (i : Int) = v at *
          clear c1 c2
          go_wp2_with fail
          refine region_seq (fun W => W.cell? ⟨rb, i, none⟩ = some (.bool v) ∧ W.cell? ⟨rb2, i, none⟩ = some (.bool v)) [(0, true), (1, true), (2, true), (3, true), (4, true), (5, true), (6, true), (7, true), (8, true)]
            (by kernel_rfl) (by kernel_rfl) (by kernel_rfl) (by kernel_rfl) (fun _ _ _ _ _ h => h) HC.out ?_
          have hvv : (v != v) = false := by simp
          repeat
            refine seq_pure (v := ?_) rfl (by rfl) (fun W hW => ?_) ?_
            rotate_left
            · have t1 := hW.1
              have t2 := hW.2
              clear hW
              go_simp
              try with_reducible rfl
            simp only [Act.put, List.setIfInBounds_toArray, List.set_cons_zero, List.set_cons_succ]
          refine seq_done ?_
          go_wp2_with fail
          go_roundw
          case rel => exact ⟨i + 1, by omega, rfl, k0 + 1, rfl⟩
          case measure => simp [intOf]; omega
        · go_wp2_with fail
          go_ret
          exact ⟨rfl, bel_drewN B3.out k0⟩
end Go.Proofs.Ytpgbfjeejkeibaa
