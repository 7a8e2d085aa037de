/-
  The answers that the document fixes for layer 4 ('alive') come out; which bounds a pool may have, as the document's answer says it. No condition.
-/
import Derived.Test.YtclhpmmdcapboaaPoolB
import Derived.Test.YtclhpmmdcapboaaPoolOpen
namespace Go.Proofs.Ytclhpmmdcapboaa
open Go.RowKit

/-- May there be such a pool? -/
def rightB (low high : Int) : Bool := decide (16 ≤ low ∧ high ≤ 1048575 ∧ low ≤ high)

theorem right_calls (low high : Int) (w : World) : Calls Try.prog 10 #[.int .i64 low, .int .i64 high] w fun e w' => e = .returned (.bool (rightB low high)) ∧ w' = w := by
  by_cases h1 : low ≥ 16
  · have e1 : decide (low ≥ 16) = true := by simp; omega
    by_cases h2 : high ≤ 1048575
    · have e2 : decide (high ≤ 1048575) = true := by simp; omega
      have e3 : rightB low high = decide (low ≤ high) := by unfold rightB; exact decide_eq_decide.2 (by omega)
      rw [e3]
      clear e3 h1 h2
      go_enter Try.func10, Try.ntmps10
      go_wp2
      go_ret
      exact ⟨rfl, rfl⟩
    · have e2 : decide (high ≤ 1048575) = false := by simp; omega
      have e3 : rightB low high = false := by unfold rightB; simp; omega
      rw [e3]
      clear e3 h1 h2
      go_enter Try.func10, Try.ntmps10
      go_wp2
      go_ret
      exact ⟨rfl, rfl⟩
  · have e1 : decide (low ≥ 16) = false := by simp; omega
    have e3 : rightB low high = false := by unfold rightB; simp; omega
    rw [e3]
    clear e3 h1
    go_enter Try.func10, Try.ntmps10
    go_wp2
    go_ret
    exact ⟨rfl, rfl⟩

theorem TakeRel.eq {next high : Int} {s : List Int} {l er next' : Int} {s' : List Int} (h : TakeRel next high s l er next' s') (hle : next ≤ high) : l = next ∧ er = 0 ∧ next' = next + 1 ∧ s' = s ++ [next] := by
  rcases h with ⟨_, h⟩ | ⟨h, _⟩
  · exact h
  · omega
theorem TakeRel.full {next high : Int} {s : List Int} {l er next' : Int} {s' : List Int} (h : TakeRel next high s l er next' s') (hle : high < next) : l = 0 ∧ er = 7 ∧ next' = next ∧ s' = s := by
  rcases h with ⟨h, _⟩ | ⟨_, h⟩
  · omega
  · exact h
theorem DropRel.eq {s : List Int} {l er : Int} {s' : List Int} (h : DropRel s l er s') (hl : l ∈ s) : er = 0 ∧ s' = s.filter (fun y => !(y == l)) := by
  rcases h with ⟨_, h⟩ | ⟨h, _⟩
  · exact h
  · exact absurd hl h
theorem DropRel.none {s : List Int} {l er : Int} {s' : List Int} (h : DropRel s l er s') (hl : l ∉ s) : er = 8 ∧ s' = s := by
  rcases h with ⟨h, _⟩ | ⟨_, h⟩
  · exact absurd h hl
  · exact h

set_option maxHeartbeats 1600000 in
theorem alive_calls (w : World) : Calls Try.prog 8 #[] w fun e w' => e = .returned (.bool true) ∧ Below w.heap.size w w' := by
  go_enter Try.func8, Try.ntmps8
  go_wp2_with fail
  ((with_reducible refine (new_yes 16 17 w (by omega) (by omega) (by omega)).mono ?_))
  rintro e w1 ⟨pb, mb, rfl, h1, hpb, hmb, b1⟩
  have hS : ∀ k ∈ [pb, mb], w.heap.size ≤ k := by simp; omega
  have HS := Lib.hid hS
  have B1 := Lib.hid b1
  have H1 := Lib.hid h1
  clear h1 b1 hS
  go_wp2_with fail
  ((with_reducible refine (take_calls H1.out).mono ?_))
  rintro e w2 ⟨l, er, nx, s2, rfl, h2, hr, ht⟩
  obtain ⟨rfl, rfl, rfl, rfl⟩ := hr.eq (by omega)
  have B2 := Lib.hid (Turn.bel B1.out (Nat.le_refl _) ht HS.out)
  have H2 := Lib.hid h2
  clear h2 hr ht
  go_wp2_with fail
  ((with_reducible refine (drop_calls H2.out 16 (by decide)).mono ?_))
  rintro e w3 ⟨er, s3, rfl, h3, hr, ht⟩
  obtain ⟨rfl, rfl⟩ := hr.eq (by simp)
  have B3 := Lib.hid (Turn.bel B2.out (Nat.le_refl _) ht HS.out)
  have H3 := Lib.hid h3
  clear h3 hr ht
  go_wp2_with fail
  ((with_reducible refine (take_calls H3.out).mono ?_))
  rintro e w4 ⟨l, er, nx, s4, rfl, h4, hr, ht⟩
  obtain ⟨rfl, rfl, rfl, rfl⟩ := hr.eq (by omega)
  have B4 := Lib.hid (Turn.bel B3.out (Nat.le_refl _) ht HS.out)
  have H4 := Lib.hid h4
  clear h4 hr ht
  go_wp2_with fail
  ((with_reducible refine (take_calls H4.out).mono ?_))
  rintro e w5 ⟨l, er, nx, s5, rfl, h5, hr, ht⟩
  obtain ⟨rfl, rfl, rfl, rfl⟩ := hr.full (by omega)
  have B5 := Lib.hid (Turn.bel B4.out (Nat.le_refl _) ht HS.out)
  have e5 : ([] ++ [(16 : Int)]).filter (fun y => !(y == 16)) ++ [(16 : Int) + 1] = [17] := by decide
  rw [e5] at h5
  have H5 := Lib.hid h5
  clear h5 hr ht e5
  go_wp2_with fail
  ((with_reducible refine (out_calls H5.out).mono ?_))
  rintro e w6 ⟨A, c, rfl, _, b6⟩
  have H6 := Lib.hid (H5.out.below b6)
  have B6 := Lib.hid (bel_more B5.out (Nat.le_refl _) b6)
  clear b6
  go_wp2_with fail
  ((with_reducible refine (left_calls_p H6.out).mono ?_))
  rintro e w7 ⟨rfl, m7, rfl⟩
  go_wp2
  go_ret
  exact ⟨rfl, bel_drewN B6.out _⟩
end Go.Proofs.Ytclhpmmdcapboaa
