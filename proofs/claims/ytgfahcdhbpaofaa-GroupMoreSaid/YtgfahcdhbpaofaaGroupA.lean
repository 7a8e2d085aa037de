/-
  The document's answers of layer 12 (viaductref12). Condition: groups are numbers of 32 bits.
-/
import Derived.Test.YtgfahcdhbpaofaaGroupM
import Derived.Test.YtgfahcdhbpaofaaBlk
namespace Go.Proofs.Ytgfahcdhbpaofaa
set_option maxRecDepth 100000
set_option linter.unusedVariables false
open Go.RowKit

/-- The cells of a want. -/
def wnc (w : Wn) : List Value := [.int .u64 (w.bw : Int), .int .i64 w.su, .int .i64 w.ho, .int .u32 (w.an : Int), .int .u32 (w.al : Int), .int .u32 (w.no : Int)]
/-- A want's groups are numbers of 32 bits. -/
def WnOk (w : Wn) : Prop := w.an < 4294967296 ∧ w.al < 4294967296 ∧ w.no < 4294967296

theorem within12_calls (a b : Nat) (ha : a < 4294967296) (hb : b < 4294967296) (w : World) : Calls Try.prog 17 #[.int .u32 (a : Int), .int .u32 (b : Int)] w fun e w' => e = .returned (.bool (subB a b)) ∧ w' = w := by
  go_enter Try.func17, Try.ntmps17
  go_wp2_with fail
  go_loopw [0, 1, 5] (fun s t u W => ∃ i x y : Nat, i ≤ 32 ∧ s = .int .u32 (x : Int) ∧ t = .int .u32 (y : Int) ∧ u = .int .i64 (i : Int) ∧ x < 2 ^ (32 - i) ∧ y < 4294967296 ∧ subB x y = subB a b ∧ W = w) (fun s t u W => 32 - (intOf u).toNat)
  case atStart => exact ⟨0, a, b, by omega, rfl, rfl, rfl, ha, hb, rfl, by first | rfl | trivial⟩
  case round =>
    obtain ⟨i, x, y, hi, rfl, rfl, rfl, hx, hy, hs, rfl⟩ := hrel
    have HX := Lib.hid hx
    have HS := Lib.hid hs
    clear hx hs
    by_cases hlt : i < 32
    · have i1 : (i : Int) < 32 := by omega
      have hx2 : x / 2 < 2 ^ (32 - (i + 1)) := by
        have h := HX.out
        rw [show 32 - i = 32 - (i + 1) + 1 by omega, Nat.pow_succ] at h
        omega
      have HX2 := Lib.hid hx2
      clear hx2
      by_cases hc : x % 2 = 1 ∧ y % 2 = 0
      · have hv := subB_bad hc.1 hc.2
        have HV := Lib.hid (HS.out.symm.trans hv)
        obtain ⟨h1, h2⟩ := hc
        have h3 : (x : Int) % 2 = 1 := by omega
        have h4 : (y : Int) % 2 = 0 := by omega
        clear hv
        go_wp2
        go_ret
        exact ⟨by rw [HV.out]; rfl, rfl⟩
      · have hv := subB_step hc
        have HV := Lib.hid (hv.trans HS.out)
        have hy2 : y / 2 < 4294967296 := by omega
        have hx4 : x < 4294967296 := Nat.lt_of_lt_of_le HX.out (show 2 ^ (32 - i) ≤ 2 ^ 32 from Nat.pow_le_pow_right (by omega) (by omega))
        clear hv hlt
        by_cases hx1 : x % 2 = 1
        · have h3 : (x : Int) % 2 = 1 := by omega
          have h4 : (y : Int) % 2 = 1 := by omega
          clear hc
          go_wp2_with fail
          go_roundw
          case rel => exact ⟨i + 1, x / 2, y / 2, by omega, by first | rfl | (simp; omega), by first | rfl | (simp; omega), rfl, HX2.out, hy2, HV.out, by first | rfl | trivial⟩
          case measure => simp [intOf]; omega
        · have h3 : (x : Int) % 2 = 0 := by omega
          clear hc
          go_wp2_with fail
          go_roundw
          case rel => exact ⟨i + 1, x / 2, y / 2, by omega, by first | rfl | (simp; omega), by first | rfl | (simp; omega), rfl, HX2.out, hy2, HV.out, by first | rfl | trivial⟩
          case measure => simp [intOf]; omega
    · obtain rfl : i = 32 := by omega
      have hx0 : x = 0 := by have := HX.out; omega
      subst hx0
      have hv := HS.out
      rw [subB_zero] at hv
      have HV := Lib.hid hv
      clear hv
      go_wp2
      go_ret
      exact ⟨by rw [← HV.out]; rfl, rfl⟩
theorem common12_calls (a b : Nat) (ha : a < 4294967296) (hb : b < 4294967296) (w : World) : Calls Try.prog 16 #[.int .u32 (a : Int), .int .u32 (b : Int)] w fun e w' => e = .returned (.bool (comB a b)) ∧ w' = w := by
  go_enter Try.func16, Try.ntmps16
  go_wp2_with fail
  go_loopw [0, 1, 5] (fun s t u W => ∃ i x y : Nat, i ≤ 32 ∧ s = .int .u32 (x : Int) ∧ t = .int .u32 (y : Int) ∧ u = .int .i64 (i : Int) ∧ x < 2 ^ (32 - i) ∧ y < 4294967296 ∧ comB x y = comB a b ∧ W = w) (fun s t u W => 32 - (intOf u).toNat)
  case atStart => exact ⟨0, a, b, by omega, rfl, rfl, rfl, ha, hb, rfl, by first | rfl | trivial⟩
  case round =>
    obtain ⟨i, x, y, hi, rfl, rfl, rfl, hx, hy, hs, rfl⟩ := hrel
    have HX := Lib.hid hx
    have HS := Lib.hid hs
    clear hx hs
    by_cases hlt : i < 32
    · have i1 : (i : Int) < 32 := by omega
      have hx2 : x / 2 < 2 ^ (32 - (i + 1)) := by
        have h := HX.out
        rw [show 32 - i = 32 - (i + 1) + 1 by omega, Nat.pow_succ] at h
        omega
      have HX2 := Lib.hid hx2
      clear hx2
      by_cases hc : x % 2 = 1 ∧ y % 2 = 1
      · have hv := comB_good hc.1 hc.2
        have HV := Lib.hid (HS.out.symm.trans hv)
        obtain ⟨h1, h2⟩ := hc
        have h3 : (x : Int) % 2 = 1 := by omega
        have h4 : (y : Int) % 2 = 1 := by omega
        clear hv
        go_wp2
        go_ret
        exact ⟨by rw [HV.out]; rfl, rfl⟩
      · have hv := comB_step hc
        have HV := Lib.hid (hv.trans HS.out)
        have hy2 : y / 2 < 4294967296 := by omega
        have hx4 : x < 4294967296 := Nat.lt_of_lt_of_le HX.out (show 2 ^ (32 - i) ≤ 2 ^ 32 from Nat.pow_le_pow_right (by omega) (by omega))
        clear hv hlt
        by_cases hx1 : x % 2 = 1
        · have h3 : (x : Int) % 2 = 1 := by omega
          have h4 : (y : Int) % 2 = 0 := by omega
          clear hc
          go_wp2_with fail
          go_roundw
          case rel => exact ⟨i + 1, x / 2, y / 2, by omega, by first | rfl | (simp; omega), by first | rfl | (simp; omega), rfl, HX2.out, hy2, HV.out, by first | rfl | trivial⟩
          case measure => simp [intOf]; omega
        · have h3 : (x : Int) % 2 = 0 := by omega
          clear hc
          go_wp2_with fail
          go_roundw
          case rel => exact ⟨i + 1, x / 2, y / 2, by omega, by first | rfl | (simp; omega), by first | rfl | (simp; omega), rfl, HX2.out, hy2, HV.out, by first | rfl | trivial⟩
          case measure => simp [intOf]; omega
    · obtain rfl : i = 32 := by omega
      have hx0 : x = 0 := by have := HX.out; omega
      subst hx0
      have hv := HS.out
      rw [comB_zero] at hv
      have HV := Lib.hid hv
      clear hv
      go_wp2
      go_ret
      exact ⟨by rw [← HV.out]; rfl, rfl⟩
end Go.Proofs.Ytgfahcdhbpaofaa
