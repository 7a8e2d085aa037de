/-
  Contracts of package sum: Right, replace, Seal. Conditions: the bytes that come in read as a list of at most 2^46 bytes.
-/
import Derived.Test.YteadmbfbkgbhpaaSumB
namespace Go.Proofs.Yteadmbfbkgbhpaa
open Go.RowKit

def RightPost (w : World) (l : List UInt8) (e : Ending) (w' : World) : Prop := e = .returned (.bool (decide (ofL l = 0))) ∧ Below w.heap.size w w'

theorem right_calls (a : Option Addr) (n c : Nat) (l : List UInt8) (w : World) (h : Bts w w.heap.size a n l) (hlen : n ≤ 70368744177664) (hc : n ≤ c) :
    Calls Try.prog 14 #[.slice a n c] w (RightPost w l) := by
  have HB := Lib.hid h
  clear h
  go_enter Try.func14, Try.ntmps14
  go_wp2_with fail
  ((with_reducible refine (of_calls a n c l w HB.out hlen hc).mono ?_))
  rintro e w1 ⟨rfl, b1⟩
  have B1 := Lib.hid b1
  clear b1
  obtain ⟨x, hx⟩ : ∃ x, x = ofL l := ⟨_, rfl⟩
  rw [← hx]
  have HX := Lib.hid hx
  clear hx
  go_wp2
  go_ret
  refine ⟨?_, B1.out⟩
  rw [← HX.out]
  by_cases h0 : x = 0
  · subst h0; rfl
  · have : ((x : Int) == 0) = false := by simp; omega
    simp [h0]

def ReplacePost (w : World) (n : Nat) (m : List UInt8) (e : Ending) (w' : World) : Prop :=
  ∃ A c, e = .returned (.slice A n c) ∧ Acc w' w.heap.size A c m ∧ Below w.heap.size w w'

set_option maxHeartbeats 400000 in
theorem replace_calls (a : Option Addr) (n c : Nat) (l : List UInt8) (at_ v : Nat) (w : World) (h : Bts w w.heap.size a n l) (hlen : n ≤ 70368744177664) (hc : n ≤ c) (hcm : c ≤ maxLen) (hat : at_ + 2 ≤ n) (hv : v ≤ 65535) :
    Calls Try.prog 21 #[.slice a n c, .int .i64 (at_ : Int), .int .u16 (v : Int)] w (ReplacePost w n (lay l at_ v)) := by
  obtain ⟨b, o, rfl, _, _⟩ := h.2 (by omega)
  unfold maxLen at hcm
  have HB := Lib.hid h
  have HF := Lib.hid (h.front at_ (by omega))
  have HN := Lib.hid h.1
  clear h
  have HV := Lib.hid (show Int.toNat (v : Int) < 256 ^ Int.toNat 2 by have : 256 ^ Int.toNat 2 = 65536 := by decide
                                                                      rw [this]; omega)
  have hv2 : IntKind.u64.wrap (v : Int) = (v : Int) := by rw [IntKind.wrap_u64]; omega
  go_enter Try.func21, Try.ntmps21
  go_wp2_with fail
  ((with_reducible refine (put_i _ at_ _ (l.take at_) _ _ w HF.out (by omega) (by omega) (by omega) (by omega) HV.out).mono ?_))
  rintro e w1 ⟨rfl, h1, b1⟩
  obtain ⟨f, hf⟩ : ∃ f, f = l.take at_ ++ dig (Int.toNat 2) (Int.toNat (v : Int)) := ⟨_, rfl⟩
  have hfl : f.length = at_ + 2 := by rw [hf, List.length_append, dig_length, HF.out.1]; rfl
  have htl : (l.take at_).length = at_ := HF.out.1
  rw [← hf] at h1
  have HFF := Lib.hid hf
  have A1 := Lib.hid (h1.acc (Nat.le_refl _) (by omega))
  have B1 := Lib.hid b1
  rw [htl]
  clear hf h1 b1 htl
  have hlay : f ++ l.drop (at_ + 2) = lay l at_ v := by rw [HFF.out]; unfold lay; rw [List.append_assoc]; rfl
  have hsz : at_ + 2 + (n - (at_ + 2)) = n := by omega
  by_cases hcc : c = at_ + 2
  · obtain rfl : n = at_ + 2 := by omega
    subst hcc
    have hd : l.drop (at_ + 2) = [] := List.drop_of_length_le (by rw [HN.out]; omega)
    rw [hd, List.append_nil] at hlay
    have AC2 := A1
    rw [hfl, hlay] at AC2
    clear hd hfl hlay hsz A1
    go_wp2
    go_ret
    exact ⟨_, _, rfl, AC2.out, B1.out⟩
  · have hs1 : Bts w1 w.heap.size (some ⟨b, o + (at_ + 2), none⟩) (n - (at_ + 2)) (l.drop (at_ + 2)) := (HB.out.below B1.out).rest _ hat
    obtain ⟨A2, c2, w2, r2, ac2, g2, e2⟩ := acc_append A1.out (cc := c - (at_ + 2)) hs1 B1.out.size (by omega) 22
    rw [hfl, hsz] at r2
    rw [hlay] at ac2
    have R2 := Lib.hid r2
    have AC2 := Lib.hid ac2
    have B2 := Lib.hid (bel_acc B1.out A1.out g2)
    clear r2 ac2 g2 e2 hs1 hfl hlay hsz
    go_wp2_with (at_builtin; refine step_append rfl rfl rfl rfl R2.out ?_)
    go_ret
    exact ⟨A2, c2, rfl, AC2.out, B2.out⟩
/-- Bytes with their check sum at a place. -/
def sealL (l : List UInt8) (i : Nat) : List UInt8 := lay l i (ofL (lay l i 0))
theorem sealL_length (l : List UInt8) (i : Nat) (h : i + 2 ≤ l.length) : (sealL l i).length = l.length := lay_length l i _ h
theorem replace_i (a : Option Addr) (n c : Nat) (l : List UInt8) (i v : Int) (w : World) (h : Bts w w.heap.size a n l) (hlen : n ≤ 70368744177664) (hc : n ≤ c) (hcm : c ≤ maxLen) (hi : 0 ≤ i) (hat : i + 2 ≤ n) (hv0 : 0 ≤ v) (hv : v ≤ 65535) :
    Calls Try.prog 21 #[.slice a n c, .int .i64 i, .int .u16 v] w (ReplacePost w n (lay l i.toNat v.toNat)) := by
  have := replace_calls a n c l i.toNat v.toNat w h hlen hc hcm (by omega) (by omega)
  rwa [Int.toNat_of_nonneg hi, Int.toNat_of_nonneg hv0] at this

theorem seal_no (a : Option Addr) (n c : Nat) (i : Int) (w : World) (hlen : n ≤ 70368744177664) (hi : i < 9223372036854775808) (hbad : i < 0 ∨ i % 2 ≠ 0 ∨ (n : Int) - i < 2) :
    Calls Try.prog 15 #[.slice a n c, .int .i64 i] w fun e w' => e = .returned (.tuple #[.slice none 0 0, .int .i64 2]) ∧ w = w' := by
  by_cases h1 : i < 0
  · clear hbad
    go_enter Try.func15, Try.ntmps15
    go_wp2
    go_ret2
    exact ⟨rfl, rfl⟩
  · by_cases h2 : i % 2 = 0
    · have h3 : (n : Int) - i < 2 := by omega
      have hm : (i % 2 != 0) = false := by simpa using h2
      clear hbad
      go_enter Try.func15, Try.ntmps15
      go_wp2
      go_ret2
      exact ⟨rfl, rfl⟩
    · have hm : (i % 2 != 0) = true := by simpa using h2
      clear hbad
      go_enter Try.func15, Try.ntmps15
      go_wp2
      go_ret2
      exact ⟨rfl, rfl⟩

def SealPost (w : World) (n : Nat) (m : List UInt8) (e : Ending) (w' : World) : Prop :=
  ∃ A c, e = .returned (.tuple #[.slice A n c, .int .i64 0]) ∧ Acc w' w.heap.size A c m ∧ Below w.heap.size w w'

set_option maxHeartbeats 400000 in
theorem seal_ok (a : Option Addr) (n c : Nat) (l : List UInt8) (i : Int) (w : World) (h : Bts w w.heap.size a n l) (hlen : n ≤ 70368744177664) (hc : n ≤ c) (hcm : c ≤ maxLen) (hi : 0 ≤ i) (he : i % 2 = 0) (hat : i + 2 ≤ n) :
    Calls Try.prog 15 #[.slice a n c, .int .i64 i] w (SealPost w n (sealL l i.toNat)) := by
  have hm : (i % 2 != 0) = false := by simpa using he
  have HB := Lib.hid h
  have HN := Lib.hid h.1
  have HC := Lib.hid hcm
  have HL0 := Lib.hid (lay_length l i.toNat 0 (by have := h.1; omega))
  clear h he hcm
  go_enter Try.func15, Try.ntmps15
  go_wp2_with fail
  ((with_reducible refine (replace_i a n c l i 0 w HB.out hlen hc HC.out hi hat (by omega) (by omega)).mono ?_))
  rintro e w1 ⟨A1, c1, rfl, h1, b1⟩
  obtain ⟨m, hm0⟩ : ∃ m, m = lay l i.toNat 0 := ⟨_, rfl⟩
  have h1' : Acc w1 w.heap.size A1 c1 m := by rw [hm0]; exact h1
  have hml : m.length = n := by rw [hm0, HL0.out, HN.out]
  have HM := Lib.hid hm0
  have hc1 : n ≤ c1 := by rw [← hml]; exact h1'.cap
  have H1 := Lib.hid h1'.bts
  rw [hml] at H1
  have B1 := Lib.hid b1
  clear h1 h1' b1 hm0 hml
  go_wp2_with fail
  ((with_reducible refine (of_calls A1 n c1 m w1 H1.out hlen hc1).mono ?_))
  rintro e w2 ⟨rfl, b2⟩
  have B2 := Lib.hid (bel_more B1.out (Nat.le_refl _) b2)
  have hv := ofL_le m
  obtain ⟨v, hv0⟩ : ∃ v, v = ofL m := ⟨_, rfl⟩
  rw [← hv0] at hv ⊢
  have HV := Lib.hid hv0
  clear hv0 b2
  go_wp2_with fail
  ((with_reducible refine (replace_i a n c l i (v : Int) w2 ((HB.out.below B2.out).more B2.out.size) hlen hc HC.out hi hat (by omega) (by omega)).mono ?_))
  rintro e w3 ⟨A3, c3, rfl, h3, b3⟩
  have H3 := Lib.hid h3
  have B3 := Lib.hid b3
  clear h3 b3
  go_wp2
  go_ret2
  refine ⟨A3, c3, rfl, ?_, bel_more B2.out (Nat.le_refl _) B3.out⟩
  have e1 : lay l i.toNat (Int.toNat (v : Int)) = sealL l i.toNat := by unfold sealL; rw [← HM.out, ← HV.out]; rfl
  rw [← e1]
  exact H3.out.lower B2.out.size
end Go.Proofs.Yteadmbfbkgbhpaa
