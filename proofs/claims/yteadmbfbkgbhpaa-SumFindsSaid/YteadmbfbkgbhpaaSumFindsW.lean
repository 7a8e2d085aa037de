/-
  The walk of the statement SumFinds: for any bytes, any place and any change it answers true, and nothing that was there has turned. No condition.
-/
import Derived.Test.YteadmbfbkgbhpaaSumAlive
import Derived.Laws.BitsAllLaws
namespace Go.Proofs.Yteadmbfbkgbhpaa
open Go.RowKit

theorem finds_long (a : Option Addr) (n c : Nat) (i x : Int) (w : World) (hn : 4096 < n) (hm : n ≤ maxLen) :
    Calls Try.prog 5 #[.slice a n c, .int .i64 i, .int .u8 x] w fun e w' => e = .returned (.bool true) ∧ Below w.heap.size w w' := by
  unfold maxLen at hm
  go_enter Try.func5, Try.ntmps5
  go_wp2_with fail
  ((with_reducible refine (alive_calls w).mono ?_))
  rintro e w1 ⟨rfl, b1⟩
  go_wp2
  go_ret
  exact ⟨rfl, b1⟩

theorem finds_short (a : Option Addr) (n c : Nat) (i x : Int) (w : World) (hn : n < 2) :
    Calls Try.prog 5 #[.slice a n c, .int .i64 i, .int .u8 x] w fun e w' => e = .returned (.bool true) ∧ Below w.heap.size w w' := by
  go_enter Try.func5, Try.ntmps5
  go_wp2_with fail
  ((with_reducible refine (alive_calls w).mono ?_))
  rintro e w1 ⟨rfl, b1⟩
  have B1 := Lib.hid b1
  clear b1
  go_wp2_with fail
  ((with_reducible refine (seal_no a n c 0 w1 (by omega) (by omega) (by omega)).mono ?_))
  rintro e w2 ⟨rfl, rfl⟩
  go_wp2
  go_ret
  refine ⟨?_, B1.out⟩
  show Ending.returned (.bool (decide ((n : Int) < 2))) = _
  rw [decide_eq_true (by omega)]

/-- A byte changed by another that is not nought is another one. -/
theorem xor_other (y x : UInt8) (h : x ≠ 0) : y ^^^ x ≠ y := by
  intro e
  apply h
  have h2 : y ^^^ (y ^^^ x) = y ^^^ y := by rw [e]
  rwa [← UInt8.xor_assoc, UInt8.xor_self, UInt8.zero_xor] at h2

set_option maxHeartbeats 400000 in
theorem finds_ok (a : Option Addr) (n c : Nat) (l : List UInt8) (i : Int) (x : UInt8) (w : World) (h : Bts w w.heap.size a n l) (hn : n ≤ 4096) (h2 : 2 ≤ n) (hc : n ≤ c) (hcm : c ≤ maxLen) (hi : -9223372036854775808 ≤ i ∧ i < 9223372036854775808) :
    Calls Try.prog 5 #[.slice a n c, .int .i64 i, .int .u8 (x.toNat : Int)] w fun e w' => e = .returned (.bool true) ∧ Below w.heap.size w w' := by
  have HB := Lib.hid h
  have HC := Lib.hid hcm
  have HR := Lib.hid (show ofL (sealL l 0) = 0 from sealed_right l 0 rfl (by have := h.1; omega))
  have hsl : (sealL l 0).length = n := by rw [sealL_length l 0 (by have := h.1; omega)]; exact h.1
  obtain ⟨s, hs⟩ : ∃ s, s = sealL l 0 := ⟨_, rfl⟩
  rw [← hs] at HR hsl
  have HS := Lib.hid hs
  have HSL := Lib.hid hsl
  clear h hcm hs hsl
  go_enter Try.func5, Try.ntmps5
  go_wp2_with fail
  ((with_reducible refine (alive_calls w).mono ?_))
  rintro e w1 ⟨rfl, b1⟩
  have B1 := Lib.hid b1
  have HB1 := Lib.hid ((HB.out.below b1).more b1.size)
  clear b1
  go_wp2_with fail
  ((with_reducible refine (seal_ok a n c l 0 w1 HB1.out (by omega) hc HC.out (by omega) (by omega) (by omega)).mono ?_))
  rintro e w2 ⟨A2, c2, rfl, h2', b2⟩
  have h2s : Acc w2 w1.heap.size A2 c2 s := by rw [HS.out]; exact h2'
  have hc2 : n ≤ c2 := by rw [← HSL.out]; exact h2s.cap
  have HA2 := Lib.hid h2s
  have B2 := Lib.hid (bel_more B1.out (Nat.le_refl _) b2)
  clear h2' h2s b2
  by_cases hin : 0 ≤ i ∧ i < n
  · by_cases hx : x = 0
    · subst hx
      go_wp2
      go_ret
      exact ⟨rfl, B2.out⟩
    · have hx' : (((x.toNat : Nat) : Int) == 0) = false := by
        have : x.toNat ≠ 0 := fun e => hx (UInt8.toNat_inj.1 e)
        simp; omega
      obtain ⟨k, rfl⟩ := Int.eq_ofNat_of_zero_le hin.1
      obtain ⟨g, rfl, hg⟩ := HA2.out.some (by have := HSL.out; omega)
      have hk : k < s.length := by have := HSL.out; omega
      have k1 := HA2.out.cell k hk
      have f1 := HA2.out.free k
      have st := HA2.out.set_ k (s[k] ^^^ x)
      have hxor : (((s[k] ^^^ x).toNat : Nat) : Int) = bits .xor .u8 (s[k].toNat : Int) (x.toNat : Int) := by
        rw [u8_xor_nat _ _ s[k].toNat_lt x.toNat_lt, UInt8.toNat_xor]
      have HF := Lib.hid (show decide (ofL (s.set k (s[k] ^^^ x)) = 0) = false from decide_eq_false (finds s k hk _ (xor_other _ _ hx) HR.out))
      rw [hxor] at st
      have B3 := Lib.hid (bel_upd B2.out st.2 (Nat.le_refl _) (Nat.le_trans B1.out.size hg))
      have T3 : Bts (w2.setCell ⟨g, k, none⟩ (.int .u8 (bits .xor .u8 (s[k].toNat : Int) (x.toNat : Int)))) (w2.setCell ⟨g, k, none⟩ (.int .u8 (bits .xor .u8 (s[k].toNat : Int) (x.toNat : Int)))).heap.size (some ⟨g, 0, none⟩) n (s.set k (s[k] ^^^ x)) := by
        have := st.1.bts
        rw [List.length_set, HSL.out] at this
        exact this
      have HT3 := Lib.hid T3
      clear hxor st T3 hg
      unfold bv at k1
      generalize hz : s.set k (s[k] ^^^ x) = z at *
      have HZ := Lib.hid hz
      clear hz
      generalize s[k].toNat = y at *
      generalize x.toNat = x' at *
      go_wp2_with fail
      ((with_reducible refine (right_calls _ n c2 z _ HT3.out (by omega) hc2).mono ?_))
      rintro e w4 ⟨rfl, b4⟩
      rw [HF.out]
      have B4 := Lib.hid (bel_more B3.out (Nat.le_refl _) b4)
      clear b4
      go_wp2
      go_ret
      exact ⟨rfl, B4.out⟩
  · by_cases hneg : i < 0
    · clear hin
      go_wp2
      go_ret
      exact ⟨rfl, B2.out⟩
    · have hge : (n : Int) ≤ i := by omega
      clear hin
      go_wp2
      go_ret
      exact ⟨rfl, B2.out⟩

theorem finds_walk (a : Option Addr) (n c : Nat) (i x : Int) (w : World) (h : n ≤ maxLen ∧ ∃ l, Bts w w.heap.size a n l) (hc : n ≤ c ∧ c ≤ maxLen) (hi : -9223372036854775808 ≤ i ∧ i < 9223372036854775808) (hx : 0 ≤ x ∧ x < 256) :
    Calls Try.prog 5 #[.slice a n c, .int .i64 i, .int .u8 x] w fun e w' => e = .returned (.bool true) ∧ Below w.heap.size w w' := by
  obtain ⟨hm, l, hl⟩ := h
  by_cases hn : n ≤ 4096
  · by_cases h2 : 2 ≤ n
    · have := finds_ok a n c l i (UInt8.ofNat x.toNat) w hl hn h2 hc.1 hc.2 hi
      have e : ((UInt8.ofNat x.toNat).toNat : Int) = x := by rw [UInt8.toNat_ofNat']; omega
      rwa [e] at this
    · exact finds_short a n c i x w (by omega)
  · exact finds_long a n c i x w (by omega) hm
end Go.Proofs.Yteadmbfbkgbhpaa
