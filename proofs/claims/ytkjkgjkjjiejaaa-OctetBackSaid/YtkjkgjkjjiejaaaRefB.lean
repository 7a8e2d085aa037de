/-
  Contracts of the document's own answers for layer 1: Put, Pad. Conditions: the bytes that come in read as a list of at most 2^40 bytes.
-/
import Derived.Test.YtkjkgjkjjiejaaaRefA
import Derived.Test.YtkjkgjkjjiejaaaOctB
namespace Go.Proofs.Ytkjkgjkjjiejaaa
open Go.RowKit

/-- The length of a slice value: for a loop's measure. -/
def lenOf : Value → Nat | .slice _ n _ => n | _ => 0

theorem num_dig_from (n u : Nat) : ∀ s, (dig n u).foldl (fun v x => v * 256 + x.toNat) s = s * 256 ^ n + u % 256 ^ n := by
  induction n with
  | zero => intro s; simp [dig, Nat.mod_one]
  | succ k ih =>
    intro s
    simp only [dig, List.foldl_cons, ih, UInt8.toNat_ofNat']
    have h1 : u % 256 ^ (k + 1) = (u / 256 ^ k % 256) * 256 ^ k + u % 256 ^ k := by
      rw [Nat.pow_succ, Nat.mod_mul, Nat.mul_comm, Nat.add_comm]
    rw [h1, Nat.pow_succ, Nat.add_mul, Nat.mul_assoc, Nat.mul_comm 256, Nat.add_assoc]
    rfl
theorem num_dig (n u : Nat) : num (dig n u) = u % 256 ^ n := by
  have := num_dig_from n u 0
  simpa [num] using this

theorem refput_arg (a : Option Addr) (n : Nat) (c : Nat) (k : Int) (u : Int) (w : World) (hk : k < 1 ∨ 8 < k) :
    Calls Try.prog 19 #[.slice a n c, .int .i64 k, .int .u64 u] w fun e w' => e = .returned (.tuple #[.slice none 0 0, .int .i64 2]) ∧ w = w' := by
  rcases hk with hk | hk
  · go_enter Try.func19, Try.ntmps19
    go_wp2
    go_ret2
    exact ⟨rfl, rfl⟩
  · have h1 : ¬ k < 1 := by omega
    go_enter Try.func19, Try.ntmps19
    go_wp2
    go_ret2
    exact ⟨rfl, rfl⟩

theorem refput_big (a : Option Addr) (n : Nat) (c : Nat) (k : Nat) (u : Nat) (w : World) (h1 : 1 ≤ k) (h8 : k ≤ 8) (hu : u < 18446744073709551616) (hb : 256 ^ k ≤ u) :
    Calls Try.prog 19 #[.slice a n c, .int .i64 (k : Int), .int .u64 (u : Int)] w fun e w' => e = .returned (.tuple #[.slice none 0 0, .int .i64 3]) ∧ Below w.heap.size w w' := by
  have hne : (((u % 256 ^ k : Nat) : Int) != (u : Int)) = true := by
    rw [bne_iff_ne]
    have := Nat.mod_lt u (Nat.pow_pos (n := k) (by omega : 0 < 256))
    omega
  have HU := Lib.hid hu
  clear hb hu
  go_enter Try.func19, Try.ntmps19
  go_wp2_with fail
  ((with_reducible refine (digits_calls k u w h8 HU.out).mono ?_))
  rintro e w1 ⟨A, c1, rfl, ha, b1⟩
  have HA := Lib.hid ha.bts
  rw [dig_length] at HA
  clear ha
  go_wp2_with fail
  ((with_reducible refine (number_calls A k c1 _ w1 _ HA.out h8).mono ?_))
  rw [num_dig]
  rintro e w2 ⟨rfl, rfl⟩
  generalize u % 256 ^ k = r at *
  go_wp2
  go_ret2
  exact ⟨rfl, b1⟩

def RefPutPost (w : World) (l : List UInt8) (k u : Nat) (e : Ending) (w' : World) : Prop :=
  ∃ A c, e = .returned (.tuple #[.slice A (l.length + k) c, .int .i64 0]) ∧ Acc w' w.heap.size A c (l ++ dig k u) ∧ Below w.heap.size w w'

set_option maxHeartbeats 400000 in
theorem refput_ok (a : Option Addr) (n : Nat) (c : Nat) (l : List UInt8) (k : Nat) (u : Nat) (w : World) (h : Bts w w.heap.size a n l) (hlen : n ≤ 1099511627776) (h1 : 1 ≤ k) (h8 : k ≤ 8) (hu : u < 18446744073709551616) (hb : u < 256 ^ k) :
    Calls Try.prog 19 #[.slice a n c, .int .i64 (k : Int), .int .u64 (u : Int)] w (RefPutPost w l k u) := by
  have hmod : u % 256 ^ k = u := Nat.mod_eq_of_lt hb
  have HU := Lib.hid hu
  have HM := Lib.hid hmod
  have HB := Lib.hid h
  have hn := h.1
  subst hn
  clear hb hu hmod h
  go_enter Try.func19, Try.ntmps19
  go_wp2_with fail
  ((with_reducible refine (digits_calls k u w h8 HU.out).mono ?_))
  rintro e w1 ⟨A, c1, rfl, ha, b1⟩
  have HA := Lib.hid ha.bts
  rw [dig_length] at HA
  have B1 := Lib.hid b1
  clear ha b1
  go_wp2_with fail
  ((with_reducible refine (number_calls A k c1 _ w1 _ HA.out h8).mono ?_))
  rw [num_dig, HM.out]
  rintro e w2 ⟨rfl, rfl⟩
  have ac0 : Acc (w1.alloc (.cells #[] 5)) w.heap.size (some ⟨w1.heap.size, 0, none⟩) 0 [] := ⟨rfl, .inr ⟨w1.heap.size, 0, #[], rfl, B1.out.size, heap_alloc_new w1 _, Nat.le_refl _, Nat.zero_le _, rfl, rfl⟩⟩
  have hs1 : w.heap.size ≤ (w1.alloc (.cells #[] 5)).heap.size := by simp; have := B1.out.size; omega
  have b1' : Below w.heap.size w (w1.alloc (.cells #[] 5)) := B1.out.alloc B1.out.size _
  obtain ⟨A2, c2, w2, r2, ac2, g2, e2⟩ := acc_append ac0 (cc := c) (HB.out.below b1') hs1 (by simp; omega) 22
  have b2 := bel_acc b1' ac0 g2
  have hsrc : Bts w2 w1.heap.size A k (dig k u) := HA.out.keep fun b hb => (g2.block b (by simp; omega) (by simp [blk]; omega)).trans (Below.heap_alloc _ _ _ hb)
  obtain ⟨A3, c3, w3, r3, ac3, g3, e3⟩ := acc_append ac2 (cc := c1) hsrc b2.size (by simp; omega) 22
  have R2 := Lib.hid r2
  have R3 := Lib.hid r3
  have AC := Lib.hid ac3
  have BB := Lib.hid (bel_acc b2 ac2 g3)
  clear ac0 hs1 b1' r2 ac2 g2 e2 b2 hsrc r3 ac3 g3 e3
  simp only [List.nil_append, List.length_nil, Nat.zero_add] at R2 R3 AC
  go_wp2_with (at_builtin; first | refine step_append (o := ⟨some 24, _, _, _, _, _⟩) rfl rfl rfl rfl R2.out ?_ | refine step_append (o := ⟨some 26, _, _, _, _, _⟩) rfl rfl rfl rfl R3.out ?_)
  go_ret2
  exact ⟨A3, c3, rfl, AC.out, BB.out⟩

def RefPadPost (w : World) (l : List UInt8) (e : Ending) (w' : World) : Prop :=
  ∃ A c, e = .returned (.slice A (padL l).length c) ∧ Acc w' w.heap.size A c (padL l) ∧ Below w.heap.size w w'

set_option maxHeartbeats 400000 in
theorem refpad_calls (a : Option Addr) (n : Nat) (c : Nat) (l : List UInt8) (w : World) (h : Bts w w.heap.size a n l) (hlen : n ≤ 1099511627776) :
    Calls Try.prog 21 #[.slice a n c] w (RefPadPost w l) := by
  have hn := h.1
  subst hn
  have ac0 : Acc (w.alloc (.cells #[] 5)) w.heap.size (some ⟨w.heap.size, 0, none⟩) 0 [] := ⟨rfl, .inr ⟨w.heap.size, 0, #[], rfl, Nat.le_refl _, heap_alloc_new w _, Nat.le_refl _, Nat.zero_le _, rfl, rfl⟩⟩
  have b1 : Below w.heap.size w (w.alloc (.cells #[] 5)) := (Below.refl _ _).alloc (Nat.le_refl _) _
  obtain ⟨A2, c2, w2, r2, ac2, g2, e2⟩ := acc_append ac0 (cc := c) (h.below b1) b1.size (by simp; omega) 22
  have b2 := bel_acc b1 ac0 g2
  have R2 := Lib.hid r2
  have AC := Lib.hid ac2
  have BB := Lib.hid b2
  clear ac0 b1 r2 ac2 g2 e2 b2 h
  simp only [List.nil_append, List.length_nil, Nat.zero_add] at R2 AC
  go_enter Try.func21, Try.ntmps21
  go_wp2_with (at_builtin; refine step_append rfl rfl rfl rfl R2.out ?_)
  go_loopw [3] (fun s W => ∃ k c3 : Nat, ∃ A3 : Option Addr, k ≤ gap l.length ∧ s = .slice A3 (l.length + k) c3 ∧ Acc W w.heap.size A3 c3 (l ++ List.replicate k 0) ∧ Below w.heap.size w W) (fun s _ => l.length + 4 - lenOf s)
  case atStart => exact ⟨0, c2, A2, Nat.zero_le _, rfl, by simpa using AC.out, BB.out⟩
  case round =>
    obtain ⟨k, c3, A3, hk, rfl, hacc, hbel⟩ := hrel
    have hlk : (l ++ List.replicate k (0 : UInt8)).length = l.length + k := by simp
    have hg4 := gap_lt l.length
    by_cases hlt : k < gap l.length
    · have hm : (((l.length + k : Nat) : Int) % 4 != 0) = true := by rw [bne_iff_ne]; unfold gap at hlt; omega
      obtain ⟨A', c', W', happ, hacc', hg⟩ := acc_push hacc 0 hbel.size (by rw [hlk]; omega) 22
      rw [hlk] at happ
      have HA2 := Lib.hid (show Acc W' w.heap.size A' c' (l ++ List.replicate (k + 1) 0) by rw [List.replicate_succ', ← List.append_assoc]; exact hacc')
      have HB2 := Lib.hid (bel_acc hbel hacc hg)
      have HR := Lib.hid happ
      have HK := Lib.hid hk
      clear hacc hacc' hbel hg happ hlk
      generalize hN : l.length + k = N at *
      have HN := Lib.hid hN
      clear hN
      go_wp2_with (at_builtin; refine step_append rfl rfl rfl rfl HR.out ?_)
      refine ⟨⟨k + 1, c', A', by omega, ?_, HA2.out, HB2.out⟩, ?_⟩
      · rw [← HN.out, Nat.add_assoc]
      · have := HN.out; simp [lenOf]; omega
    · have hm : (((l.length + k : Nat) : Int) % 4 != 0) = false := by rw [bne_eq_false_iff_eq]; unfold gap at *; omega
      have hkg : k = gap l.length := by omega
      have HF := Lib.hid (show Acc wr w.heap.size A3 c3 (padL l) by unfold padL; rw [← hkg]; exact hacc)
      have HB2 := Lib.hid hbel
      have HL := Lib.hid (show l.length + k = (padL l).length by rw [padL_length, hkg])
      clear hacc hbel hlk hkg
      generalize hN : l.length + k = N at *
      have HN := Lib.hid hN
      clear hN
      go_wp2
      go_ret
      exact ⟨A3, c3, by rw [HL.out]; rfl, HF.out, HB2.out⟩
end Go.Proofs.Ytkjkgjkjjiejaaa
