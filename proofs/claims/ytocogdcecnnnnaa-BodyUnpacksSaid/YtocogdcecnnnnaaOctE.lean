/-
  Contracts of package octet: Put. Conditions: the bytes that come in read as a list, and what is made has at most 2^47 bytes.
-/
import Derived.Test.YtocogdcecnnnnaaOctD
namespace Go.Proofs.Ytocogdcecnnnnaa
open Go.RowKit

/-- The bytes of a number, of which there are 'n', the first one the most. -/
def dig : Nat → Nat → List UInt8
  | 0, _ => []
  | k + 1, u => UInt8.ofNat (u / 256 ^ k) :: dig k u
theorem dig_length (n u : Nat) : (dig n u).length = n := by
  induction n with
  | zero => rfl
  | succ k ih => simp [dig, ih]

theorem Own.set_ {w : World} {g : Nat} {l : List UInt8} (h : Own w g l) (i : Nat) (x : UInt8) : Own (w.setCell ⟨g, i, none⟩ (.int .u8 (x.toNat : Int))) g (l.set i x) := by
  unfold Own at *
  simp [World.setCell, Array.getElem?_modify, h, List.map_set, bv]

/-- The bytes while the last 'k' of 'n' digits are there. -/
def part (l : List UInt8) (n k u : Nat) : List UInt8 := l ++ (List.replicate (n - k) 0 ++ dig k u)
theorem part_length (l : List UInt8) (n k u : Nat) (h : k ≤ n) : (part l n k u).length = l.length + n := by
  simp [part, dig_length]; omega
theorem part_next (l : List UInt8) (n k u : Nat) (h : k < n) : (part l n k u).set (l.length + n - 1 - k) (UInt8.ofNat (u / 256 ^ k)) = part l n (k + 1) u := by
  unfold part
  rw [List.set_append_right _ _ (by omega)]
  congr 1
  have e : n - k = (n - (k + 1)) + 1 := by omega
  rw [e, List.replicate_succ', List.append_assoc, List.set_append_right _ _ (by simp; omega)]
  have e2 : l.length + n - 1 - k - l.length - (List.replicate (n - (k + 1)) (0 : UInt8)).length = 0 := by simp; omega
  rw [e2]
  simp [dig]
theorem part_zero (l : List UInt8) (n u : Nat) : part l n 0 u = l ++ List.replicate n 0 := by simp [part, dig]
theorem part_all (l : List UInt8) (n u : Nat) : part l n n u = l ++ dig n u := by simp [part]

theorem put_arg (a : Option Addr) (n : Nat) (c : Nat) (k : Int) (u : Int) (w : World) (hk : k < 1 ∨ 8 < k) :
    Calls Try.prog 68 #[.slice a n c, .int .i64 k, .int .u64 u] w fun e w' => e = .returned (.tuple #[.slice none 0 0, .int .i64 2]) ∧ w = w' := by
  have hw := wid_no hk
  clear hk
  go_enter Try.func68, Try.ntmps68
  go_wp2_with fail
  ((with_reducible refine (isWidth_calls k _).mono ?_))
  rw [hw]
  rintro e w1 ⟨rfl, rfl⟩
  go_wp2
  go_ret2
  exact ⟨rfl, rfl⟩

theorem pow_eight (k : Nat) : (2 : Int) ^ (8 * k) = ((256 ^ k : Nat) : Int) := by
  rw [Int.pow_mul, Int.natCast_pow]; rfl
theorem shr_big (u k : Nat) (h : 256 ^ k ≤ u) : ((u : Int) / 2 ^ (8 * k) != 0) = true := by
  rw [pow_eight, ← Int.natCast_ediv, bne_iff_ne]
  have := Nat.div_pos h (Nat.pow_pos (by omega))
  omega
theorem shr_fit (u k : Nat) (h : u < 256 ^ k) : ((u : Int) / 2 ^ (8 * k) != 0) = false := by
  rw [pow_eight, ← Int.natCast_ediv, Nat.div_eq_of_lt h]; rfl

theorem put_big (a : Option Addr) (n : Nat) (c : Nat) (k : Nat) (u : Nat) (w : World) (h1 : 1 ≤ k) (h8 : k ≤ 8) (hb : 256 ^ k ≤ u) :
    Calls Try.prog 68 #[.slice a n c, .int .i64 (k : Int), .int .u64 (u : Int)] w fun e w' => e = .returned (.tuple #[.slice none 0 0, .int .i64 3]) ∧ w = w' := by
  have hw : wid (k : Int) = true := wid_yes (by omega) (by omega)
  have hq := shr_big u k hb
  clear hb
  go_enter Try.func68, Try.ntmps68
  go_wp2_with fail
  ((with_reducible refine (isWidth_calls k _).mono ?_))
  rw [hw]
  rintro e w1 ⟨rfl, rfl⟩
  go_wp2
  go_ret2
  exact ⟨rfl, rfl⟩

def PutPost (w : World) (l : List UInt8) (k u : Nat) (e : Ending) (w' : World) : Prop :=
  e = .returned (.tuple #[.slice (some ⟨w.heap.size, 0, none⟩) (l.length + k) (l.length + k), .int .i64 0]) ∧ Own w' w.heap.size (l ++ dig k u) ∧ Below w.heap.size w w'

theorem low_byte (v : Nat) : ((v : Int) % 256) = ((UInt8.ofNat v).toNat : Int) := by
  rw [UInt8.toNat_ofNat']; omega
theorem div_next (u j : Nat) : u / 256 ^ j / 256 = u / 256 ^ (j + 1) := by
  rw [Nat.pow_succ, ← Nat.div_div_eq_div_mul]

set_option maxHeartbeats 400000 in
theorem put_ok (a : Option Addr) (n : Nat) (c : Nat) (l : List UInt8) (k : Nat) (u : Nat) (w : World) (h : Bts w w.heap.size a n l) (hlen : n + 8 ≤ 140737488355328) (h1 : 1 ≤ k) (h8 : k ≤ 8) (hb : u < 256 ^ k) :
    Calls Try.prog 68 #[.slice a n c, .int .i64 (k : Int), .int .u64 (u : Int)] w (PutPost w l k u) := by
  have hw : wid (k : Int) = true := wid_yes (by omega) (by omega)
  have hq := shr_fit u k hb
  clear hb
  have hn := h.1
  subst hn
  go_enter Try.func68, Try.ntmps68
  go_wp2_with fail
  ((with_reducible refine (isWidth_calls k _).mono ?_))
  rw [hw]
  rintro e w1 ⟨rfl, rfl⟩
  go_wp2_with fail
  ((with_reducible refine (extend_calls a _ c l k _ h (by omega)).mono ?_))
  rintro e w1 ⟨rfl, h1, b1⟩
  have H1 := Lib.hid h1
  have B1 := Lib.hid b1
  clear h1 b1 hq hw
  go_wp2_with fail
  go_loopw [2, 9] (fun v t W => ∃ j x : Nat, j ≤ k ∧ t = .int .i64 ((l.length : Int) + (k : Int) - 1 - (j : Int)) ∧ v = .int .u64 (x : Int) ∧ Hid (x = u / 256 ^ j) ∧ Own W w.heap.size (part l k j u) ∧ Below w.heap.size w W) (fun _ t _ => (intOf t + 1 - (l.length : Int)).toNat)
  case atStart =>
    refine ⟨0, u, Nat.zero_le _, ?_, rfl, ?_, ?_, B1.out⟩
    · simp
    · exact (by simp : u = u / 256 ^ 0)
    · rw [part_zero]; exact H1.out
  case round =>
    obtain ⟨j, x, hj, rfl, rfl, HX, hown, hbel⟩ := hrel
    by_cases hlt : j < k
    · have hpl := part_length l k j u hj
      obtain ⟨y, hcell⟩ : ∃ y : Int, wr.cell? ⟨w.heap.size, l.length + k - 1 - j, none⟩ = some (.int .u8 y) := ⟨_, hown.cell (l.length + k - 1 - j) (by omega)⟩
      have hfree := hown.frozen (l.length + k - 1 - j)
      have hown2 := hown.set_ (l.length + k - 1 - j) (UInt8.ofNat x)
      rw [HX.out, part_next l k j u hlt, ← HX.out, ← low_byte] at hown2
      have hbel2 := hbel.setCell (p := ⟨w.heap.size, l.length + k - 1 - j, none⟩) (Nat.le_refl _) (.int .u8 ((x : Int) % 256))
      have HO := Lib.hid hown2
      have HB := Lib.hid hbel2
      clear hown hbel hown2 hbel2 hpl
      go_wp2
      refine ⟨⟨j + 1, x / 256, by omega, ?_, by go_num, ?_, HO.out, HB.out⟩, ?_⟩
      · congr 1; omega
      · exact (by rw [HX.out, div_next] : x / 256 = u / 256 ^ (j + 1))
      · simp [intOf]; omega
    · have hjk : j = k := by omega
      subst hjk
      rw [part_all] at hown
      go_wp2
      go_ret2
      exact ⟨rfl, hown, hbel⟩
end Go.Proofs.Ytocogdcecnnnnaa
