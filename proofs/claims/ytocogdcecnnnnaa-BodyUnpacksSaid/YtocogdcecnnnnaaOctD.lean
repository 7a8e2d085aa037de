/-
  Contracts of package octet: the reader's method Uint. Conditions: the reader is one that New made.
-/
import Derived.Test.YtocogdcecnnnnaaOctC
namespace Go.Proofs.Ytocogdcecnnnnaa
open Go.RowKit

/-- The number that bytes tell, the first one the most. -/
def num (l : List UInt8) : Nat := l.foldl (fun u x => u * 256 + x.toNat) 0
theorem num_nil : num [] = 0 := rfl
theorem num_snoc (l : List UInt8) (x : UInt8) : num (l ++ [x]) = num l * 256 + x.toNat := by simp [num]
theorem num_lt_from (l : List UInt8) : ∀ u : Nat, l.foldl (fun u x => u * 256 + x.toNat) u < (u + 1) * 256 ^ l.length := by
  induction l with
  | nil => intro u; simp
  | cons x l ih =>
    intro u
    have h := ih (u * 256 + x.toNat)
    have hx : x.toNat < 256 := x.toNat_lt
    have h2 : (u * 256 + x.toNat + 1) * 256 ^ l.length ≤ ((u + 1) * 256) * 256 ^ l.length := Nat.mul_le_mul_right _ (by omega)
    rw [List.foldl_cons, List.length_cons, Nat.pow_succ, Nat.mul_comm (256 ^ l.length), ← Nat.mul_assoc]
    omega
theorem num_lt (l : List UInt8) : num l < 256 ^ l.length := by simpa [num] using num_lt_from l 0
theorem take_snoc (l : List UInt8) (k : Nat) (h : k < l.length) : l.take (k + 1) = l.take k ++ [l[k]] := List.take_succ_eq_append_getElem h

/-- A number moved up by a byte, and the byte. -/
theorem or_byte (a x : Nat) (ha : a < 72057594037927936) (hx : x < 256) : bits .or .u64 (IntKind.u64.wrap ((a : Int) * 256)) (IntKind.u64.wrap (x : Int)) = ((a * 256 + x : Nat) : Int) := by
  have e1 : IntKind.u64.wrap ((a : Int) * 256) = ((a * 256 : Nat) : Int) := by rw [IntKind.wrap_u64]; omega
  have e2 : IntKind.u64.wrap (x : Int) = (x : Int) := by rw [IntKind.wrap_u64]; omega
  rw [e1, e2, u64_or_nat _ _ (by omega) (by omega)]
  have h := Nat.two_pow_add_eq_or_of_lt (i := 8) (b := x) (by omega) a
  rw [Nat.mul_comm a 256]
  exact congrArg _ h.symm

section
variable {w : World} {r g i : Nat} {l : List UInt8} {err : Int}

def UintPost (w : World) (r g : Nat) (l : List UInt8) (i n : Nat) (e : Ending) (w' : World) : Prop :=
  e = .returned (.int .u64 (num ((l.drop i).take n) : Nat)) ∧ Rdr w' r g l (i + n) 0 ∧ w.grownBy w' (some r)

theorem uint_no (h : Rdr w r g l i err) (n : Int) (hw : errOf err (wid n) n ((l.length : Int) - (i : Int)) ≠ 0) :
    Calls Try.prog 72 #[.pointer (some ⟨r, 0, none⟩), .int .i64 n] w (WrongPost w r g l i (errOf err (wid n) n ((l.length : Int) - (i : Int))) (.int .u64 0)) := by
  have H := Lib.hid h
  have HW := Lib.hid hw
  clear h hw
  go_enter Try.func72, Try.ntmps72
  go_wp2_with fail
  ((with_reducible refine (isWidth_calls n _).mono ?_))
  rintro e w1 ⟨rfl, rfl⟩
  go_wp2_with fail
  ((with_reducible refine (ready_no H.out _ _ HW.out).mono ?_))
  rintro e w1 ⟨rfl, h1, u1, s1⟩
  have H1 := Lib.hid h1
  clear h1 s1
  go_wp2
  go_ret
  exact ⟨rfl, H1.out, u1⟩

set_option maxHeartbeats 400000 in
theorem uint_ok (h : Rdr w r g l i 0) (n : Nat) (h1 : 1 ≤ n) (h8 : n ≤ 8) (hn : i + n ≤ l.length) :
    Calls Try.prog 72 #[.pointer (some ⟨r, 0, none⟩), .int .i64 (n : Int)] w (UintPost w r g l i n) := by
  have hl := h.2.2.2
  have H := Lib.hid h
  have hw : wid (n : Int) = true := wid_yes (by omega) (by omega)
  clear h
  go_enter Try.func72, Try.ntmps72
  go_wp2_with fail
  ((with_reducible refine (isWidth_calls n _).mono ?_))
  rw [hw]
  rintro e w1 ⟨rfl, rfl⟩
  go_wp2_with fail
  ((with_reducible refine (ready_yes H.out _ (by omega)).mono ?_))
  rintro e w1 ⟨rfl, h1, u1, s1⟩
  have H1 := Lib.hid h1
  have S1 := Lib.hid s1
  clear h1 s1
  go_wp2_with fail
  ((with_reducible refine (next_calls H1.out n hn).mono ?_))
  rintro e w2 ⟨a, c, rfl, hb, h2, u2, s2⟩
  have H2 := Lib.hid h2
  have S2 := Lib.hid s2
  have HB := Lib.hid hb
  clear h2 s2 hb
  go_wp2_with fail
  obtain ⟨m, hm⟩ : ∃ m, m = (l.drop i).take n := ⟨_, rfl⟩
  have HM := Lib.hid hm
  clear hm
  obtain ⟨b, o, rfl, _, hc⟩ := HB.out.2 (by omega)
  have hml : m.length = n := by rw [HM.out]; exact HB.out.1
  have HML := Lib.hid hml
  have HC : Hid (∀ (k : Nat) (h : k < m.length), w2.cell? ⟨b, o + k, none⟩ = some (bv m[k])) := by
    rw [HM.out]; exact hc
  clear hml hc HB
  go_loop [5, 18] (fun u k => ∃ j : Nat, j ≤ n ∧ k = .int .i64 (j : Int) ∧ u = .int .u64 ((num (m.take j) : Nat) : Int)) (fun _ k => n - (intOf k).toNat)
  case atStart => exact ⟨0, Nat.zero_le _, rfl, rfl⟩
  case round =>
    obtain ⟨j, hj, rfl, rfl⟩ := hrel
    by_cases hlt : j < n
    · have hjm : j < m.length := by rw [HML.out]; exact hlt
      have hcell := HC.out j hjm
      unfold bv at hcell
      have hnl := num_lt (m.take j)
      have hp : 256 ^ (m.take j).length ≤ 256 ^ 7 := Nat.pow_le_pow_right (by omega) (by simp; omega)
      have hst : num (m.take (j + 1)) = num (m.take j) * 256 + m[j].toNat := by rw [take_snoc m j hjm, num_snoc]
      have HX := Lib.hid ((or_byte (num (m.take j)) m[j].toNat (by omega) m[j].toNat_lt).trans (congrArg (fun z : Nat => (z : Int)) hst.symm))
      clear hnl hp hst
      go_wp2
      exact ⟨⟨j + 1, by omega, by go_num, congrArg (Value.int .u64) HX.out⟩, by simp [intOf]; omega⟩
    · have hjn : j = n := by omega
      subst hjn
      go_wp2
      go_ret
      refine ⟨?_, H2.out, upd_trans u1 u2⟩
      have e1 : m.take j = m := List.take_of_length_le (by rw [HML.out]; exact Nat.le_refl _)
      rw [e1, HM.out]; rfl
end
end Go.Proofs.Ytocogdcecnnnnaa
