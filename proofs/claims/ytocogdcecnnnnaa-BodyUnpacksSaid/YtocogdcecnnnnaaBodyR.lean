/-
  Contracts of the document's own shape, Node, Small, Nodes and May for layer 7. Condition: the item's list reads as numbers.
-/
import Derived.Test.YtocogdcecnnnnaaBodyP
namespace Go.Proofs.Ytocogdcecnnnnaa
open Go.RowKit

def ndB (n : Int) : Bool := decide (0 ≤ n) && decide (n < 16)
def smB (n : Int) : Bool := decide (0 ≤ n) && decide (n ≤ 65535)
def ndsB (l : List Int) : Bool := decide (l.length ≤ 16) && l.all ndB
theorem node7_calls (n : Int) (w : World) : Calls Try.prog 37 #[.int .i64 n] w fun e w' => e = .returned (.bool (ndB n)) ∧ w = w' := by
  by_cases h1 : 0 ≤ n
  · by_cases h2 : n < 16
    · have hw : ndB n = true := by simp [ndB, h1, h2]
      rw [hw]
      go_enter Try.func37, Try.ntmps37
      go_wp2
      go_ret
      exact ⟨rfl, rfl⟩
    · have hw : ndB n = false := by simp [ndB, h2]
      rw [hw]
      go_enter Try.func37, Try.ntmps37
      go_wp2
      go_ret
      exact ⟨rfl, rfl⟩
  · have hw : ndB n = false := by simp [ndB, h1]
    rw [hw]
    go_enter Try.func37, Try.ntmps37
    go_wp2
    go_ret
    exact ⟨rfl, rfl⟩
theorem small7_calls (n : Int) (w : World) : Calls Try.prog 38 #[.int .i64 n] w fun e w' => e = .returned (.bool (smB n)) ∧ w = w' := by
  by_cases h1 : 0 ≤ n
  · by_cases h2 : n ≤ 65535
    · have hw : smB n = true := by simp [smB, h1, h2]
      rw [hw]
      go_enter Try.func38, Try.ntmps38
      go_wp2
      go_ret
      exact ⟨rfl, rfl⟩
    · have hw : smB n = false := by simp [smB, h2]
      rw [hw]
      go_enter Try.func38, Try.ntmps38
      go_wp2
      go_ret
      exact ⟨rfl, rfl⟩
  · have hw : smB n = false := by simp [smB, h1]
    rw [hw]
    go_enter Try.func38, Try.ntmps38
    go_wp2
    go_ret
    exact ⟨rfl, rfl⟩
theorem nodes7_calls (a : Option Addr) (n c : Nat) (l : List Int) (B : Nat) (w : World) (h : Row ei w B a n l) (hn : n ≤ maxLen) : Calls Try.prog 39 #[.slice a n c] w fun e w' => e = .returned (.bool (ndsB l)) ∧ w = w' := by
  unfold maxLen at hn
  have HR := Lib.hid h
  have HL := Lib.hid h.1
  clear h
  by_cases hb : 16 < n
  · have hw : ndsB l = false := by have := HL.out; simp [ndsB]; omega
    rw [hw]
    go_enter Try.func39, Try.ntmps39
    go_wp2
    go_ret
    exact ⟨rfl, rfl⟩
  · go_enter Try.func39, Try.ntmps39
    go_wp2
    go_loopw [3] (fun t W => ∃ j : Nat, j ≤ n ∧ t = .int .i64 (j : Int) ∧ W = w ∧ Hid ((l.take j).all ndB = true)) (fun t _ => n - (intOf t).toNat)
    case atStart => exact ⟨0, Nat.zero_le _, rfl, rfl, by exact (rfl : (l.take 0).all ndB = true)⟩
    case round =>
      obtain ⟨j, hj, rfl, rfl, hT⟩ := hrel
      by_cases hlt : j < n
      · obtain ⟨b, o, x, rfl, hx, d0⟩ := row_int HR.out hlt
        have HX := Lib.hid hx
        clear hx
        have hc := node7_calls x
        cases hv : ndB x with
        | true =>
          rw [hv] at hc
          have HT := Lib.hid (show (l.take (j + 1)).all ndB = true by rw [List.take_add_one, HX.out, List.all_append, hT.out]; simp [hv])
          clear hT hv
          go_wp2_with fail
          ((with_reducible refine (hc _).mono ?_))
          rintro e w1 ⟨rfl, rfl⟩
          go_wp2
          exact ⟨⟨j + 1, by omega, by go_num, by first | rfl | trivial, HT⟩, by simp [intOf]; omega⟩
        | false =>
          rw [hv] at hc
          have HF := Lib.hid (show ndsB l = false by
            have hm : x ∈ l := List.mem_of_getElem? HX.out
            have : l.all ndB = false := by
              cases ha : l.all ndB with
              | false => rfl
              | true => rw [List.all_eq_true.1 ha x hm] at hv; cases hv
            simp [ndsB, this])
          clear hT hv
          go_wp2_with fail
          ((with_reducible refine (hc _).mono ?_))
          rintro e w1 ⟨rfl, rfl⟩
          go_wp2
          go_ret
          rw [HF.out]
          exact ⟨rfl, rfl⟩
      · have hjn : j = n := by omega
        subst hjn
        have HF := Lib.hid (show ndsB l = true by
          have h3 := hT.out
          rw [List.take_of_length_le (by rw [HL.out]; exact Nat.le_refl _)] at h3
          have h4 := HL.out
          simp only [ndsB, h3, Bool.and_true, decide_eq_true_eq]
          omega)
        clear hT
        go_wp2
        go_ret
        rw [HF.out]
        exact ⟨rfl, rfl⟩

/-- An item without the fields that its class names. -/
def shpI (x : It) : It :=
  if x.cl = 1 ∨ x.cl = 6 then ⟨0, 0, 0, 0, x.u, x.la, x.ln, x.lc, x.l, x.w⟩
  else if x.cl = 3 ∨ x.cl = 16 ∨ x.cl = 19 then ⟨0, 0, x.b, x.c, x.u, x.la, x.ln, x.lc, x.l, x.w⟩
  else if x.cl = 5 ∨ x.cl = 9 ∨ x.cl = 12 ∨ x.cl = 23 then ⟨0, x.a, x.b, x.c, 0, x.la, x.ln, x.lc, x.l, x.w⟩
  else if x.cl = 10 ∨ x.cl = 11 then ⟨0, 0, 0, x.c, x.u, x.la, x.ln, x.lc, x.l, x.w⟩
  else if x.cl = 20 ∨ x.cl = 21 then ⟨0, x.a, x.b, x.c, x.u, none, 0, 0, [], x.w⟩
  else if x.cl = 207 then ⟨0, x.a, x.b, x.c, x.u, x.la, x.ln, x.lc, x.l, Wnt.zero⟩
  else ⟨0, x.a, x.b, x.c, x.u, x.la, x.ln, x.lc, x.l, x.w⟩
def shpP (x : PIt) : PIt :=
  if x.cl = 1 ∨ x.cl = 6 then ⟨0, 0, 0, 0, x.u, x.l, x.w⟩
  else if x.cl = 3 ∨ x.cl = 16 ∨ x.cl = 19 then ⟨0, 0, x.b, x.c, x.u, x.l, x.w⟩
  else if x.cl = 5 ∨ x.cl = 9 ∨ x.cl = 12 ∨ x.cl = 23 then ⟨0, x.a, x.b, x.c, 0, x.l, x.w⟩
  else if x.cl = 10 ∨ x.cl = 11 then ⟨0, 0, 0, x.c, x.u, x.l, x.w⟩
  else if x.cl = 20 ∨ x.cl = 21 then ⟨0, x.a, x.b, x.c, x.u, [], x.w⟩
  else if x.cl = 207 then ⟨0, x.a, x.b, x.c, x.u, x.l, Wnt.zero⟩
  else ⟨0, x.a, x.b, x.c, x.u, x.l, x.w⟩
theorem shp_val (x : It) : (shpI x).val = shpP x.val := by
  obtain ⟨cl, a, b, c, u, la, ln, lc, l, w⟩ := x
  by_cases h0 : cl = 1 ∨ cl = 6
  · simp [shpI, shpP, It.val, h0]
  by_cases h1 : cl = 3 ∨ cl = 16 ∨ cl = 19
  · simp [shpI, shpP, It.val, h0, h1]
  by_cases h2 : cl = 5 ∨ cl = 9 ∨ cl = 12 ∨ cl = 23
  · simp [shpI, shpP, It.val, h0, h1, h2]
  by_cases h3 : cl = 10 ∨ cl = 11
  · simp [shpI, shpP, It.val, h0, h1, h2, h3]
  by_cases h4 : cl = 20 ∨ cl = 21
  · simp [shpI, shpP, It.val, h0, h1, h2, h3, h4]
  by_cases h5 : cl = 207
  · simp [shpI, shpP, It.val, h5]
  simp [shpI, shpP, It.val, h0, h1, h2, h3, h4, h5]
theorem shp_row {w : World} {B : Nat} (x : It) (h : Row ei w B x.la x.ln x.l) (hn : x.ln ≤ maxLen) : Row ei w B (shpI x).la (shpI x).ln (shpI x).l ∧ (shpI x).ln ≤ maxLen := by
  obtain ⟨cl, a, b, c, u, la, ln, lc, l, ww⟩ := x
  by_cases e : cl = 20 ∨ cl = 21
  · have : shpI ⟨cl, a, b, c, u, la, ln, lc, l, ww⟩ = ⟨0, a, b, c, u, none, 0, 0, [], ww⟩ := by rcases e with rfl | rfl <;> simp [shpI]
    rw [this]
    exact ⟨Row.nil, Nat.zero_le _⟩
  · have : (shpI ⟨cl, a, b, c, u, la, ln, lc, l, ww⟩).la = la ∧ (shpI ⟨cl, a, b, c, u, la, ln, lc, l, ww⟩).ln = ln ∧ (shpI ⟨cl, a, b, c, u, la, ln, lc, l, ww⟩).l = l := by
      by_cases h0 : cl = 1 ∨ cl = 6
      · simp only [shpI, if_pos h0, and_self]
      by_cases h1 : cl = 3 ∨ cl = 16 ∨ cl = 19
      · simp only [shpI, if_neg h0, if_pos h1, and_self]
      by_cases h2 : cl = 5 ∨ cl = 9 ∨ cl = 12 ∨ cl = 23
      · simp only [shpI, if_neg h0, if_neg h1, if_pos h2, and_self]
      by_cases h3 : cl = 10 ∨ cl = 11
      · simp only [shpI, if_neg h0, if_neg h1, if_neg h2, if_pos h3, and_self]
      by_cases h5 : cl = 207
      · simp only [shpI, if_neg h0, if_neg h1, if_neg h2, if_neg h3, if_neg e, if_pos h5, and_self]
      simp only [shpI, if_neg h0, if_neg h1, if_neg h2, if_neg h3, if_neg h5, if_neg e, and_self]
    rw [this.1, this.2.1, this.2.2]
    exact ⟨h, hn⟩

end Go.Proofs.Ytocogdcecnnnnaa
