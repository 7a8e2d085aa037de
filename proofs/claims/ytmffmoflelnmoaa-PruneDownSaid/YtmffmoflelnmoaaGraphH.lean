/-
  The document's Has, and whether two lists of numbers are the same; a node's links are fixed by what they must be. Condition: at most 2^40 numbers.
-/
import Derived.Test.YtmffmoflelnmoaaGraphD
namespace Go.Proofs.Ytmffmoflelnmoaa
set_option maxRecDepth 100000
open Go.RowKit

theorem row_int {w : World} {B n : Nat} {a : Option Addr} {l : List Int} (h : Row ei w B a n l) (hn : 0 < n) : ∃ b o : Nat, a = some ⟨b, o, none⟩ ∧ b < B ∧ ∀ (i : Nat) (hi : i < l.length), w.cell? ⟨b, o + i, none⟩ = some (.int .i64 l[i]) := by
  obtain ⟨b, o, e, hb, hc⟩ := h.cells ei_length hn
  refine ⟨b, o, e, hb, fun i hi => ?_⟩
  have := hc i hi 0 (by omega)
  rw [Nat.mul_one, Nat.add_zero] at this
  exact this
theorem rhas_calls (x : Int) (a : Option Addr) (n c B : Nat) (l : List Int) (w : World) (h : Row ei w B a n l) (hn : n ≤ 1099511627776) :
    Calls Try.prog 32 #[.slice a n c, .int .i64 x] w fun e w' => e = .returned (.bool (decide (x ∈ l))) ∧ w' = w := by
  have HLEN := Lib.hid h.1
  have HR := Lib.hid h
  clear h
  go_enter Try.func32, Try.ntmps32
  go_wp2_with fail
  go_loopw [5] (fun t' wr => ∃ i : Nat, i ≤ n ∧ t' = .int .i64 (i : Int) ∧ x ∉ l.take i ∧ wr = w) (fun t' wr => n - (intOf t').toNat)
  case atStart => exact ⟨0, Nat.zero_le _, rfl, by simp, rfl⟩
  case round =>
    obtain ⟨i, hi, rfl, hF, rfl⟩ := hrel
    have HF := Lib.hid hF
    clear hF
    by_cases hlt : i < n
    · obtain ⟨b, o, rfl, hbw, hcell⟩ := row_int HR.out (by omega)
      have hil : i < l.length := by have := HLEN.out; omega
      have hat := hcell i hil
      clear hcell
      by_cases hx : l[i] = x
      · have hb : (l[i] == x) = true := by simp [hx]
        have hm : decide (x ∈ l) = true := by rw [← hx]; simp
        have HMM := Lib.hid hm
        clear hx hm
        go_wp2_with fail
        go_ret
        exact ⟨by rw [HMM.out]; rfl, rfl⟩
      · have hb : (l[i] == x) = false := by simp [hx]
        have F2 := Lib.hid (show x ∉ l.take (i + 1) by
          rw [List.take_succ_eq_append_getElem hil]
          intro hm
          rcases List.mem_append.1 hm with hm | hm
          · exact HF.out hm
          · simp at hm; exact hx hm.symm)
        clear hx
        go_wp2_with fail
        go_roundw
        case rel => exact ⟨i + 1, by omega, rfl, F2.out, trivial⟩
        case measure => simp [intOf]; omega
    · have hm : decide (x ∈ l) = false := by
        have := HF.out
        rw [List.take_of_length_le (by have := HLEN.out; omega)] at this
        simpa using this
      have HMM := Lib.hid hm
      clear hm
      go_wp2_with fail
      go_ret
      exact ⟨by rw [HMM.out]; rfl, rfl⟩

/-- Two lists in one strict order that have the same members are the same. -/
theorem ordered_unique {R : Int → Int → Prop} (hirr : ∀ x, ¬ R x x) (hasym : ∀ x y, R x y → ¬ R y x) : ∀ {l k : List Int}, l.Pairwise R → k.Pairwise R → (∀ x, x ∈ l ↔ x ∈ k) → l = k
  | [], [], _, _, _ => rfl
  | [], y :: k, _, _, h => absurd ((h y).2 (by simp)) (by simp)
  | x :: l, [], _, _, h => absurd ((h x).1 (by simp)) (by simp)
  | x :: l, y :: k, hl, hk, h => by
    have h1 := List.pairwise_cons.1 hl
    have h2 := List.pairwise_cons.1 hk
    have hxy : x = y := by
      rcases List.mem_cons.1 ((h x).1 (by simp)) with e | e
      · exact e
      · rcases List.mem_cons.1 ((h y).2 (by simp)) with e2 | e2
        · exact e2.symm
        · exact absurd (h1.1 y e2) (hasym _ _ (h2.1 x e))
    subst hxy
    rw [ordered_unique hirr hasym h1.2 h2.2 (fun z => ?_)]
    constructor
    · intro hz
      rcases List.mem_cons.1 ((h z).1 (by simp [hz])) with e | e
      · subst e; exact absurd (h1.1 z hz) (hirr z)
      · exact e
    · intro hz
      rcases List.mem_cons.1 ((h z).2 (by simp [hz])) with e | e
      · subst e; exact absurd (h2.1 z hz) (hirr z)
      · exact e
theorem outs_unique {L : List Lk} {node : Int} {o o' : List Int} (h : OutsOk L node o) (h' : OutsOk L node o') : o = o' :=
  ordered_unique (R := fun x y => keyT L x < keyT L y ∨ keyT L x = keyT L y ∧ x < y) (fun x => by omega) (fun x y => by omega) h.order h'.order (fun x => (h.mem x).trans (h'.mem x).symm)
end Go.Proofs.Ytmffmoflelnmoaa
