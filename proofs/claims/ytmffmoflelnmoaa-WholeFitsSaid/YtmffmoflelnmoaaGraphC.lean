/-
  Contracts of package graph: Find; slices.IndexFunc, slices.Index, slices.Contains as they are used there. Condition: at most 2^40 links or numbers.
-/
import Derived.Test.YtmffmoflelnmoaaGraphA
import Derived.Shelf.Abstract
import Derived.Laws.EntriesVeiled
namespace Go.Proofs.Ytmffmoflelnmoaa
set_option maxRecDepth 100000
open Go.RowKit

/-- Does a link lead from one node to another one? -/
def isE (f t : Int) (x : Lk) : Bool := x.f == f && x.t == t
/-- The first link from a node to another one. -/
def fndL (L : List Lk) (f t : Int) : Int := match L.findIdx? (isE f t) with | some i => (i : Int) | none => -1
theorem fndL_hit {L : List Lk} {f t : Int} {i : Nat} (hi : i < L.length) (hb : ∀ k (hk : k < L.length), k < i → isE f t L[k] = false) (h : isE f t L[i] = true) : fndL L f t = (i : Int) := by
  unfold fndL
  rw [List.findIdx?_eq_some_iff_getElem.2 ⟨hi, h, fun j hj => by have := hb j (by omega) hj; simp [this]⟩]
theorem fndL_none {L : List Lk} {f t : Int} (h : ∀ k (hk : k < L.length), isE f t L[k] = false) : fndL L f t = -1 := by
  unfold fndL
  rw [List.findIdx?_eq_none_iff.2 (fun x hx => by obtain ⟨k, hk, rfl⟩ := List.mem_iff_getElem.1 hx; exact h k hk)]
theorem fndL_cases (L : List Lk) (f t : Int) : (fndL L f t = -1 ∧ ∀ x ∈ L, isE f t x = false) ∨ ∃ i : Nat, ∃ hi : i < L.length, fndL L f t = (i : Int) ∧ isE f t L[i] = true := by
  unfold fndL
  cases h : L.findIdx? (isE f t) with
  | none => exact .inl ⟨rfl, List.findIdx?_eq_none_iff.1 h⟩
  | some i =>
    obtain ⟨hi, h1, _⟩ := List.findIdx?_eq_some_iff_getElem.1 h
    exact .inr ⟨i, hi, rfl, h1⟩

theorem index_calls (x : Int) (a : Option Addr) (n c B : Nat) (l : List Int) (w : World) (h : Row ei w B a n l) (hn : n ≤ 1099511627776) :
    Calls Try.prog 62 #[.slice a n c, .int .i64 x] w fun e w' => (∃ r : Int, e = .returned (.int .i64 r) ∧ (0 ≤ r ↔ x ∈ l)) ∧ w' = w := by
  have HLEN := Lib.hid h.1
  have HR := Lib.hid h
  clear h
  go_enter Try.func62, Try.ntmps62
  go_wp2_with fail
  go_loopw [8] (fun t' wr => ∃ i : Nat, i ≤ n ∧ t' = .int .i64 (i : Int) ∧ x ∉ l.take i ∧ wr = w) (fun t' wr => n - (intOf t').toNat)
  case atStart => exact ⟨0, Nat.zero_le _, rfl, by simp, rfl⟩
  case round =>
    obtain ⟨i, hi, rfl, hF, rfl⟩ := hrel
    have HF := Lib.hid hF
    clear hF
    by_cases hlt : i < n
    · obtain ⟨b, o, rfl, hbw, hcell⟩ := HR.out.cells ei_length (by omega)
      have hil : i < l.length := by have := HLEN.out; omega
      have hat : wr.cell? ⟨b, o + i, none⟩ = some (.int .i64 l[i]) := by have := hcell i hil 0 (by omega); rw [Nat.mul_one, Nat.add_zero] at this; exact this
      clear hcell
      by_cases hx : x = l[i]
      · have hb : (x == l[i]) = true := by simp [hx]
        have HX := Lib.hid hx
        clear hx
        go_wp2_with fail
        go_ret
        refine ⟨⟨_, rfl, ?_⟩, rfl⟩
        constructor
        · intro _; rw [HX.out]; exact List.getElem_mem hil
        · intro _; omega
      · have hb : (x == l[i]) = false := by simp [hx]
        have F2 := Lib.hid (show x ∉ l.take (i + 1) by
          rw [List.take_succ_eq_append_getElem hil]
          intro hm
          rcases List.mem_append.1 hm with hm | hm
          · exact HF.out hm
          · simp at hm; exact hx hm)
        clear hx
        go_wp2_with fail
        go_roundw
        case rel => exact ⟨i + 1, by omega, rfl, F2.out, trivial⟩
        case measure => simp [intOf]; omega
    · go_wp2_with fail
      go_ret
      refine ⟨⟨_, rfl, ?_⟩, rfl⟩
      constructor
      · intro h; omega
      · intro hm; exact absurd (by rw [List.take_of_length_le (by have := HLEN.out; omega)]; exact hm) HF.out
theorem contains_calls (x : Int) (a : Option Addr) (n c B : Nat) (l : List Int) (w : World) (h : Row ei w B a n l) (hn : n ≤ 1099511627776) :
    Calls Try.prog 45 #[.slice a n c, .int .i64 x] w fun e w' => e = .returned (.bool (decide (x ∈ l))) ∧ w' = w := by
  have hi := index_calls x a n c B l w h hn
  clear h
  go_enter Try.func45, Try.ntmps45
  go_wp2_with fail
  ((with_reducible refine hi.mono ?_))
  rintro e w' ⟨⟨r, rfl, hr⟩, rfl⟩
  have HR := Lib.hid hr
  clear hr hi
  go_wp2_with fail
  go_ret
  refine ⟨?_, rfl⟩
  have : decide (0 ≤ r) = decide (x ∈ l) := by simp [HR.out]
  rw [← this]
  rfl
end Go.Proofs.Ytmffmoflelnmoaa
