/-
  The library's stable sort of whole numbers by a function, its parts: two neighboring ranges that are in order are merged. Condition: at most 2^40 numbers, in memory that the call itself made; a comparison that only reads, of numbers that it may be asked for.
-/
import Derived.Test.YtmffmoflelnmoaaGrW
import Derived.Deep.DeepCutAuto
namespace Go.Proofs.Ytmffmoflelnmoaa
open Go.RowKit

/-- Where the search for the rotation begins and ends. -/
def Rng (a m b mid s r : Nat) : Prop := a ≤ s ∧ s ≤ r ∧ r ≤ m ∧ r ≤ mid ∧ mid + m - s ≤ b ∧ (∀ c, s ≤ c → c < r → m ≤ mid + m - 1 - c ∧ mid + m - 1 - c < b) ∧ (r = m ∨ r = mid) ∧ (s = a ∨ mid + m - s = b)
/-- What the search has found so far. -/
def Fnd (key : Int → Int) (f : Nat → Int) (p0 s0 r0 s r : Nat) : Prop := (∀ c, s0 ≤ c → c < s → key (f c) ≤ key (f (p0 - c))) ∧ (∀ c, r ≤ c → c < r0 → key (f (p0 - c)) < key (f c))

section
variable {S : World → Prop} {D : Int → Prop} {key : Int → Int} {F : FuncId} {held : Array Value}
theorem Fnd.more {f : Nat → Int} {a m b mid s0 r0 s r q : Nat} (hr : Rng a m b mid s0 r0) (h : Fnd key f (mid + m - 1) s0 r0 s r) (hl : Srt key a m f) (hh : Srt key m b f) (h1 : s0 ≤ s) (h2 : s ≤ q) (h3 : q < r) (h4 : r ≤ r0) (hk : key (f q) ≤ key (f (mid + m - 1 - q))) : Fnd key f (mid + m - 1) s0 r0 (q + 1) r := by
  obtain ⟨r1, r2, r3, r4, r5, r6, r7, r8⟩ := hr
  refine ⟨fun c x y => ?_, h.2⟩
  by_cases hcs : c = q
  · subst hcs; exact hk
  · have t1 := r6 q (by omega) (by omega)
    have t2 := r6 c x (by omega)
    have t3 := hl c q (by omega) (by omega) (by omega)
    have t4 := hh (mid + m - 1 - q) (mid + m - 1 - c) t1.1 (by omega) t2.2
    omega
theorem Fnd.less {f : Nat → Int} {a m b mid s0 r0 s r q : Nat} (hr : Rng a m b mid s0 r0) (h : Fnd key f (mid + m - 1) s0 r0 s r) (hl : Srt key a m f) (hh : Srt key m b f) (h1 : s0 ≤ s) (h2 : s ≤ q) (hk : key (f (mid + m - 1 - q)) < key (f q)) : Fnd key f (mid + m - 1) s0 r0 s q := by
  obtain ⟨r1, r2, r3, r4, r5, r6, r7, r8⟩ := hr
  refine ⟨h.1, fun c x y => ?_⟩
  by_cases hcs : c = q
  · subst hcs; exact hk
  · have t1 := r6 q (by omega) (by omega)
    have t2 := r6 c (by omega) y
    have t3 := hl q c (by omega) (by omega) (by omega)
    have t4 := hh (mid + m - 1 - c) (mid + m - 1 - q) t2.1 (by omega) t1.2
    omega
theorem Fnd.done {f : Nat → Int} {a m b mid s0 r0 s : Nat} (hr : Rng a m b mid s0 r0) (h : Fnd key f (mid + m - 1) s0 r0 s s) (hl : Srt key a m f) (hh : Srt key m b f) (hmid : mid < b) (h1 : s0 ≤ s) (h2 : s ≤ r0) :
    a ≤ s ∧ s ≤ m ∧ s ≤ mid ∧ m ≤ mid + m - s ∧ mid + m - s ≤ b ∧ (∀ i j, s ≤ i → i < m → m ≤ j → j < mid + m - s → key (f j) < key (f i)) ∧ (∀ i j, a ≤ i → i < s → mid + m - s ≤ j → j < b → key (f i) ≤ key (f j)) := by
  obtain ⟨r1, r2, r3, r4, r5, r6, r7, r8⟩ := hr
  refine ⟨by omega, by omega, by omega, by omega, by omega, fun i j x1 x2 x3 x4 => ?_, fun i j x1 x2 x3 x4 => ?_⟩
  · have hs : s < r0 := by omega
    have t1 := h.2 s (Nat.le_refl _) hs
    have t2 := r6 s h1 hs
    have t3 : key (f s) ≤ key (f i) := by
      rcases Nat.lt_or_ge s i with h3 | h3
      · exact hl s i (by omega) h3 x2
      · obtain rfl : s = i := by omega
        exact Int.le_refl _
    have t4 : key (f j) ≤ key (f (mid + m - 1 - s)) := by
      rcases Nat.lt_or_ge j (mid + m - 1 - s) with h3 | h3
      · exact hh j _ x3 h3 t2.2
      · obtain rfl : j = mid + m - 1 - s := by omega
        exact Int.le_refl _
    omega
  · have hs : s0 < s := by omega
    have t1 := h.1 (s - 1) (by omega) (by omega)
    have t2 := r6 (s - 1) (by omega) (by omega)
    have t3 : key (f i) ≤ key (f (s - 1)) := by
      rcases Nat.lt_or_ge i (s - 1) with h3 | h3
      · exact hl i (s - 1) x1 h3 (by omega)
      · obtain rfl : i = s - 1 := by omega
        exact Int.le_refl _
    have t4 : key (f (mid + m - 1 - (s - 1))) ≤ key (f j) := by
      rcases Nat.lt_or_ge (mid + m - 1 - (s - 1)) j with h3 | h3
      · exact hh _ j t2.1 h3 x4
      · obtain rfl : j = mid + m - 1 - (s - 1) := by omega
        exact Int.le_refl _
    omega

end
end Go.Proofs.Ytmffmoflelnmoaa
