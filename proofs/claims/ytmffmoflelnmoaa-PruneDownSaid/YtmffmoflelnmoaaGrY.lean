/-
  The library's stable sort of whole numbers by a function. Condition: at most 2^40 numbers, in memory that the call itself made; a comparison that only reads, of numbers that it may be asked for.
-/
import Derived.Test.YtmffmoflelnmoaaGrX
namespace Go.Proofs.Ytmffmoflelnmoaa
open Go.RowKit

/-- Blocks of one length are in order. -/
def Bks (key : Int → Int) (n bs : Nat) (f : Nat → Int) : Prop := ∀ t, Srt key (t * bs) (min (t * bs + bs) n) f
/-- While blocks are merged, two by two. -/
def Mdw (key : Int → Int) (n bs t0 : Nat) (f : Nat → Int) : Prop := (∀ t, t < t0 → Srt key (t * (2 * bs)) (t * (2 * bs) + 2 * bs) f) ∧ (∀ t, 2 * t0 ≤ t → Srt key (t * bs) (min (t * bs + bs) n) f)
section
variable {key : Int → Int} {n bs t0 a : Nat} {f g : Nat → Int}
theorem two_mul_eq (t0 bs : Nat) : 2 * t0 * bs = t0 * (2 * bs) := by rw [Nat.mul_comm 2 t0, Nat.mul_assoc]
theorem Mdw.start (h : Bks key n bs f) : Mdw key n bs 0 f := ⟨fun t ht => by omega, fun t _ => h t⟩
theorem Mdw.pre (h : Mdw key n bs t0 f) (ha : a = t0 * (2 * bs)) : Srt key a (min (a + bs) n) f ∧ Srt key (a + bs) (min (a + 2 * bs) n) f := by
  have e1 := two_mul_eq t0 bs
  have e2 : (2 * t0 + 1) * bs = a + bs := by rw [Nat.add_mul, Nat.one_mul, e1, ha]
  have h1 := h.2 (2 * t0) (Nat.le_refl _)
  have h2 := h.2 (2 * t0 + 1) (by omega)
  rw [e1, ← ha] at h1
  rw [e2, show a + bs + bs = a + 2 * bs by omega] at h2
  exact ⟨h1, h2⟩
theorem Mdw.step (h : Mdw key n bs t0 f) (ha : a = t0 * (2 * bs)) (hl : Loc key n a (a + 2 * bs) f g) (hs : Srt key a (a + 2 * bs) g) : Mdw key n bs (t0 + 1) g := by
  refine ⟨fun t ht => ?_, fun t ht => ?_⟩
  · by_cases h1 : t = t0
    · subst h1; rw [← ha]; exact hs
    · have h2 : (t + 1) * (2 * bs) ≤ t0 * (2 * bs) := Nat.mul_le_mul_right _ (by omega)
      rw [Nat.add_mul, Nat.one_mul, ← ha] at h2
      exact hl.srt (h.1 t (by omega)) (.inl h2)
  · have h2 : (2 * t0 + 2) * bs ≤ t * bs := Nat.mul_le_mul_right _ (by omega)
    rw [Nat.add_mul, two_mul_eq, ← ha] at h2
    exact hl.srt (h.2 t (by omega)) (.inr h2)
theorem Mdw.done (h : Mdw key n bs t0 f) (ha : a = t0 * (2 * bs)) (hl : Loc key n a n f g) (hs : Srt key a n g) (hn : n < a + 2 * bs) : Bks key n (2 * bs) g := by
  intro t
  by_cases h1 : t < t0
  · have h2 : (t + 1) * (2 * bs) ≤ t0 * (2 * bs) := Nat.mul_le_mul_right _ (by omega)
    rw [Nat.add_mul, Nat.one_mul, ← ha] at h2
    exact (hl.srt (h.1 t h1) (.inl h2)).sub (Nat.le_refl _) (Nat.min_le_left _ _)
  · by_cases h3 : t = t0
    · subst h3; rw [← ha]; exact hs.sub (Nat.le_refl _) (Nat.min_le_right _ _)
    · have h2 : (t0 + 1) * (2 * bs) ≤ t * (2 * bs) := Nat.mul_le_mul_right _ (by omega)
      rw [Nat.add_mul, Nat.one_mul, ← ha] at h2
      intro i j x y z
      have := Nat.min_le_right (t * (2 * bs) + 2 * bs) n
      omega
end

section
variable {S : World → Prop} {D : Int → Prop} {key : Int → Int} {F : FuncId} {held : Array Value}

/-- What the sort leaves: the same numbers in order, of like ones the lesser first. -/
def StabPost (key : Int → Int) (w : World) (base : Nat) (A : Option Addr) (c : Nat) (l : List Int) (e : Ending) (w' : World) : Prop :=
  e = .returned (.tuple #[]) ∧ ∃ l' : List Int, l'.length = l.length ∧ AccI w' base A c l' ∧ l'.Pairwise (fun x y => key x < key y ∨ key x = key y ∧ x < y) ∧ (∀ x, x ∈ l' ↔ x ∈ l) ∧ w.grownBy w' (blk A)

end
end Go.Proofs.Ytmffmoflelnmoaa
