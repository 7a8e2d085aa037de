/-
  The library's stable sort of whole numbers by a function, its parts: two neighboring ranges that are in order are merged. Condition: at most 2^40 numbers, in memory that the call itself made; a comparison that only reads, of numbers that it may be asked for.
  The library's stable sort of whole numbers by a function, its parts: two neighboring ranges that are in order are merged, one on the right. Condition: at most 2^40 numbers, in memory that the call itself made; a comparison that only reads, of numbers that it may be asked for.
  The library's stable sort of whole numbers by a function, its parts: two neighboring ranges that are in order are merged. Condition: at most 2^40 numbers, in memory that the call itself made; a comparison that only reads, of numbers that it may be asked for.
  The library's stable sort of whole numbers by a function. Condition: at most 2^40 numbers, in memory that the call itself made; a comparison that only reads, of numbers that it may be asked for.
-/
import Derived.Test.YtogijfebfffobaaGrSU
import Derived.Deep.DeepCutAuto
namespace Go.Proofs.Ytogijfebfffobaa
open Go.RowKit

section
variable {S : World → Prop} {D : Int → Prop} {key : Int → Int} {F : FuncId} {held : Array Value}

theorem up_srt {a b i : Nat} {f f' : Nat → Int} (hr : Rot a (a + 1) i f f') (hai : a + 1 ≤ i) (hib : i ≤ b) (hs : Srt key (a + 1) b f) (hlo : ∀ k, a + 1 ≤ k → k < i → key (f k) < key (f a)) (hhi : ∀ k, i ≤ k → k < b → key (f a) ≤ key (f k)) : Srt key a b f' := by
  intro x y h1 h2 h3
  rw [hr x, hr y]
  by_cases y1 : y < i
  · rw [if_pos (by omega), if_pos (by omega : a ≤ y ∧ y < i), if_pos (by omega)]
    by_cases y2 : y < a + (i - (a + 1))
    · rw [if_pos y2]; exact hs _ _ (by omega) (by omega) (by omega)
    · rw [if_neg y2, show y - (i - (a + 1)) = a by omega]
      have := hlo (x + (a + 1 - a)) (by omega) (by omega)
      omega
  · rw [if_neg (by omega : ¬ (a ≤ y ∧ y < i))]
    by_cases x1 : x < i
    · rw [if_pos (by omega)]
      by_cases x2 : x < a + (i - (a + 1))
      · rw [if_pos x2]; exact hs _ _ (by omega) (by omega) (by omega)
      · rw [if_neg x2, show x - (i - (a + 1)) = a by omega]; exact hhi y (by omega) h3
    · rw [if_neg (by omega)]; exact hs _ _ (by omega) (by omega) (by omega)
theorem down_srt {a m i : Nat} {f f' : Nat → Int} (hr : Rot i m (m + 1) f f') (hai : a ≤ i) (him : i ≤ m) (hs : Srt key a m f) (hlo : ∀ k, a ≤ k → k < i → key (f k) ≤ key (f m)) (hhi : ∀ k, i ≤ k → k < m → key (f m) < key (f k)) : Srt key a (m + 1) f' := by
  intro x y h1 h2 h3
  rw [hr x, hr y]
  by_cases x1 : i ≤ x
  · rw [if_pos (by omega), if_pos (by omega : i ≤ y ∧ y < m + 1), if_neg (by omega : ¬ y < i + (m + 1 - m))]
    by_cases x2 : x < i + (m + 1 - m)
    · rw [if_pos x2, show x + (m - i) = m by omega]
      have := hhi (y - (m + 1 - m)) (by omega) (by omega)
      omega
    · rw [if_neg x2]; exact hs _ _ (by omega) (by omega) (by omega)
  · rw [if_neg (by omega)]
    by_cases y1 : i ≤ y
    · rw [if_pos (by omega)]
      by_cases y2 : y < i + (m + 1 - m)
      · rw [if_pos y2, show y + (m - i) = m by omega]; exact hlo x h1 (by omega)
      · rw [if_neg y2]; exact hs _ _ (by omega) (by omega) (by omega)
    · rw [if_neg (by omega)]; exact hs _ _ h1 h2 (by omega)

end
end Go.Proofs.Ytogijfebfffobaa

namespace Go.Proofs.Ytogijfebfffobaa
open Go.RowKit

section
variable {S : World → Prop} {D : Int → Prop} {key : Int → Int} {F : FuncId} {held : Array Value}

end
end Go.Proofs.Ytogijfebfffobaa

namespace Go.Proofs.Ytogijfebfffobaa
open Go.RowKit

/-- Where the search for the rotation begins and ends. -/
def Rng (a m b mid s r : Nat) : Prop := a ≤ s ∧ s ≤ r ∧ r ≤ m ∧ r ≤ mid ∧ mid + m - s ≤ b ∧ (∀ c, s ≤ c → c < r → m ≤ mid + m - 1 - c ∧ mid + m - 1 - c < b) ∧ (r = m ∨ r = mid) ∧ (s = a ∨ mid + m - s = b)
/-- What the search has found so far. -/
def Fnd (key : Int → Int) (f : Nat → Int) (p0 s0 r0 s r : Nat) : Prop := (∀ c, s0 ≤ c → c < s → key (f c) ≤ key (f (p0 - c))) ∧ (∀ c, r ≤ c → c < r0 → key (f (p0 - c)) < key (f c))

section
variable {S : World → Prop} {D : Int → Prop} {key : Int → Int} {F : FuncId} {held : Array Value}
theorem Fnd.more {f : Nat → Int} {a m b mid s0 r0 s r q : Nat} (hr : Rng a m b mid s0 r0) (h : Fnd key f (mid + m - 1) s0 r0 s r) (hl : Srt key a m f) (hh : Srt key m b f) (h1 : s0 ≤ s) (h2 : s ≤ q) (h3 : q < r) (h4 : r ≤ r0) (hk : key (f q) ≤ key (f (mid + m - 1 - q))) : Fnd key f (mid + m - 1) s0 r0 (q + 1) r := by
  obtain ⟨r1, r2, r3, r4, r5, r6, r7, r8⟩ := hr
  refine ⟨fun c x y => ?_, h.2⟩
  by_cases hcs : c = q
  · subst hcs; exact hk
  · have t1 := r6 q (by omega) (by omega)
    have t2 := r6 c x (by omega)
    have t3 := hl c q (by omega) (by omega) (by omega)
    have t4 := hh (mid + m - 1 - q) (mid + m - 1 - c) t1.1 (by omega) t2.2
    omega
theorem Fnd.less {f : Nat → Int} {a m b mid s0 r0 s r q : Nat} (hr : Rng a m b mid s0 r0) (h : Fnd key f (mid + m - 1) s0 r0 s r) (hl : Srt key a m f) (hh : Srt key m b f) (h1 : s0 ≤ s) (h2 : s ≤ q) (hk : key (f (mid + m - 1 - q)) < key (f q)) : Fnd key f (mid + m - 1) s0 r0 s q := by
  obtain ⟨r1, r2, r3, r4, r5, r6, r7, r8⟩ := hr
  refine ⟨h.1, fun c x y => ?_⟩
  by_cases hcs : c = q
  · subst hcs; exact hk
  · have t1 := r6 q (by omega) (by omega)
    have t2 := r6 c (by omega) y
    have t3 := hl q c (by omega) (by omega) (by omega)
    have t4 := hh (mid + m - 1 - c) (mid + m - 1 - q) t2.1 (by omega) t1.2
    omega
theorem Fnd.done {f : Nat → Int} {a m b mid s0 r0 s : Nat} (hr : Rng a m b mid s0 r0) (h : Fnd key f (mid + m - 1) s0 r0 s s) (hl : Srt key a m f) (hh : Srt key m b f) (hmid : mid < b) (h1 : s0 ≤ s) (h2 : s ≤ r0) :
    a ≤ s ∧ s ≤ m ∧ s ≤ mid ∧ m ≤ mid + m - s ∧ mid + m - s ≤ b ∧ (∀ i j, s ≤ i → i < m → m ≤ j → j < mid + m - s → key (f j) < key (f i)) ∧ (∀ i j, a ≤ i → i < s → mid + m - s ≤ j → j < b → key (f i) ≤ key (f j)) := by
  obtain ⟨r1, r2, r3, r4, r5, r6, r7, r8⟩ := hr
  refine ⟨by omega, by omega, by omega, by omega, by omega, fun i j x1 x2 x3 x4 => ?_, fun i j x1 x2 x3 x4 => ?_⟩
  · have hs : s < r0 := by omega
    have t1 := h.2 s (Nat.le_refl _) hs
    have t2 := r6 s h1 hs
    have t3 : key (f s) ≤ key (f i) := by
      rcases Nat.lt_or_ge s i with h3 | h3
      · exact hl s i (by omega) h3 x2
      · obtain rfl : s = i := by omega
        exact Int.le_refl _
    have t4 : key (f j) ≤ key (f (mid + m - 1 - s)) := by
      rcases Nat.lt_or_ge j (mid + m - 1 - s) with h3 | h3
      · exact hh j _ x3 h3 t2.2
      · obtain rfl : j = mid + m - 1 - s := by omega
        exact Int.le_refl _
    omega
  · have hs : s0 < s := by omega
    have t1 := h.1 (s - 1) (by omega) (by omega)
    have t2 := r6 (s - 1) (by omega) (by omega)
    have t3 : key (f i) ≤ key (f (s - 1)) := by
      rcases Nat.lt_or_ge i (s - 1) with h3 | h3
      · exact hl i (s - 1) x1 h3 (by omega)
      · obtain rfl : i = s - 1 := by omega
        exact Int.le_refl _
    have t4 : key (f (mid + m - 1 - (s - 1))) ≤ key (f j) := by
      rcases Nat.lt_or_ge (mid + m - 1 - (s - 1)) j with h3 | h3
      · exact hh _ j t2.1 h3 x4
      · obtain rfl : j = mid + m - 1 - (s - 1) := by omega
        exact Int.le_refl _
    omega

end
end Go.Proofs.Ytogijfebfffobaa

namespace Go.Proofs.Ytogijfebfffobaa
open Go.RowKit

/-- Blocks of one length are in order. -/
def Bks (key : Int → Int) (n bs : Nat) (f : Nat → Int) : Prop := ∀ t, Srt key (t * bs) (min (t * bs + bs) n) f
/-- While blocks are merged, two by two. -/
def Mdw (key : Int → Int) (n bs t0 : Nat) (f : Nat → Int) : Prop := (∀ t, t < t0 → Srt key (t * (2 * bs)) (t * (2 * bs) + 2 * bs) f) ∧ (∀ t, 2 * t0 ≤ t → Srt key (t * bs) (min (t * bs + bs) n) f)
section
variable {key : Int → Int} {n bs t0 a : Nat} {f g : Nat → Int}
theorem two_mul_eq (t0 bs : Nat) : 2 * t0 * bs = t0 * (2 * bs) := by rw [Nat.mul_comm 2 t0, Nat.mul_assoc]
theorem Mdw.start (h : Bks key n bs f) : Mdw key n bs 0 f := ⟨fun t ht => by omega, fun t _ => h t⟩
theorem Mdw.pre (h : Mdw key n bs t0 f) (ha : a = t0 * (2 * bs)) : Srt key a (min (a + bs) n) f ∧ Srt key (a + bs) (min (a + 2 * bs) n) f := by
  have e1 := two_mul_eq t0 bs
  have e2 : (2 * t0 + 1) * bs = a + bs := by rw [Nat.add_mul, Nat.one_mul, e1, ha]
  have h1 := h.2 (2 * t0) (Nat.le_refl _)
  have h2 := h.2 (2 * t0 + 1) (by omega)
  rw [e1, ← ha] at h1
  rw [e2, show a + bs + bs = a + 2 * bs by omega] at h2
  exact ⟨h1, h2⟩
theorem Mdw.step (h : Mdw key n bs t0 f) (ha : a = t0 * (2 * bs)) (hl : Loc key n a (a + 2 * bs) f g) (hs : Srt key a (a + 2 * bs) g) : Mdw key n bs (t0 + 1) g := by
  refine ⟨fun t ht => ?_, fun t ht => ?_⟩
  · by_cases h1 : t = t0
    · subst h1; rw [← ha]; exact hs
    · have h2 : (t + 1) * (2 * bs) ≤ t0 * (2 * bs) := Nat.mul_le_mul_right _ (by omega)
      rw [Nat.add_mul, Nat.one_mul, ← ha] at h2
      exact hl.srt (h.1 t (by omega)) (.inl h2)
  · have h2 : (2 * t0 + 2) * bs ≤ t * bs := Nat.mul_le_mul_right _ (by omega)
    rw [Nat.add_mul, two_mul_eq, ← ha] at h2
    exact hl.srt (h.2 t (by omega)) (.inr h2)
theorem Mdw.done (h : Mdw key n bs t0 f) (ha : a = t0 * (2 * bs)) (hl : Loc key n a n f g) (hs : Srt key a n g) (hn : n < a + 2 * bs) : Bks key n (2 * bs) g := by
  intro t
  by_cases h1 : t < t0
  · have h2 : (t + 1) * (2 * bs) ≤ t0 * (2 * bs) := Nat.mul_le_mul_right _ (by omega)
    rw [Nat.add_mul, Nat.one_mul, ← ha] at h2
    exact (hl.srt (h.1 t h1) (.inl h2)).sub (Nat.le_refl _) (Nat.min_le_left _ _)
  · by_cases h3 : t = t0
    · subst h3; rw [← ha]; exact hs.sub (Nat.le_refl _) (Nat.min_le_right _ _)
    · have h2 : (t0 + 1) * (2 * bs) ≤ t * (2 * bs) := Nat.mul_le_mul_right _ (by omega)
      rw [Nat.add_mul, Nat.one_mul, ← ha] at h2
      intro i j x y z
      have := Nat.min_le_right (t * (2 * bs) + 2 * bs) n
      omega
end

section
variable {S : World → Prop} {D : Int → Prop} {key : Int → Int} {F : FuncId} {held : Array Value}

/-- What the sort leaves: the same numbers in order, of like ones the lesser first. -/
def StabPost (key : Int → Int) (w : World) (base : Nat) (A : Option Addr) (c : Nat) (l : List Int) (e : Ending) (w' : World) : Prop :=
  e = .returned (.tuple #[]) ∧ ∃ l' : List Int, l'.length = l.length ∧ AccI w' base A c l' ∧ l'.Pairwise (fun x y => key x < key y ∨ key x = key y ∧ x < y) ∧ (∀ x, x ∈ l' ↔ x ∈ l) ∧ w.grownBy w' (blk A)

end
end Go.Proofs.Ytogijfebfffobaa
