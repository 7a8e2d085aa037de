/-
  The library's stable sort of whole numbers by a function, its parts: two neighboring ranges that are in order are merged. Condition: at most 2^40 numbers, in memory that the call itself made; a comparison that only reads, of numbers that it may be asked for.
-/
import Derived.Test.YtmffmoflelnmoaaGrSU
namespace Go.Proofs.Ytmffmoflelnmoaa
open Go.RowKit

section
variable {S : World → Prop} {D : Int → Prop} {key : Int → Int} {F : FuncId} {held : Array Value}

theorem up_srt {a b i : Nat} {f f' : Nat → Int} (hr : Rot a (a + 1) i f f') (hai : a + 1 ≤ i) (hib : i ≤ b) (hs : Srt key (a + 1) b f) (hlo : ∀ k, a + 1 ≤ k → k < i → key (f k) < key (f a)) (hhi : ∀ k, i ≤ k → k < b → key (f a) ≤ key (f k)) : Srt key a b f' := by
  intro x y h1 h2 h3
  rw [hr x, hr y]
  by_cases y1 : y < i
  · rw [if_pos (by omega), if_pos (by omega : a ≤ y ∧ y < i), if_pos (by omega)]
    by_cases y2 : y < a + (i - (a + 1))
    · rw [if_pos y2]; exact hs _ _ (by omega) (by omega) (by omega)
    · rw [if_neg y2, show y - (i - (a + 1)) = a by omega]
      have := hlo (x + (a + 1 - a)) (by omega) (by omega)
      omega
  · rw [if_neg (by omega : ¬ (a ≤ y ∧ y < i))]
    by_cases x1 : x < i
    · rw [if_pos (by omega)]
      by_cases x2 : x < a + (i - (a + 1))
      · rw [if_pos x2]; exact hs _ _ (by omega) (by omega) (by omega)
      · rw [if_neg x2, show x - (i - (a + 1)) = a by omega]; exact hhi y (by omega) h3
    · rw [if_neg (by omega)]; exact hs _ _ (by omega) (by omega) (by omega)
theorem down_srt {a m i : Nat} {f f' : Nat → Int} (hr : Rot i m (m + 1) f f') (hai : a ≤ i) (him : i ≤ m) (hs : Srt key a m f) (hlo : ∀ k, a ≤ k → k < i → key (f k) ≤ key (f m)) (hhi : ∀ k, i ≤ k → k < m → key (f m) < key (f k)) : Srt key a (m + 1) f' := by
  intro x y h1 h2 h3
  rw [hr x, hr y]
  by_cases x1 : i ≤ x
  · rw [if_pos (by omega), if_pos (by omega : i ≤ y ∧ y < m + 1), if_neg (by omega : ¬ y < i + (m + 1 - m))]
    by_cases x2 : x < i + (m + 1 - m)
    · rw [if_pos x2, show x + (m - i) = m by omega]
      have := hhi (y - (m + 1 - m)) (by omega) (by omega)
      omega
    · rw [if_neg x2]; exact hs _ _ (by omega) (by omega) (by omega)
  · rw [if_neg (by omega)]
    by_cases y1 : i ≤ y
    · rw [if_pos (by omega)]
      by_cases y2 : y < i + (m + 1 - m)
      · rw [if_pos y2, show y + (m - i) = m by omega]; exact hlo x h1 (by omega)
      · rw [if_neg y2]; exact hs _ _ (by omega) (by omega) (by omega)
    · rw [if_neg (by omega)]; exact hs _ _ h1 h2 (by omega)

end
end Go.Proofs.Ytmffmoflelnmoaa
