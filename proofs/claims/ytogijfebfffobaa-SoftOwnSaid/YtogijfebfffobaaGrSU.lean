/-
  Sorting in place, over numbered places: what a swap, a rotation, an insertion and a merge leave of the order. No condition: laws over lists of places.
  The library's stable sort of whole numbers by a function, its parts: ranges that change places, and a rotation. Condition: at most 2^40 numbers, in memory that the call itself made.
  The library's stable sort of whole numbers by a function, its parts: a block is sorted by putting one in after the other. Condition: at most 2^40 numbers, in memory that the call itself made; a comparison that only reads, of numbers that it may be asked for.
-/
import Derived.Test.YtogijfebfffobaaBase
import Derived.LoopN
import Derived.Shelf.Abstract
import Derived.Laws.EntriesVeiled
import Derived.Test.YtogijfebfffobaaCmpI
namespace Go.Proofs.Ytogijfebfffobaa

/-- One place of a row turns. -/
def upd (f : Nat → Int) (i : Nat) (x : Int) : Nat → Int := fun k => if k = i then x else f k
/-- Two places change. -/
def swp (f : Nat → Int) (p q : Nat) : Nat → Int := upd (upd f p (f q)) q (f p)
theorem swp_at (f : Nat → Int) (p q k : Nat) : swp f p q k = if k = q then f p else if k = p then f q else f k := rfl
/-- The row as a list. -/
def lst (n : Nat) (f : Nat → Int) : List Int := (List.range n).map f
theorem lst_length (n : Nat) (f : Nat → Int) : (lst n f).length = n := by simp [lst]
theorem lst_get (n : Nat) (f : Nat → Int) (i : Nat) (h : i < n) : (lst n f)[i]? = some (f i) := by simp [lst, h]
theorem lst_set (n : Nat) (f : Nat → Int) (i : Nat) (x : Int) : (lst n f).set i x = lst n (upd f i x) := by
  apply List.ext_getElem?
  intro k
  rw [List.getElem?_set]
  rcases Nat.lt_or_ge k n with hk | hk
  · rw [lst_get n _ k hk, lst_get n _ k hk]
    unfold upd
    by_cases h : i = k
    · subst h; simp [lst, hk]
    · rw [if_neg h, if_neg (fun e => h e.symm)]
  · rw [List.getElem?_eq_none (l := lst n f) (by rw [lst_length]; exact hk), List.getElem?_eq_none (l := lst n (upd f i x)) (by rw [lst_length]; exact hk)]
    by_cases h : i = k
    · subst h; simp [lst_length]; omega
    · rw [if_neg h]
theorem lst_of (l : List Int) : l = lst l.length (fun k => l.getD k 0) := by
  apply List.ext_getElem?
  intro k
  rcases Nat.lt_or_ge k l.length with hk | hk
  · rw [lst_get _ _ _ hk]; simp [hk]
  · rw [List.getElem?_eq_none hk, List.getElem?_eq_none (by rw [lst_length]; exact hk)]
theorem lst_mem (n : Nat) (f : Nat → Int) (x : Int) : x ∈ lst n f ↔ ∃ k, k < n ∧ f k = x := by simp [lst]

section
variable (key : Int → Int) (n : Nat)
/-- Of like ones the lesser comes first. -/
def Stb (f : Nat → Int) : Prop := ∀ i j, i < j → j < n → key (f i) = key (f j) → f i < f j
/-- A part is in order. -/
def Srt (a b : Nat) (f : Nat → Int) : Prop := ∀ i j, a ≤ i → i < j → j < b → key (f i) ≤ key (f j)
/-- Only a part has turned, it holds the same, and like ones stay in order. -/
def Loc (a b : Nat) (f g : Nat → Int) : Prop :=
  (∀ k, k < a ∨ b ≤ k → g k = f k) ∧ (∀ k, a ≤ k → k < b → ∃ m, a ≤ m ∧ m < b ∧ g k = f m) ∧ (∀ k, a ≤ k → k < b → ∃ m, a ≤ m ∧ m < b ∧ f k = g m) ∧ (Stb key n f → Stb key n g)
/-- Two neighboring parts have changed places. -/
def Rot (a m b : Nat) (f g : Nat → Int) : Prop := ∀ k, g k = if a ≤ k ∧ k < b then (if k < a + (b - m) then f (k + (m - a)) else f (k - (b - m))) else f k
end
section
variable {key : Int → Int} {n a b m c d : Nat} {f g h : Nat → Int}
theorem Loc.refl (a b : Nat) (f : Nat → Int) : Loc key n a b f f := ⟨fun _ _ => rfl, fun k h1 h2 => ⟨k, h1, h2, rfl⟩, fun k h1 h2 => ⟨k, h1, h2, rfl⟩, id⟩
theorem Loc.trans (h1 : Loc key n a b f g) (h2 : Loc key n a b g h) : Loc key n a b f h := by
  refine ⟨fun k hk => (h2.1 k hk).trans (h1.1 k hk), fun k x y => ?_, fun k x y => ?_, fun s => h2.2.2.2 (h1.2.2.2 s)⟩
  · obtain ⟨m, x1, y1, e1⟩ := h2.2.1 k x y
    obtain ⟨m', x2, y2, e2⟩ := h1.2.1 m x1 y1
    exact ⟨m', x2, y2, e1.trans e2⟩
  · obtain ⟨m, x1, y1, e1⟩ := h1.2.2.1 k x y
    obtain ⟨m', x2, y2, e2⟩ := h2.2.2.1 m x1 y1
    exact ⟨m', x2, y2, e1.trans e2⟩
theorem Loc.mono (h1 : Loc key n a b f g) (hc : c ≤ a) (hd : b ≤ d) : Loc key n c d f g := by
  refine ⟨fun k hk => h1.1 k (by omega), fun k x y => ?_, fun k x y => ?_, h1.2.2.2⟩
  · by_cases hk : a ≤ k ∧ k < b
    · obtain ⟨m, x1, y1, e1⟩ := h1.2.1 k hk.1 hk.2
      exact ⟨m, by omega, by omega, e1⟩
    · exact ⟨k, x, y, h1.1 k (by omega)⟩
  · by_cases hk : a ≤ k ∧ k < b
    · obtain ⟨m, x1, y1, e1⟩ := h1.2.2.1 k hk.1 hk.2
      exact ⟨m, by omega, by omega, e1⟩
    · exact ⟨k, x, y, (h1.1 k (by omega)).symm⟩
theorem Loc.srt (h1 : Loc key n a b f g) (hs : Srt key c d f) (hd : d ≤ a ∨ b ≤ c) : Srt key c d g := by
  intro i j hi hij hj
  rw [h1.1 i (by omega), h1.1 j (by omega)]
  exact hs i j hi hij hj
theorem Srt.sub (hs : Srt key a b f) (hc : a ≤ c) (hd : d ≤ b) : Srt key c d f := fun i j hi hij hj => hs i j (by omega) hij (by omega)

theorem Rot.loc (h : Rot a m b f g) (ham : a ≤ m) (hmb : m ≤ b) (hbn : b ≤ n) (hk : ∀ i j, a ≤ i → i < m → m ≤ j → j < b → key (f j) < key (f i)) : Loc key n a b f g := by
  refine ⟨fun k hk => by rw [h k, if_neg (by omega)], fun k x y => ?_, fun k x y => ?_, fun s => ?_⟩
  · rw [h k, if_pos ⟨x, y⟩]
    by_cases h1 : k < a + (b - m)
    · rw [if_pos h1]; exact ⟨_, by omega, by omega, rfl⟩
    · rw [if_neg h1]; exact ⟨_, by omega, by omega, rfl⟩
  · by_cases h1 : k < m
    · refine ⟨k + (b - m), by omega, by omega, ?_⟩
      rw [h, if_pos (by omega), if_neg (by omega)]
      congr 1; omega
    · refine ⟨k - (m - a), by omega, by omega, ?_⟩
      rw [h, if_pos (by omega), if_pos (by omega)]
      congr 1; omega
  · intro i j hij hj he
    rw [h i, h j] at he ⊢
    by_cases i1 : a ≤ i ∧ i < b
    · rw [if_pos i1] at he ⊢
      by_cases i2 : i < a + (b - m)
      · rw [if_pos i2] at he ⊢
        by_cases j1 : a ≤ j ∧ j < b
        · rw [if_pos j1] at he ⊢
          by_cases j2 : j < a + (b - m)
          · rw [if_pos j2] at he ⊢
            exact s _ _ (by omega) (by omega) he
          · rw [if_neg j2] at he ⊢
            have := hk (j - (b - m)) (i + (m - a)) (by omega) (by omega) (by omega) (by omega)
            omega
        · rw [if_neg j1] at he ⊢
          exact s _ _ (by omega) (by omega) he
      · rw [if_neg i2] at he ⊢
        by_cases j1 : a ≤ j ∧ j < b
        · rw [if_pos j1, if_neg (by omega)] at he ⊢
          exact s _ _ (by omega) (by omega) he
        · rw [if_neg j1] at he ⊢
          exact s _ _ (by omega) (by omega) he
    · rw [if_neg i1] at he ⊢
      by_cases j1 : a ≤ j ∧ j < b
      · rw [if_pos j1] at he ⊢
        by_cases j2 : j < a + (b - m)
        · rw [if_pos j2] at he ⊢
          exact s _ _ (by omega) (by omega) he
        · rw [if_neg j2] at he ⊢
          exact s _ _ (by omega) (by omega) he
      · rw [if_neg j1] at he ⊢
        exact s _ _ hij hj he
theorem Rot.none (h : a = m ∨ m = b) (ham : a ≤ m) (hmb : m ≤ b) : Rot a m b f f := by
  intro k
  by_cases h1 : a ≤ k ∧ k < b
  · rw [if_pos h1]
    by_cases h2 : k < a + (b - m)
    · rw [if_pos h2]; congr 1; omega
    · rw [if_neg h2]; congr 1; omega
  · rw [if_neg h1]
/-- Two neighbors that change places. -/
theorem rot_swp (j : Nat) : Rot j (j + 1) (j + 2) f (swp f j (j + 1)) := by
  intro k
  rw [swp_at]
  by_cases h1 : k = j
  · subst h1
    rw [if_neg (by omega), if_pos rfl, if_pos (by omega), if_pos (by omega)]
    congr 1; omega
  · by_cases h2 : k = j + 1
    · subst h2
      rw [if_pos rfl, if_pos (by omega), if_neg (by omega)]
      congr 1; omega
    · rw [if_neg h2, if_neg h1, if_neg (by omega)]
/-- While one is put in among sorted ones: all but it are in order. -/
def Ins (key : Int → Int) (a i j : Nat) (f : Nat → Int) : Prop := ∀ p q, a ≤ p → p < q → q ≤ i → q ≠ j → key (f p) ≤ key (f q)
theorem Ins.start (h : Srt key a b f) : Ins key a b b f := fun p q h1 h2 h3 h4 => h p q h1 h2 (by omega)
theorem Ins.step {i j : Nat} (h : Ins key a i (j + 1) f) (haj : a ≤ j) (hlt : key (f (j + 1)) < key (f j)) : Ins key a i j (swp f j (j + 1)) := by
  intro p q h1 h2 h3 h4
  rw [swp_at, swp_at]
  by_cases q1 : q = j + 1
  · rw [if_neg (by omega : ¬ p = j + 1), if_pos q1]
    by_cases p1 : p = j
    · rw [if_pos p1]; omega
    · rw [if_neg p1]; exact h p j h1 (by omega) (by omega) (by omega)
  · rw [if_neg q1, if_neg h4]
    by_cases p1 : p = j + 1
    · rw [if_pos p1]; exact h j q haj (by omega) h3 q1
    · rw [if_neg p1]
      by_cases p2 : p = j
      · rw [if_pos p2]; exact h (j + 1) q (by omega) (by omega) h3 q1
      · rw [if_neg p2]; exact h p q h1 h2 h3 q1
theorem Ins.done {i j : Nat} (h : Ins key a i j f) (he : j ≤ a ∨ (a < j ∧ key (f (j - 1)) ≤ key (f j))) : Srt key a (i + 1) f := by
  intro p q h1 h2 h3
  by_cases q1 : q = j
  · subst q1
    rcases he with he | he
    · omega
    · by_cases p1 : p = q - 1
      · subst p1; exact he.2
      · have := h p (q - 1) h1 (by omega) (by omega) (by omega)
        omega
  · exact h p q h1 h2 (by omega) q1

/-- What a merge comes to. -/
theorem merged {s mid e : Nat} {f1 f2 f3 : Nat → Int} (hsm : s ≤ m) (hme : m ≤ e) (hmid : mid = s + (e - m)) (hr : Rot s m e f f1)
    (h2 : Loc key n a mid f1 f2) (s2 : Srt key a mid f2) (h3 : Loc key n mid b f2 f3) (s3 : Srt key mid b f3) (hl : Srt key a m f) (hh : Srt key m b f)
    (hx : ∀ i j, s ≤ i → i < m → m ≤ j → j < e → key (f j) < key (f i)) (hc : ∀ i j, a ≤ i → i < s → e ≤ j → j < b → key (f i) ≤ key (f j)) : Srt key a b f3 := by
  intro i j h1 hij hj
  by_cases j1 : j < mid
  · rw [h3.1 i (by omega), h3.1 j (by omega)]
    exact s2 i j h1 hij j1
  by_cases i1 : mid ≤ i
  · exact s3 i j i1 hij hj
  rw [h3.1 i (by omega)]
  obtain ⟨i', x1, y1, e1⟩ := h2.2.1 i h1 (by omega)
  obtain ⟨j', x2, y2, e2⟩ := h3.2.1 j (by omega) hj
  rw [e1, e2, h2.1 j' (by omega), hr i', hr j']
  by_cases i2 : s ≤ i'
  · rw [if_pos (by omega), if_pos (by omega)]
    by_cases j2 : j' < e
    · rw [if_pos (by omega), if_neg (by omega)]
      have := hx (j' - (e - m)) (i' + (m - s)) (by omega) (by omega) (by omega) (by omega)
      omega
    · rw [if_neg (by omega)]
      exact hh _ _ (by omega) (by omega) y2
  · rw [if_neg (by omega)]
    by_cases j2 : j' < e
    · rw [if_pos (by omega), if_neg (by omega)]
      exact hl _ _ (by omega) (by omega) (by omega)
    · rw [if_neg (by omega)]
      exact hc _ _ (by omega) (by omega) (by omega) y2
/-- The four parts behind the rotation are in order. -/
theorem Rot.parts {s mid e : Nat} (h : Rot s m e f g) (has : a ≤ s) (hsm : s ≤ m) (hme : m ≤ e) (heb : e ≤ b) (hmid : mid = s + (e - m)) (hl : Srt key a m f) (hh : Srt key m b f) :
    Srt key a s g ∧ Srt key s mid g ∧ Srt key mid e g ∧ Srt key e b g := by
  refine ⟨fun i j h1 h2 h3 => ?_, fun i j h1 h2 h3 => ?_, fun i j h1 h2 h3 => ?_, fun i j h1 h2 h3 => ?_⟩
  · rw [h i, h j, if_neg (by omega), if_neg (by omega)]; exact hl i j h1 h2 (by omega)
  · rw [h i, h j, if_pos (by omega), if_pos (by omega), if_pos (by omega), if_pos (by omega)]; exact hh _ _ (by omega) (by omega) (by omega)
  · rw [h i, h j, if_pos (by omega), if_neg (by omega), if_pos (by omega), if_neg (by omega)]; exact hl _ _ (by omega) (by omega) (by omega)
  · rw [h i, h j, if_neg (by omega), if_neg (by omega)]; exact hh i j (by omega) h2 h3

/-- Two ranges of one length that change places, in part. -/
def Swr (a b t : Nat) (f g : Nat → Int) : Prop := ∀ k, g k = if a ≤ k ∧ k < a + t then f (k + (b - a)) else if b ≤ k ∧ k < b + t then f (k - (b - a)) else f k
theorem Swr.zero (a b : Nat) (f : Nat → Int) : Swr a b 0 f f := by intro k; rw [if_neg (by omega), if_neg (by omega)]
theorem Swr.step {t : Nat} (h : Swr a b t f g) (hab : a + t + 1 ≤ b) : Swr a b (t + 1) f (swp g (a + t) (b + t)) := by
  intro k
  rw [swp_at]
  by_cases h1 : k = b + t
  · rw [if_pos h1, if_neg (by omega), if_pos (by omega), h (a + t), if_neg (by omega), if_neg (by omega)]
    congr 1; omega
  · rw [if_neg h1]
    by_cases h2 : k = a + t
    · rw [if_pos h2, if_pos (by omega), h (b + t), if_neg (by omega), if_neg (by omega)]
      congr 1; omega
    · rw [if_neg h2, h k]
      by_cases h3 : a ≤ k ∧ k < a + t
      · rw [if_pos h3, if_pos (by omega)]
      · rw [if_neg h3, if_neg (c := a ≤ k ∧ k < a + (t + 1)) (by omega)]
        by_cases h4 : b ≤ k ∧ k < b + t
        · rw [if_pos h4, if_pos (by omega)]
        · rw [if_neg h4, if_neg (by omega)]
/-- A rotation by way of such changes: what is left to rotate, and what is reached then. -/
theorem rot_more {i j : Nat} {f0 f1 r : Nat → Int} (hi : i ≤ m) (hj : 0 < j) (hij : j < i) (hr : Rot (m - i) m (m + j) f0 r) (hs : Swr (m - i) m j f0 f1) : Rot (m - (i - j)) m (m + j) f1 r := by
  intro k
  rw [hr k]
  by_cases h1 : m - i ≤ k ∧ k < m + j
  · rw [if_pos h1]
    by_cases h2 : k < m - i + j
    · rw [if_pos (by omega), if_neg (by omega), hs k, if_pos (by omega)]
    · rw [if_neg (by omega), if_pos (by omega)]
      by_cases h3 : k < m - (i - j) + j
      · rw [if_pos (by omega), hs, if_neg (by omega), if_pos (by omega)]
        congr 1; omega
      · rw [if_neg (by omega), hs, if_neg (by omega), if_neg (by omega)]
  · rw [if_neg h1, if_neg (by omega), hs k, if_neg (by omega), if_neg (by omega)]
theorem rot_less {i j : Nat} {f0 f1 r : Nat → Int} (hi : i ≤ m) (hi0 : 0 < i) (hij : i < j) (hr : Rot (m - i) m (m + j) f0 r) (hs : Swr (m - i) (m + j - i) i f0 f1) : Rot (m - i) m (m + (j - i)) f1 r := by
  intro k
  rw [hr k]
  by_cases h1 : m - i ≤ k ∧ k < m + j
  · rw [if_pos h1]
    by_cases h2 : k < m + (j - i)
    · rw [if_pos (by omega), if_pos (by omega)]
      by_cases h3 : k < m - i + (j - i)
      · rw [if_pos (by omega), hs, if_neg (by omega), if_neg (by omega)]
      · rw [if_neg (by omega), hs, if_pos (by omega)]
        congr 1; omega
    · rw [if_neg (by omega), if_neg (by omega), hs k, if_neg (by omega), if_pos (by omega)]
      congr 1; omega
  · rw [if_neg h1, if_neg (by omega), hs k, if_neg (by omega), if_neg (by omega)]
theorem rot_even {i : Nat} {f0 f1 : Nat → Int} (hi : i ≤ m) (hs : Swr (m - i) m i f0 f1) : Rot (m - i) m (m + i) f0 f1 := by
  intro k
  rw [hs k]
  by_cases h1 : m - i ≤ k ∧ k < m + i
  · rw [if_pos h1]
    by_cases h2 : k < m - i + i
    · rw [if_pos (by omega), if_pos (by omega)]
    · rw [if_neg (by omega), if_pos (by omega), if_neg (by omega)]
      congr 1; omega
  · rw [if_neg h1, if_neg (by omega), if_neg (by omega)]
/-- One that goes up, step by step; and one that goes down. -/
theorem Rot.up {k : Nat} (h : Rot a (a + 1) (k + 1) f g) (hk : a ≤ k) : Rot a (a + 1) (k + 2) f (swp g k (k + 1)) := by
  intro t
  rw [swp_at]
  by_cases h1 : t = k + 1
  · rw [if_pos h1, if_pos (by omega), if_neg (by omega), h k, if_pos (by omega), if_neg (by omega)]
    congr 1; omega
  · rw [if_neg h1]
    by_cases h2 : t = k
    · rw [if_pos h2, if_pos (by omega), if_pos (by omega), h (k + 1), if_neg (by omega)]
      congr 1; omega
    · rw [if_neg h2, h t]
      by_cases h3 : a ≤ t ∧ t < k
      · rw [if_pos (by omega), if_pos (by omega), if_pos (by omega), if_pos (by omega)]
      · rw [if_neg (by omega), if_neg (by omega)]
theorem Rot.down {k : Nat} (h : Rot (k + 1) m (m + 1) f g) (hk : k + 1 ≤ m) : Rot k m (m + 1) f (swp g (k + 1) k) := by
  intro t
  rw [swp_at]
  by_cases h1 : t = k
  · rw [if_pos h1, if_pos (by omega), if_pos (by omega), h (k + 1), if_pos (by omega), if_pos (by omega)]
    congr 1; omega
  · rw [if_neg h1]
    by_cases h2 : t = k + 1
    · rw [if_pos h2, if_pos (by omega), if_neg (by omega), h k, if_neg (by omega)]
      congr 1; omega
    · rw [if_neg h2, h t]
      by_cases h3 : k + 1 < t ∧ t < m + 1
      · rw [if_pos (by omega), if_neg (by omega), if_pos (by omega), if_neg (by omega)]
      · rw [if_neg (by omega), if_neg (by omega)]

/-- Behind the sort: in order, of like ones the lesser first, and the same ones. -/
theorem sorted_list {l : List Int} {g : Nat → Int} (hl : l.Pairwise (· < ·)) (hloc : Loc key l.length 0 l.length (fun k => l.getD k 0) g) (hs : Srt key 0 l.length g) :
    (lst l.length g).Pairwise (fun x y => key x < key y ∨ key x = key y ∧ x < y) ∧ (∀ x, x ∈ lst l.length g ↔ x ∈ l) ∧ (lst l.length g).length = l.length := by
  have hst : Stb key l.length g := hloc.2.2.2 (by
    intro i j hij hj _
    have hp := List.pairwise_iff_getElem.1 hl i j (by omega) hj hij
    simp only [List.getD_eq_getElem?_getD, List.getElem?_eq_getElem hj, List.getElem?_eq_getElem (Nat.lt_trans hij hj), Option.getD_some]
    exact hp)
  refine ⟨?_, fun x => ?_, lst_length _ _⟩
  · rw [List.pairwise_iff_getElem]
    intro i j hi hj hij
    rw [lst_length] at hi hj
    have e1 : (lst l.length g)[i] = g i := by simp [lst]
    have e2 : (lst l.length g)[j] = g j := by simp [lst]
    rw [e1, e2]
    have h1 := hs i j (Nat.zero_le _) hij hj
    have h2 := hst i j hij hj
    omega
  · rw [lst_mem]
    conv => rhs; rw [lst_of l, lst_mem]
    constructor
    · rintro ⟨k, hk, rfl⟩
      obtain ⟨m, _, hm, e⟩ := hloc.2.1 k (Nat.zero_le _) hk
      exact ⟨m, hm, e.symm⟩
    · rintro ⟨k, hk, rfl⟩
      obtain ⟨m, _, hm, e⟩ := hloc.2.2.1 k (Nat.zero_le _) hk
      exact ⟨m, hm, e.symm⟩
end
end Go.Proofs.Ytogijfebfffobaa

namespace Go.Proofs.Ytogijfebfffobaa
open Go.RowKit

/-- A row of whole numbers in a block, by its places. -/
def Arr (w : World) (base g c n : Nat) (f : Nat → Int) : Prop := AccI w base (some ⟨g, 0, none⟩) c (lst n f)
section
variable {w : World} {base g c n : Nat} {f : Nat → Int}
theorem Arr.cell (h : Arr w base g c n f) (i : Nat) (hi : i < n) : w.cell? ⟨g, i, none⟩ = some (.int .i64 (f i)) := by
  have := World.ownsRow.cellAt h i (by rw [lst_length]; omega)
  rw [this, ei_flat, List.getElem?_map, lst_get _ _ _ hi]; rfl
theorem Arr.free (h : Arr w base g c n f) (i : Nat) : w.frozen? ⟨g, i, none⟩ = false := World.ownsRow.frozenAt h i
theorem Arr.set (h : Arr w base g c n f) (i : Nat) (x : Int) : Arr (w.setCell ⟨g, i, none⟩ (.int .i64 x)) base g c n (upd f i x) ∧ w.grownBy (w.setCell ⟨g, i, none⟩ (.int .i64 x)) (some g) := by
  have := World.ownsRow.stored h i (.int .i64 x)
  refine ⟨?_, this.2⟩
  have t1 := this.1
  unfold Arr AccI AccR
  rw [ei_flat] at t1
  rw [ei_flat, ← lst_set, List.length_set, List.map_set]
  exact t1
theorem Arr.swap (h : Arr w base g c n f) (p q : Nat) : Arr ((w.setCell ⟨g, p, none⟩ (.int .i64 (f q))).setCell ⟨g, q, none⟩ (.int .i64 (f p))) base g c n (swp f p q) ∧ w.grownBy ((w.setCell ⟨g, p, none⟩ (.int .i64 (f q))).setCell ⟨g, q, none⟩ (.int .i64 (f p))) (some g) := by
  have h1 := h.set p (f q)
  have h2 := h1.1.set q (f p)
  exact ⟨h2.1, h1.2.trans h2.2⟩
theorem Arr.lt (h : Arr w base g c n f) : g < w.heap.size := (AccR.ge h rfl).2
theorem Arr.drewN (h : Arr w base g c n f) (m : Nat) : Arr (w.drewN m) base g c n f := h
end

theorem gb_drew {w w' : World} {r : Option Nat} (h : w.grownBy w' r) : w.grownBy w'.drew r := ⟨h.os, h.tape, h.output, h.size, h.block⟩

def SwPost (w : World) (base g c n a b k : Nat) (f : Nat → Int) (e : Ending) (w' : World) : Prop :=
  e = .returned (.tuple #[]) ∧ ∃ f', Arr w' base g c n f' ∧ Swr a b k f f' ∧ w.grownBy w' (some g)

def RotPost (w : World) (base g c n a m b : Nat) (f : Nat → Int) (e : Ending) (w' : World) : Prop :=
  e = .returned (.tuple #[]) ∧ ∃ f', Arr w' base g c n f' ∧ Rot a m b f f' ∧ w.grownBy w' (some g)

end Go.Proofs.Ytogijfebfffobaa

namespace Go.Proofs.Ytogijfebfffobaa
open Go.RowKit

theorem swp_comm (f : Nat → Int) (p q : Nat) : swp f p q = swp f q p := by
  funext k
  rw [swp_at, swp_at]
  by_cases h1 : k = q
  · subst h1
    by_cases h2 : k = p
    · subst h2; rfl
    · rw [if_pos rfl, if_neg h2, if_pos rfl]
  · rw [if_neg h1, if_neg h1]
/-- A function value that compares numbers by a key, while memory is such. -/
structure Cmp (P : Program) (S : World → Prop) (D : Int → Prop) (key : Int → Int) (F : FuncId) (held : Array Value) : Prop where
  enter : ∀ (args : Array Value) (w : World), (callFunc F args).run P w = .ok (.enter F args) w
  gives : ∀ (W : World) (x y : Int), S W → D x → D y → Calls P F (#[.int .i64 x, .int .i64 y] ++ held) W (fun e w' => e = .returned (.int .i64 (cmpI (key x) (key y))) ∧ ∃ m, w' = W.drewN m)
theorem cmpI_lt (x y : Int) : decide (cmpI x y < 0) = decide (x < y) := by
  unfold cmpI
  split
  · simp [*]
  · split <;> simp [*] <;> omega
/-- All that lie in the row may be asked for. -/
def Dom (D : Int → Prop) (n : Nat) (f : Nat → Int) : Prop := ∀ i, i < n → D (f i)
theorem Dom.loc {D : Int → Prop} {n a b : Nat} {key : Int → Int} {f f' : Nat → Int} (h : Dom D n f) (hl : Loc key n a b f f') (hb : b ≤ n) : Dom D n f' := by
  intro i hi
  by_cases h1 : a ≤ i ∧ i < b
  · obtain ⟨m, _, h3, e⟩ := hl.2.1 i h1.1 h1.2
    rw [e]; exact h m (by omega)
  · rw [hl.1 i (by omega)]; exact h i hi

/-- An operation behind a guard that does not hold is not carried out. -/
theorem seq_unmake {P : Program} {ops : Array Oper} {Q : Exit → Act → World → Prop} {S : World → Prop} {i : Nat} {r : List (Nat × Bool)} {a : Act} {w : World} {o : Oper} (ho : ops.toList[i]? = some o) (hw : Region.wanted o (yielded ops a.tmps) = false) (hS : S w)
    (h : wpSeq P ops Q S r (a.put o.dst undef) w) : wpSeq P ops Q S ((i, false) :: r) a w := by
  refine wpOp_step (o := o) (by rw [← Array.getElem?_toList]; exact ho) (fun K hK => ?_)
  rw [if_neg (by rw [hw]; exact Bool.false_ne_true)]
  exact hK _ _ ⟨S, fun _ h => h, hS, h⟩

/-- What a part of the sort leaves: only places from a to b have turned, and they are in order. -/
def SrtPost (key : Int → Int) (w : World) (base g c n a b : Nat) (f : Nat → Int) (e : Ending) (w' : World) : Prop :=
  e = .returned (.tuple #[]) ∧ ∃ f', Arr w' base g c n f' ∧ Loc key n a b f f' ∧ Srt key a b f' ∧ w.grownBy w' (some g)

section
variable {S : World → Prop} {D : Int → Prop} {key : Int → Int} {F : FuncId} {held : Array Value}
theorem gb_drewN {w w' : World} {r : Option Nat} (h : w.grownBy w' r) (m : Nat) : w.grownBy (w'.drewN m) r := ⟨h.os, h.tape, h.output, h.size, h.block⟩

end
end Go.Proofs.Ytogijfebfffobaa
