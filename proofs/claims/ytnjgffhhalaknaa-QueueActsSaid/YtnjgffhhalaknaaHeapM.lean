/-
  A heap, plain: over numbered places, what going up and going down leave of its order, and that the first place is least. No condition.
-/
import Derived.Test.YtnjgffhhalaknaaMem
namespace Go.Proofs.Ytnjgffhhalaknaa

section
variable {α : Type}
/-- Two places change. -/
def hsw (f : Nat → α) (p q : Nat) : Nat → α := fun k => if k = q then f p else if k = p then f q else f k
/-- The places as a list. -/
def hls (n : Nat) (f : Nat → α) : List α := (List.range n).map f
theorem hls_length (n : Nat) (f : Nat → α) : (hls n f).length = n := by simp [hls]
theorem hls_get (n : Nat) (f : Nat → α) (i : Nat) (h : i < n) : (hls n f)[i]? = some (f i) := by simp [hls, h]
theorem hls_get' (n : Nat) (f : Nat → α) (i : Nat) (h : i < (hls n f).length) : (hls n f)[i] = f i := by simp [hls]
theorem hls_snoc (n : Nat) (f : Nat → α) : hls (n + 1) f = hls n f ++ [f n] := by simp [hls, List.range_succ]
theorem hls_congr {n : Nat} {f g : Nat → α} (h : ∀ k, k < n → f k = g k) : hls n f = hls n g := by
  unfold hls
  exact List.map_congr_left (fun k hk => h k (by simpa using hk))
theorem hsw_left (f : Nat → α) (p q : Nat) : hsw f p q p = f q := by
  unfold hsw
  by_cases h : p = q
  · subst h; simp
  · simp [h]
theorem hsw_right (f : Nat → α) (p q : Nat) : hsw f p q q = f p := by simp [hsw]
theorem hsw_else (f : Nat → α) {p q k : Nat} (h1 : k ≠ p) (h2 : k ≠ q) : hsw f p q k = f k := by simp [hsw, h1, h2]
theorem hsw_self (f : Nat → α) (p : Nat) : hsw f p p = f := by
  funext k
  unfold hsw
  by_cases h : k = p
  · subst h; simp
  · simp [h]
theorem hls_swap (n : Nat) (f : Nat → α) (p q : Nat) (hp : p < n) (hq : q < n) : hls n (hsw f p q) = ((hls n f).set p (f q)).set q (f p) := by
  apply List.ext_getElem?
  intro k
  rcases Nat.lt_or_ge k n with hk | hk
  · rw [hls_get _ _ _ hk, List.getElem?_set, List.getElem?_set]
    simp only [List.length_set, hls_length]
    unfold hsw
    by_cases h1 : q = k
    · subst h1; simp [hq]
    · rw [if_neg (fun e => h1 e.symm), if_neg h1]
      by_cases h2 : p = k
      · subst h2; simp [hp]
      · rw [if_neg (fun e => h2 e.symm), if_neg h2, hls_get _ _ _ hk]
  · rw [List.getElem?_eq_none (by rw [hls_length]; exact hk), List.getElem?_eq_none (by simp [hls_length]; exact hk)]
theorem hls_perm (n : Nat) (f : Nat → α) (p q : Nat) (hp : p < n) (hq : q < n) : (hls n (hsw f p q)).Perm (hls n f) := by
  rw [hls_swap n f p q hp hq]
  have h := @List.set_set_perm _ (hls n f) p q (by rw [hls_length]; exact hp) (by rw [hls_length]; exact hq)
  rwa [hls_get', hls_get'] at h
end

/-- What stands above a place. -/
def par (k : Nat) : Nat := (k - 1) / 2
theorem par_lt {k : Nat} (h : 0 < k) : par k < k := by unfold par; omega
theorem par_iff {k i : Nat} (h : 0 < k) : par k = i ↔ k = 2 * i + 1 ∨ k = 2 * i + 2 := by unfold par; omega

section
variable {α : Type} (le : α → α → Prop)
/-- What stands above comes first. -/
def Hp (n : Nat) (f : Nat → α) : Prop := ∀ k, 0 < k → k < n → le (f (par k)) (f k)
/-- A heap but for one place, which may have to go up. -/
def HUp (n : Nat) (f : Nat → α) (j : Nat) : Prop :=
  (∀ k, 0 < k → k < n → k ≠ j → le (f (par k)) (f k)) ∧ (∀ k, 0 < k → k < n → par k = j → 0 < j → le (f (par j)) (f k))
/-- A heap but for one place, which may have to go down. -/
def HDn (n : Nat) (f : Nat → α) (i : Nat) : Prop :=
  (∀ k, 0 < k → k < n → par k ≠ i → le (f (par k)) (f k)) ∧ (∀ k, 0 < k → k < n → par k = i → 0 < i → le (f (par i)) (f k))
end
section
variable {α : Type} {le : α → α → Prop} {n i j : Nat} {f : Nat → α}
theorem up_start (h : Hp le n f) : HUp le (n + 1) f n :=
  ⟨fun k h0 h1 h2 => h k h0 (by omega), fun k h0 h1 h2 _ => by have := par_lt h0; omega⟩
theorem up_stop (h : HUp le n f j) (hs : j = 0 ∨ le (f (par j)) (f j)) : Hp le n f := fun k h0 h1 => by
  by_cases hk : k = j
  · subst hk
    rcases hs with hs | hs
    · omega
    · exact hs
  · exact h.1 k h0 h1 hk
theorem up_step (tr : ∀ a b c, le a b → le b c → le a c) (h : HUp le n f j) (h0 : 0 < j) (hn : j < n) (hl : le (f j) (f (par j))) : HUp le n (hsw f (par j) j) (par j) := by
  have hij := par_lt h0
  generalize hi : par j = i at *
  refine ⟨fun k k0 kn ki => ?_, fun k k0 kn kp i0 => ?_⟩
  · have hpk := par_lt k0
    by_cases hkj : k = j
    · subst hkj
      rw [hi, hsw_left, hsw_right]
      exact hl
    · rw [hsw_else f ki hkj]
      by_cases p1 : par k = j
      · rw [p1, hsw_right]
        have := h.2 k k0 kn p1 h0
        rwa [hi] at this
      · by_cases p2 : par k = i
        · rw [p2, hsw_left]
          have := h.1 k k0 kn hkj
          rw [p2] at this
          exact tr _ _ _ hl this
        · rw [hsw_else f p2 p1]
          exact h.1 k k0 kn hkj
  · have hpi := par_lt i0
    have hpk := par_lt k0
    rw [hsw_else f (by omega) (by omega)]
    have h3 := h.1 i i0 (by omega) (by omega)
    by_cases hkj : k = j
    · subst hkj
      rw [hsw_right]
      exact h3
    · rw [hsw_else f (by omega) hkj]
      have h4 := h.1 k k0 kn hkj
      rw [kp] at h4
      exact tr _ _ _ h3 h4
theorem down_start (h : Hp le (n + 1) f) : HDn le n (hsw f 0 n) 0 := by
  refine ⟨fun k k0 kn kp => ?_, fun k k0 kn kp i0 => by omega⟩
  have hpk := par_lt k0
  rw [hsw_else f (by omega) (by omega), hsw_else f (by omega) (by omega)]
  exact h k k0 (by omega)
theorem down_stop (h : HDn le n f i) (hs : ∀ k, 0 < k → k < n → par k = i → le (f i) (f k)) : Hp le n f := fun k k0 kn => by
  by_cases hp : par k = i
  · rw [hp]; exact hs k k0 kn hp
  · exact h.1 k k0 kn hp
theorem down_step (h : HDn le n f i) (j0 : 0 < j) (jn : j < n) (hj : par j = i) (hl : le (f j) (f i)) (hs : ∀ k, 0 < k → k < n → par k = i → le (f j) (f k)) : HDn le n (hsw f i j) j := by
  have hij := par_lt j0
  rw [hj] at hij
  refine ⟨fun k k0 kn kp => ?_, fun k k0 kn kp _ => ?_⟩
  · have hpk := par_lt k0
    by_cases h1 : k = j
    · subst h1
      rw [hj, hsw_left, hsw_right]
      exact hl
    · by_cases h2 : k = i
      · subst h2
        rw [hsw_left, hsw_else f (by omega) (by omega)]
        exact h.2 j j0 jn hj k0
      · rw [hsw_else f h2 h1]
        by_cases h3 : par k = i
        · rw [h3, hsw_left]
          exact hs k k0 kn h3
        · rw [hsw_else f h3 kp]
          exact h.1 k k0 kn h3
  · have hpk := par_lt k0
    rw [hj, hsw_left, hsw_else f (by omega) (by omega)]
    have := h.1 k k0 kn (by omega)
    rwa [kp] at this
theorem heap_least (rf : ∀ a, le a a) (tr : ∀ a b c, le a b → le b c → le a c) (h : Hp le n f) : ∀ k, k < n → le (f 0) (f k) := by
  intro k
  induction k using Nat.strongRecOn with
  | ind k ih =>
    intro hk
    rcases Nat.eq_zero_or_pos k with h0 | h0
    · subst h0; exact rf _
    · have hp := par_lt h0
      exact tr _ _ _ (ih _ hp (by omega)) (h k h0 hk)
end

/-- An item of a queue. -/
structure Itm where
  cost : Int
  hops : Int
  node : Int
deriving DecidableEq
/-- Which of two items is less. -/
def iLt (a b : Itm) : Prop := a.cost < b.cost ∨ (a.cost = b.cost ∧ (a.hops < b.hops ∨ (a.hops = b.hops ∧ a.node < b.node)))
instance (a b : Itm) : Decidable (iLt a b) := by unfold iLt; infer_instance
/-- Less, or like. -/
def iLe (a b : Itm) : Prop := ¬ iLt b a
theorem iLe_refl (a : Itm) : iLe a a := by unfold iLe iLt; omega
theorem iLe_trans (a b c : Itm) (h : iLe a b) (h' : iLe b c) : iLe a c := by unfold iLe iLt at *; omega
theorem iLe_total (a b : Itm) : iLe a b ∨ iLe b a := by unfold iLe iLt; omega
theorem iLe_of_lt {a b : Itm} (h : iLt a b) : iLe a b := by unfold iLe; unfold iLt at *; omega
theorem iLe_antisymm {a b : Itm} (h : iLe a b) (h' : iLe b a) : a = b := by
  cases a; cases b
  simp only [iLe, iLt] at h h'
  simp only [Itm.mk.injEq]
  omega
/-- Of items that are the same in all, the least is one item alone. -/
theorem least_unique {l l' : List Itm} {a b : Itm} (hp : l.Perm l') (ha : a ∈ l) (hb : b ∈ l') (la : ∀ x ∈ l, iLe a x) (lb : ∀ x ∈ l', iLe b x) : a = b :=
  iLe_antisymm (la b (hp.mem_iff.2 hb)) (lb a (hp.mem_iff.1 ha))
end Go.Proofs.Ytnjgffhhalaknaa
