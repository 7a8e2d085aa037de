/-
  A heap, plain: over numbered places, what going up and going down leave of its order, and that the first place is least. No condition.
  A queue of items, plain: the document's list in order, what a heap holds beside it, and what is left when the least goes. No condition.
  Items of a list that are struck out one by one, plain. No condition.
-/
import Derived.Test.YtkagfgnjfdlicaaMem
namespace Go.Proofs.Ytkagfgnjfdlicaa

section
variable {α : Type}
/-- Two places change. -/
def hsw (f : Nat → α) (p q : Nat) : Nat → α := fun k => if k = q then f p else if k = p then f q else f k
/-- The places as a list. -/
def hls (n : Nat) (f : Nat → α) : List α := (List.range n).map f
theorem hls_length (n : Nat) (f : Nat → α) : (hls n f).length = n := by simp [hls]
theorem hls_get (n : Nat) (f : Nat → α) (i : Nat) (h : i < n) : (hls n f)[i]? = some (f i) := by simp [hls, h]
theorem hls_get' (n : Nat) (f : Nat → α) (i : Nat) (h : i < (hls n f).length) : (hls n f)[i] = f i := by simp [hls]
theorem hls_snoc (n : Nat) (f : Nat → α) : hls (n + 1) f = hls n f ++ [f n] := by simp [hls, List.range_succ]
theorem hls_congr {n : Nat} {f g : Nat → α} (h : ∀ k, k < n → f k = g k) : hls n f = hls n g := by
  unfold hls
  exact List.map_congr_left (fun k hk => h k (by simpa using hk))
theorem hsw_left (f : Nat → α) (p q : Nat) : hsw f p q p = f q := by
  unfold hsw
  by_cases h : p = q
  · subst h; simp
  · simp [h]
theorem hsw_right (f : Nat → α) (p q : Nat) : hsw f p q q = f p := by simp [hsw]
theorem hsw_else (f : Nat → α) {p q k : Nat} (h1 : k ≠ p) (h2 : k ≠ q) : hsw f p q k = f k := by simp [hsw, h1, h2]
theorem hsw_self (f : Nat → α) (p : Nat) : hsw f p p = f := by
  funext k
  unfold hsw
  by_cases h : k = p
  · subst h; simp
  · simp [h]
theorem hls_swap (n : Nat) (f : Nat → α) (p q : Nat) (hp : p < n) (hq : q < n) : hls n (hsw f p q) = ((hls n f).set p (f q)).set q (f p) := by
  apply List.ext_getElem?
  intro k
  rcases Nat.lt_or_ge k n with hk | hk
  · rw [hls_get _ _ _ hk, List.getElem?_set, List.getElem?_set]
    simp only [List.length_set, hls_length]
    unfold hsw
    by_cases h1 : q = k
    · subst h1; simp [hq]
    · rw [if_neg (fun e => h1 e.symm), if_neg h1]
      by_cases h2 : p = k
      · subst h2; simp [hp]
      · rw [if_neg (fun e => h2 e.symm), if_neg h2, hls_get _ _ _ hk]
  · rw [List.getElem?_eq_none (by rw [hls_length]; exact hk), List.getElem?_eq_none (by simp [hls_length]; exact hk)]
theorem hls_perm (n : Nat) (f : Nat → α) (p q : Nat) (hp : p < n) (hq : q < n) : (hls n (hsw f p q)).Perm (hls n f) := by
  rw [hls_swap n f p q hp hq]
  have h := @List.set_set_perm _ (hls n f) p q (by rw [hls_length]; exact hp) (by rw [hls_length]; exact hq)
  rwa [hls_get', hls_get'] at h
end

/-- What stands above a place. -/
def par (k : Nat) : Nat := (k - 1) / 2
theorem par_lt {k : Nat} (h : 0 < k) : par k < k := by unfold par; omega
theorem par_iff {k i : Nat} (h : 0 < k) : par k = i ↔ k = 2 * i + 1 ∨ k = 2 * i + 2 := by unfold par; omega

section
variable {α : Type} (le : α → α → Prop)
/-- What stands above comes first. -/
def Hp (n : Nat) (f : Nat → α) : Prop := ∀ k, 0 < k → k < n → le (f (par k)) (f k)
/-- A heap but for one place, which may have to go up. -/
def HUp (n : Nat) (f : Nat → α) (j : Nat) : Prop :=
  (∀ k, 0 < k → k < n → k ≠ j → le (f (par k)) (f k)) ∧ (∀ k, 0 < k → k < n → par k = j → 0 < j → le (f (par j)) (f k))
/-- A heap but for one place, which may have to go down. -/
def HDn (n : Nat) (f : Nat → α) (i : Nat) : Prop :=
  (∀ k, 0 < k → k < n → par k ≠ i → le (f (par k)) (f k)) ∧ (∀ k, 0 < k → k < n → par k = i → 0 < i → le (f (par i)) (f k))
end
section
variable {α : Type} {le : α → α → Prop} {n i j : Nat} {f : Nat → α}
theorem up_start (h : Hp le n f) : HUp le (n + 1) f n :=
  ⟨fun k h0 h1 h2 => h k h0 (by omega), fun k h0 h1 h2 _ => by have := par_lt h0; omega⟩
theorem up_stop (h : HUp le n f j) (hs : j = 0 ∨ le (f (par j)) (f j)) : Hp le n f := fun k h0 h1 => by
  by_cases hk : k = j
  · subst hk
    rcases hs with hs | hs
    · omega
    · exact hs
  · exact h.1 k h0 h1 hk
theorem up_step (tr : ∀ a b c, le a b → le b c → le a c) (h : HUp le n f j) (h0 : 0 < j) (hn : j < n) (hl : le (f j) (f (par j))) : HUp le n (hsw f (par j) j) (par j) := by
  have hij := par_lt h0
  generalize hi : par j = i at *
  refine ⟨fun k k0 kn ki => ?_, fun k k0 kn kp i0 => ?_⟩
  · have hpk := par_lt k0
    by_cases hkj : k = j
    · subst hkj
      rw [hi, hsw_left, hsw_right]
      exact hl
    · rw [hsw_else f ki hkj]
      by_cases p1 : par k = j
      · rw [p1, hsw_right]
        have := h.2 k k0 kn p1 h0
        rwa [hi] at this
      · by_cases p2 : par k = i
        · rw [p2, hsw_left]
          have := h.1 k k0 kn hkj
          rw [p2] at this
          exact tr _ _ _ hl this
        · rw [hsw_else f p2 p1]
          exact h.1 k k0 kn hkj
  · have hpi := par_lt i0
    have hpk := par_lt k0
    rw [hsw_else f (by omega) (by omega)]
    have h3 := h.1 i i0 (by omega) (by omega)
    by_cases hkj : k = j
    · subst hkj
      rw [hsw_right]
      exact h3
    · rw [hsw_else f (by omega) hkj]
      have h4 := h.1 k k0 kn hkj
      rw [kp] at h4
      exact tr _ _ _ h3 h4
theorem down_start (h : Hp le (n + 1) f) : HDn le n (hsw f 0 n) 0 := by
  refine ⟨fun k k0 kn kp => ?_, fun k k0 kn kp i0 => by omega⟩
  have hpk := par_lt k0
  rw [hsw_else f (by omega) (by omega), hsw_else f (by omega) (by omega)]
  exact h k k0 (by omega)
theorem down_stop (h : HDn le n f i) (hs : ∀ k, 0 < k → k < n → par k = i → le (f i) (f k)) : Hp le n f := fun k k0 kn => by
  by_cases hp : par k = i
  · rw [hp]; exact hs k k0 kn hp
  · exact h.1 k k0 kn hp
theorem down_step (h : HDn le n f i) (j0 : 0 < j) (jn : j < n) (hj : par j = i) (hl : le (f j) (f i)) (hs : ∀ k, 0 < k → k < n → par k = i → le (f j) (f k)) : HDn le n (hsw f i j) j := by
  have hij := par_lt j0
  rw [hj] at hij
  refine ⟨fun k k0 kn kp => ?_, fun k k0 kn kp _ => ?_⟩
  · have hpk := par_lt k0
    by_cases h1 : k = j
    · subst h1
      rw [hj, hsw_left, hsw_right]
      exact hl
    · by_cases h2 : k = i
      · subst h2
        rw [hsw_left, hsw_else f (by omega) (by omega)]
        exact h.2 j j0 jn hj k0
      · rw [hsw_else f h2 h1]
        by_cases h3 : par k = i
        · rw [h3, hsw_left]
          exact hs k k0 kn h3
        · rw [hsw_else f h3 kp]
          exact h.1 k k0 kn h3
  · have hpk := par_lt k0
    rw [hj, hsw_left, hsw_else f (by omega) (by omega)]
    have := h.1 k k0 kn (by omega)
    rwa [kp] at this
theorem heap_least (rf : ∀ a, le a a) (tr : ∀ a b c, le a b → le b c → le a c) (h : Hp le n f) : ∀ k, k < n → le (f 0) (f k) := by
  intro k
  induction k using Nat.strongRecOn with
  | ind k ih =>
    intro hk
    rcases Nat.eq_zero_or_pos k with h0 | h0
    · subst h0; exact rf _
    · have hp := par_lt h0
      exact tr _ _ _ (ih _ hp (by omega)) (h k h0 hk)
end

/-- An item of a queue. -/
structure Itm where
  cost : Int
  hops : Int
  node : Int
deriving DecidableEq
/-- Which of two items is less. -/
def iLt (a b : Itm) : Prop := a.cost < b.cost ∨ (a.cost = b.cost ∧ (a.hops < b.hops ∨ (a.hops = b.hops ∧ a.node < b.node)))
instance (a b : Itm) : Decidable (iLt a b) := by unfold iLt; infer_instance
/-- Less, or like. -/
def iLe (a b : Itm) : Prop := ¬ iLt b a
theorem iLe_refl (a : Itm) : iLe a a := by unfold iLe iLt; omega
theorem iLe_trans (a b c : Itm) (h : iLe a b) (h' : iLe b c) : iLe a c := by unfold iLe iLt at *; omega
theorem iLe_total (a b : Itm) : iLe a b ∨ iLe b a := by unfold iLe iLt; omega
theorem iLe_of_lt {a b : Itm} (h : iLt a b) : iLe a b := by unfold iLe; unfold iLt at *; omega
theorem iLe_antisymm {a b : Itm} (h : iLe a b) (h' : iLe b a) : a = b := by
  cases a; cases b
  simp only [iLe, iLt] at h h'
  simp only [Itm.mk.injEq]
  omega
/-- Of items that are the same in all, the least is one item alone. -/
theorem least_unique {l l' : List Itm} {a b : Itm} (hp : l.Perm l') (ha : a ∈ l) (hb : b ∈ l') (la : ∀ x ∈ l, iLe a x) (lb : ∀ x ∈ l', iLe b x) : a = b :=
  iLe_antisymm (la b (hp.mem_iff.2 hb)) (lb a (hp.mem_iff.1 ha))
end Go.Proofs.Ytkagfgnjfdlicaa

namespace Go.Proofs.Ytkagfgnjfdlicaa

/-- One item more, behind all that it is not less than. -/
def insQ (x : Itm) : List Itm → List Itm
  | [] => [x]
  | y :: r => if iLt x y then x :: y :: r else y :: insQ x r
theorem insQ_perm (x : Itm) : ∀ l, (insQ x l).Perm (x :: l)
  | [] => List.Perm.refl _
  | y :: r => by
    unfold insQ
    split
    · exact List.Perm.refl _
    · exact ((insQ_perm x r).cons y).trans (List.Perm.swap x y r)
theorem insQ_length (x : Itm) (l : List Itm) : (insQ x l).length = l.length + 1 := by simpa using (insQ_perm x l).length_eq
theorem insQ_sorted (x : Itm) : ∀ l, l.Pairwise iLe → (insQ x l).Pairwise iLe
  | [], _ => by simp [insQ]
  | y :: r, h => by
    have h' := List.pairwise_cons.1 h
    unfold insQ
    split
    · rename_i hl
      refine List.pairwise_cons.2 ⟨fun z hz => ?_, h⟩
      rcases List.mem_cons.1 hz with rfl | hz
      · exact iLe_of_lt hl
      · exact iLe_trans _ _ _ (iLe_of_lt hl) (h'.1 z hz)
    · rename_i hl
      refine List.pairwise_cons.2 ⟨fun z hz => ?_, insQ_sorted x r h'.2⟩
      rcases List.mem_cons.1 ((insQ_perm x r).mem_iff.1 hz) with rfl | hz
      · exact hl
      · exact h'.1 z hz
/-- The place where the loop stops is where the item comes. -/
theorem insQ_cut (x : Itm) : ∀ (l : List Itm) (i : Nat), i ≤ l.length → (∀ k y, k < i → l[k]? = some y → ¬ iLt x y) → (∀ y, l[i]? = some y → iLt x y) → insQ x l = l.take i ++ x :: l.drop i
  | [], i, hi, _, _ => by
    have : i = 0 := by simpa using hi
    subst this
    simp [insQ]
  | y :: r, 0, _, _, h => by
    have := h y rfl
    simp [insQ, this]
  | y :: r, i + 1, hi, hb, h => by
    have h0 := hb 0 y (by omega) rfl
    have ih := insQ_cut x r i (by simpa using hi) (fun k z hk hz => hb (k + 1) z (by omega) (by simpa using hz)) (fun z hz => h z (by simpa using hz))
    simp [insQ, h0, ih]

/-- What a queue holds beside the document's list: the same items, as a heap. -/
structure QHp (n : Nat) (f : Nat → Itm) (l : List Itm) : Prop where
  heap : Hp iLe n f
  same : (hls n f).Perm l
  order : l.Pairwise iLe
theorem QHp.len {n : Nat} {f : Nat → Itm} {l : List Itm} (h : QHp n f l) : n = l.length := by simpa [hls_length] using h.same.length_eq
theorem qhp_nil (f : Nat → Itm) : QHp 0 f [] := ⟨fun k h0 h1 => by omega, by simp [hls], List.Pairwise.nil⟩
/-- The first place holds the least: the document's first one. -/
theorem QHp.head {n : Nat} {f : Nat → Itm} {a : Itm} {l : List Itm} (h : QHp (n + 1) f (a :: l)) : f 0 = a := by
  refine least_unique (l := hls (n + 1) f) (l' := a :: l) h.same ?_ (List.mem_cons_self ..) (fun x hx => ?_) (fun x hx => ?_)
  · exact List.mem_of_getElem? (hls_get (n + 1) f 0 (by omega))
  · obtain ⟨k, hk⟩ := List.getElem?_of_mem hx
    have hkn : k < n + 1 := by
      rcases Nat.lt_or_ge k (n + 1) with h1 | h1
      · exact h1
      · rw [List.getElem?_eq_none (by rw [hls_length]; exact h1)] at hk; simp at hk
    rw [hls_get _ _ _ hkn] at hk
    simp at hk
    subst hk
    exact heap_least iLe_refl iLe_trans h.heap k hkn
  · rcases List.mem_cons.1 hx with rfl | hx
    · exact iLe_refl _
    · exact (List.pairwise_cons.1 h.order).1 x hx
/-- When the least has gone to the end and is taken off, the others are left. -/
theorem QHp.rest {n : Nat} {f : Nat → Itm} {a : Itm} {l : List Itm} (h : QHp (n + 1) f (a :: l)) : (hls n (hsw f 0 n)).Perm l := by
  have h1 := hls_perm (n + 1) f 0 n (by omega) (by omega)
  rw [hls_snoc, hsw_right, h.head] at h1
  have h2 : (a :: hls n (hsw f 0 n)).Perm (a :: l) := (List.perm_append_comm (l₁ := [a])).trans (h1.trans h.same)
  exact h2.cons_inv
/-- One more. -/
theorem QHp.push {n : Nat} {f g : Nat → Itm} {x : Itm} {l : List Itm} (h : QHp n f l) (hx : f n = x) (hg : Hp iLe (n + 1) g) (hp : (hls (n + 1) g).Perm (hls (n + 1) f)) : QHp (n + 1) g (insQ x l) := by
  refine ⟨hg, hp.trans ?_, insQ_sorted x l h.order⟩
  rw [hls_snoc, hx]
  exact ((List.perm_append_comm (l₂ := [x])).trans (h.same.cons x)).trans (insQ_perm x l).symm
/-- The least goes. -/
theorem QHp.pop {n : Nat} {f g : Nat → Itm} {a : Itm} {l : List Itm} (h : QHp (n + 1) f (a :: l)) (hg : Hp iLe n g) (hp : (hls n g).Perm (hls n (hsw f 0 n))) : QHp n g l :=
  ⟨hg, hp.trans h.rest, (List.pairwise_cons.1 h.order).2⟩
end Go.Proofs.Ytkagfgnjfdlicaa

namespace Go.Proofs.Ytkagfgnjfdlicaa

/-- What is not yet struck out. -/
def rmn : List Itm → List Bool → List Itm
  | x :: l, b :: h => if b then rmn l h else x :: rmn l h
  | _, _ => []
theorem rmn_none : ∀ (l : List Itm), rmn l (List.replicate l.length false) = l
  | [] => by simp [rmn]
  | x :: l => by simp [rmn, List.replicate_succ, rmn_none l]
theorem rmn_mem (x : Itm) : ∀ (l : List Itm) (h : List Bool), x ∈ rmn l h → ∃ k : Nat, l[k]? = some x ∧ h[k]? = some false
  | [], _, hx => by simp [rmn] at hx
  | _ :: _, [], hx => by simp [rmn] at hx
  | y :: l, b :: h, hx => by
    unfold rmn at hx
    split at hx
    · obtain ⟨k, h1, h2⟩ := rmn_mem x l h hx
      exact ⟨k + 1, by simpa using h1, by simpa using h2⟩
    · rename_i hb
      rcases List.mem_cons.1 hx with rfl | hx
      · exact ⟨0, rfl, by simpa using hb⟩
      · obtain ⟨k, h1, h2⟩ := rmn_mem x l h hx
        exact ⟨k + 1, by simpa using h1, by simpa using h2⟩
theorem rmn_set (x : Itm) : ∀ (l : List Itm) (h : List Bool) (k : Nat), l[k]? = some x → h[k]? = some false → (x :: rmn l (h.set k true)).Perm (rmn l h)
  | [], _, _, h1, _ => by simp at h1
  | _ :: _, [], _, _, h2 => by simp at h2
  | y :: l, b :: h, 0, h1, h2 => by
    simp at h1 h2
    subst h1
    subst h2
    simp [rmn]
  | y :: l, b :: h, k + 1, h1, h2 => by
    have ih := rmn_set x l h k (by simpa using h1) (by simpa using h2)
    simp only [List.set_cons_succ, rmn]
    split
    · exact ih
    · exact (List.Perm.swap y x _).trans (ih.cons y)
/-- The least of the rest goes: what is struck out of the list is what went. -/
theorem rmn_pop {a : Itm} {q l : List Itm} {h : List Bool} {k : Nat} (hq : (a :: q).Perm (rmn l h)) (h1 : l[k]? = some a) (h2 : h[k]? = some false) : q.Perm (rmn l (h.set k true)) :=
  (hq.trans (rmn_set a l h k h1 h2).symm).cons_inv
theorem rmn_has {a : Itm} {q l : List Itm} {h : List Bool} (hq : (a :: q).Perm (rmn l h)) : ∃ k : Nat, l[k]? = some a ∧ h[k]? = some false :=
  rmn_mem a l h (hq.mem_iff.1 (List.mem_cons_self ..))

/-- The queue that pushes alone have filled. -/
def pushQ : List Itm → List Itm := fun l => l.foldl (fun q x => insQ x q) []
theorem pushQ_snoc (l : List Itm) (x : Itm) : pushQ (l ++ [x]) = insQ x (pushQ l) := by simp [pushQ]
theorem pushQ_perm (l : List Itm) : (pushQ l).Perm l := by
  have : ∀ (r q : List Itm), (r.foldl (fun q x => insQ x q) q).Perm (r ++ q) := by
    intro r
    induction r with
    | nil => intro q; simp
    | cons x r ih =>
      intro q
      simp only [List.foldl_cons]
      refine (ih _).trans ?_
      refine ((insQ_perm x q).append_left r).trans ?_
      simp
  simpa [pushQ] using this l []
theorem pushQ_sorted (l : List Itm) : (pushQ l).Pairwise iLe := by
  have : ∀ (r q : List Itm), q.Pairwise iLe → (r.foldl (fun q x => insQ x q) q).Pairwise iLe := by
    intro r
    induction r with
    | nil => intro q h; simpa using h
    | cons x r ih => intro q h; exact ih _ (insQ_sorted x q h)
  exact this l [] List.Pairwise.nil
end Go.Proofs.Ytkagfgnjfdlicaa
