/-
  A heap, plain: over numbered places, what going up and going down leave of its order, and that the first place is least. No condition.
  A queue of items, plain: the document's list in order, what a heap holds beside it, and what is left when the least goes. No condition.
  Items of a list that are struck out one by one, plain. No condition.
  Contracts of package queue: Less; items as cells. No condition.
  Contracts of package queue: what items' own methods do, but for Push. Condition: the places are there.
  Contracts of package queue: a queue's items in memory, and items' own Push and Pop. Condition: at most 2^40 items.
  Contracts of package queue: the library's heap over a queue's items: up and down. Condition: at most 2^40 items.
  Contracts of package queue: the library's heap over a queue's items: down. Condition: at most 2^40 items.
  Contracts of package queue: the library's heap over a queue's items: Push and Pop. Condition: at most 2^30 items.
  Contracts of package queue: New, Push, Pop, Len. Condition: none (a queue holds at most 1024 items).
  Contracts of package queue: Pop, and all calls of a queue that New did not make. Condition: none.
  The document's queue (viaductref10): Less, and the law's own helpers. No condition.
  A queue while a call goes on, in short; and the law's own first look (alive). No condition.
-/
import Derived.Test.YtjflbfianncpfaaGreatBase
import Derived.Test.YtjflbfianncpfaaGreatCmpI
import Derived.WalkSmall
namespace Go.Proofs.YtjflbfianncpfaaGreat

section
variable {α : Type}
/-- Two places change. -/
def hsw (f : Nat → α) (p q : Nat) : Nat → α := fun k => if k = q then f p else if k = p then f q else f k
/-- The places as a list. -/
def hls (n : Nat) (f : Nat → α) : List α := (List.range n).map f
theorem hls_length (n : Nat) (f : Nat → α) : (hls n f).length = n := by simp [hls]
theorem hls_get (n : Nat) (f : Nat → α) (i : Nat) (h : i < n) : (hls n f)[i]? = some (f i) := by simp [hls, h]
theorem hls_get' (n : Nat) (f : Nat → α) (i : Nat) (h : i < (hls n f).length) : (hls n f)[i] = f i := by simp [hls]
theorem hls_snoc (n : Nat) (f : Nat → α) : hls (n + 1) f = hls n f ++ [f n] := by simp [hls, List.range_succ]
theorem hls_congr {n : Nat} {f g : Nat → α} (h : ∀ k, k < n → f k = g k) : hls n f = hls n g := by
  unfold hls
  exact List.map_congr_left (fun k hk => h k (by simpa using hk))
theorem hsw_left (f : Nat → α) (p q : Nat) : hsw f p q p = f q := by
  unfold hsw
  by_cases h : p = q
  · subst h; simp
  · simp [h]
theorem hsw_right (f : Nat → α) (p q : Nat) : hsw f p q q = f p := by simp [hsw]
theorem hsw_else (f : Nat → α) {p q k : Nat} (h1 : k ≠ p) (h2 : k ≠ q) : hsw f p q k = f k := by simp [hsw, h1, h2]
theorem hsw_self (f : Nat → α) (p : Nat) : hsw f p p = f := by
  funext k
  unfold hsw
  by_cases h : k = p
  · subst h; simp
  · simp [h]
theorem hls_swap (n : Nat) (f : Nat → α) (p q : Nat) (hp : p < n) (hq : q < n) : hls n (hsw f p q) = ((hls n f).set p (f q)).set q (f p) := by
  apply List.ext_getElem?
  intro k
  rcases Nat.lt_or_ge k n with hk | hk
  · rw [hls_get _ _ _ hk, List.getElem?_set, List.getElem?_set]
    simp only [List.length_set, hls_length]
    unfold hsw
    by_cases h1 : q = k
    · subst h1; simp [hq]
    · rw [if_neg (fun e => h1 e.symm), if_neg h1]
      by_cases h2 : p = k
      · subst h2; simp [hp]
      · rw [if_neg (fun e => h2 e.symm), if_neg h2, hls_get _ _ _ hk]
  · rw [List.getElem?_eq_none (by rw [hls_length]; exact hk), List.getElem?_eq_none (by simp [hls_length]; exact hk)]
theorem hls_perm (n : Nat) (f : Nat → α) (p q : Nat) (hp : p < n) (hq : q < n) : (hls n (hsw f p q)).Perm (hls n f) := by
  rw [hls_swap n f p q hp hq]
  have h := @List.set_set_perm _ (hls n f) p q (by rw [hls_length]; exact hp) (by rw [hls_length]; exact hq)
  rwa [hls_get', hls_get'] at h
end

/-- What stands above a place. -/
def par (k : Nat) : Nat := (k - 1) / 2
theorem par_lt {k : Nat} (h : 0 < k) : par k < k := by unfold par; omega
theorem par_iff {k i : Nat} (h : 0 < k) : par k = i ↔ k = 2 * i + 1 ∨ k = 2 * i + 2 := by unfold par; omega

section
variable {α : Type} (le : α → α → Prop)
/-- What stands above comes first. -/
def Hp (n : Nat) (f : Nat → α) : Prop := ∀ k, 0 < k → k < n → le (f (par k)) (f k)
/-- A heap but for one place, which may have to go up. -/
def HUp (n : Nat) (f : Nat → α) (j : Nat) : Prop :=
  (∀ k, 0 < k → k < n → k ≠ j → le (f (par k)) (f k)) ∧ (∀ k, 0 < k → k < n → par k = j → 0 < j → le (f (par j)) (f k))
/-- A heap but for one place, which may have to go down. -/
def HDn (n : Nat) (f : Nat → α) (i : Nat) : Prop :=
  (∀ k, 0 < k → k < n → par k ≠ i → le (f (par k)) (f k)) ∧ (∀ k, 0 < k → k < n → par k = i → 0 < i → le (f (par i)) (f k))
end
section
variable {α : Type} {le : α → α → Prop} {n i j : Nat} {f : Nat → α}
theorem up_start (h : Hp le n f) : HUp le (n + 1) f n :=
  ⟨fun k h0 h1 h2 => h k h0 (by omega), fun k h0 h1 h2 _ => by have := par_lt h0; omega⟩
theorem up_stop (h : HUp le n f j) (hs : j = 0 ∨ le (f (par j)) (f j)) : Hp le n f := fun k h0 h1 => by
  by_cases hk : k = j
  · subst hk
    rcases hs with hs | hs
    · omega
    · exact hs
  · exact h.1 k h0 h1 hk
theorem up_step (tr : ∀ a b c, le a b → le b c → le a c) (h : HUp le n f j) (h0 : 0 < j) (hn : j < n) (hl : le (f j) (f (par j))) : HUp le n (hsw f (par j) j) (par j) := by
  have hij := par_lt h0
  generalize hi : par j = i at *
  refine ⟨fun k k0 kn ki => ?_, fun k k0 kn kp i0 => ?_⟩
  · have hpk := par_lt k0
    by_cases hkj : k = j
    · subst hkj
      rw [hi, hsw_left, hsw_right]
      exact hl
    · rw [hsw_else f ki hkj]
      by_cases p1 : par k = j
      · rw [p1, hsw_right]
        have := h.2 k k0 kn p1 h0
        rwa [hi] at this
      · by_cases p2 : par k = i
        · rw [p2, hsw_left]
          have := h.1 k k0 kn hkj
          rw [p2] at this
          exact tr _ _ _ hl this
        · rw [hsw_else f p2 p1]
          exact h.1 k k0 kn hkj
  · have hpi := par_lt i0
    have hpk := par_lt k0
    rw [hsw_else f (by omega) (by omega)]
    have h3 := h.1 i i0 (by omega) (by omega)
    by_cases hkj : k = j
    · subst hkj
      rw [hsw_right]
      exact h3
    · rw [hsw_else f (by omega) hkj]
      have h4 := h.1 k k0 kn hkj
      rw [kp] at h4
      exact tr _ _ _ h3 h4
theorem down_start (h : Hp le (n + 1) f) : HDn le n (hsw f 0 n) 0 := by
  refine ⟨fun k k0 kn kp => ?_, fun k k0 kn kp i0 => by omega⟩
  have hpk := par_lt k0
  rw [hsw_else f (by omega) (by omega), hsw_else f (by omega) (by omega)]
  exact h k k0 (by omega)
theorem down_stop (h : HDn le n f i) (hs : ∀ k, 0 < k → k < n → par k = i → le (f i) (f k)) : Hp le n f := fun k k0 kn => by
  by_cases hp : par k = i
  · rw [hp]; exact hs k k0 kn hp
  · exact h.1 k k0 kn hp
theorem down_step (h : HDn le n f i) (j0 : 0 < j) (jn : j < n) (hj : par j = i) (hl : le (f j) (f i)) (hs : ∀ k, 0 < k → k < n → par k = i → le (f j) (f k)) : HDn le n (hsw f i j) j := by
  have hij := par_lt j0
  rw [hj] at hij
  refine ⟨fun k k0 kn kp => ?_, fun k k0 kn kp _ => ?_⟩
  · have hpk := par_lt k0
    by_cases h1 : k = j
    · subst h1
      rw [hj, hsw_left, hsw_right]
      exact hl
    · by_cases h2 : k = i
      · subst h2
        rw [hsw_left, hsw_else f (by omega) (by omega)]
        exact h.2 j j0 jn hj k0
      · rw [hsw_else f h2 h1]
        by_cases h3 : par k = i
        · rw [h3, hsw_left]
          exact hs k k0 kn h3
        · rw [hsw_else f h3 kp]
          exact h.1 k k0 kn h3
  · have hpk := par_lt k0
    rw [hj, hsw_left, hsw_else f (by omega) (by omega)]
    have := h.1 k k0 kn (by omega)
    rwa [kp] at this
theorem heap_least (rf : ∀ a, le a a) (tr : ∀ a b c, le a b → le b c → le a c) (h : Hp le n f) : ∀ k, k < n → le (f 0) (f k) := by
  intro k
  induction k using Nat.strongRecOn with
  | ind k ih =>
    intro hk
    rcases Nat.eq_zero_or_pos k with h0 | h0
    · subst h0; exact rf _
    · have hp := par_lt h0
      exact tr _ _ _ (ih _ hp (by omega)) (h k h0 hk)
end

/-- An item of a queue. -/
structure Itm where
  cost : Int
  hops : Int
  node : Int
deriving DecidableEq
/-- Which of two items is less. -/
def iLt (a b : Itm) : Prop := a.cost < b.cost ∨ (a.cost = b.cost ∧ (a.hops < b.hops ∨ (a.hops = b.hops ∧ a.node < b.node)))
instance (a b : Itm) : Decidable (iLt a b) := by unfold iLt; infer_instance
/-- Less, or like. -/
def iLe (a b : Itm) : Prop := ¬ iLt b a
theorem iLe_refl (a : Itm) : iLe a a := by unfold iLe iLt; omega
theorem iLe_trans (a b c : Itm) (h : iLe a b) (h' : iLe b c) : iLe a c := by unfold iLe iLt at *; omega
theorem iLe_total (a b : Itm) : iLe a b ∨ iLe b a := by unfold iLe iLt; omega
theorem iLe_of_lt {a b : Itm} (h : iLt a b) : iLe a b := by unfold iLe; unfold iLt at *; omega
theorem iLe_antisymm {a b : Itm} (h : iLe a b) (h' : iLe b a) : a = b := by
  cases a; cases b
  simp only [iLe, iLt] at h h'
  simp only [Itm.mk.injEq]
  omega
/-- Of items that are the same in all, the least is one item alone. -/
theorem least_unique {l l' : List Itm} {a b : Itm} (hp : l.Perm l') (ha : a ∈ l) (hb : b ∈ l') (la : ∀ x ∈ l, iLe a x) (lb : ∀ x ∈ l', iLe b x) : a = b :=
  iLe_antisymm (la b (hp.mem_iff.2 hb)) (lb a (hp.mem_iff.1 ha))
end Go.Proofs.YtjflbfianncpfaaGreat

namespace Go.Proofs.YtjflbfianncpfaaGreat

/-- One item more, behind all that it is not less than. -/
def insQ (x : Itm) : List Itm → List Itm
  | [] => [x]
  | y :: r => if iLt x y then x :: y :: r else y :: insQ x r
theorem insQ_perm (x : Itm) : ∀ l, (insQ x l).Perm (x :: l)
  | [] => List.Perm.refl _
  | y :: r => by
    unfold insQ
    split
    · exact List.Perm.refl _
    · exact ((insQ_perm x r).cons y).trans (List.Perm.swap x y r)
theorem insQ_length (x : Itm) (l : List Itm) : (insQ x l).length = l.length + 1 := by simpa using (insQ_perm x l).length_eq
theorem insQ_sorted (x : Itm) : ∀ l, l.Pairwise iLe → (insQ x l).Pairwise iLe
  | [], _ => by simp [insQ]
  | y :: r, h => by
    have h' := List.pairwise_cons.1 h
    unfold insQ
    split
    · rename_i hl
      refine List.pairwise_cons.2 ⟨fun z hz => ?_, h⟩
      rcases List.mem_cons.1 hz with rfl | hz
      · exact iLe_of_lt hl
      · exact iLe_trans _ _ _ (iLe_of_lt hl) (h'.1 z hz)
    · rename_i hl
      refine List.pairwise_cons.2 ⟨fun z hz => ?_, insQ_sorted x r h'.2⟩
      rcases List.mem_cons.1 ((insQ_perm x r).mem_iff.1 hz) with rfl | hz
      · exact hl
      · exact h'.1 z hz
/-- The place where the loop stops is where the item comes. -/
theorem insQ_cut (x : Itm) : ∀ (l : List Itm) (i : Nat), i ≤ l.length → (∀ k y, k < i → l[k]? = some y → ¬ iLt x y) → (∀ y, l[i]? = some y → iLt x y) → insQ x l = l.take i ++ x :: l.drop i
  | [], i, hi, _, _ => by
    have : i = 0 := by simpa using hi
    subst this
    simp [insQ]
  | y :: r, 0, _, _, h => by
    have := h y rfl
    simp [insQ, this]
  | y :: r, i + 1, hi, hb, h => by
    have h0 := hb 0 y (by omega) rfl
    have ih := insQ_cut x r i (by simpa using hi) (fun k z hk hz => hb (k + 1) z (by omega) (by simpa using hz)) (fun z hz => h z (by simpa using hz))
    simp [insQ, h0, ih]

/-- What a queue holds beside the document's list: the same items, as a heap. -/
structure QHp (n : Nat) (f : Nat → Itm) (l : List Itm) : Prop where
  heap : Hp iLe n f
  same : (hls n f).Perm l
  order : l.Pairwise iLe
theorem QHp.len {n : Nat} {f : Nat → Itm} {l : List Itm} (h : QHp n f l) : n = l.length := by simpa [hls_length] using h.same.length_eq
theorem qhp_nil (f : Nat → Itm) : QHp 0 f [] := ⟨fun k h0 h1 => by omega, by simp [hls], List.Pairwise.nil⟩
/-- The first place holds the least: the document's first one. -/
theorem QHp.head {n : Nat} {f : Nat → Itm} {a : Itm} {l : List Itm} (h : QHp (n + 1) f (a :: l)) : f 0 = a := by
  refine least_unique (l := hls (n + 1) f) (l' := a :: l) h.same ?_ (List.mem_cons_self ..) (fun x hx => ?_) (fun x hx => ?_)
  · exact List.mem_of_getElem? (hls_get (n + 1) f 0 (by omega))
  · obtain ⟨k, hk⟩ := List.getElem?_of_mem hx
    have hkn : k < n + 1 := by
      rcases Nat.lt_or_ge k (n + 1) with h1 | h1
      · exact h1
      · rw [List.getElem?_eq_none (by rw [hls_length]; exact h1)] at hk; simp at hk
    rw [hls_get _ _ _ hkn] at hk
    simp at hk
    subst hk
    exact heap_least iLe_refl iLe_trans h.heap k hkn
  · rcases List.mem_cons.1 hx with rfl | hx
    · exact iLe_refl _
    · exact (List.pairwise_cons.1 h.order).1 x hx
/-- When the least has gone to the end and is taken off, the others are left. -/
theorem QHp.rest {n : Nat} {f : Nat → Itm} {a : Itm} {l : List Itm} (h : QHp (n + 1) f (a :: l)) : (hls n (hsw f 0 n)).Perm l := by
  have h1 := hls_perm (n + 1) f 0 n (by omega) (by omega)
  rw [hls_snoc, hsw_right, h.head] at h1
  have h2 : (a :: hls n (hsw f 0 n)).Perm (a :: l) := (List.perm_append_comm (l₁ := [a])).trans (h1.trans h.same)
  exact h2.cons_inv
/-- One more. -/
theorem QHp.push {n : Nat} {f g : Nat → Itm} {x : Itm} {l : List Itm} (h : QHp n f l) (hx : f n = x) (hg : Hp iLe (n + 1) g) (hp : (hls (n + 1) g).Perm (hls (n + 1) f)) : QHp (n + 1) g (insQ x l) := by
  refine ⟨hg, hp.trans ?_, insQ_sorted x l h.order⟩
  rw [hls_snoc, hx]
  exact ((List.perm_append_comm (l₂ := [x])).trans (h.same.cons x)).trans (insQ_perm x l).symm
/-- The least goes. -/
theorem QHp.pop {n : Nat} {f g : Nat → Itm} {a : Itm} {l : List Itm} (h : QHp (n + 1) f (a :: l)) (hg : Hp iLe n g) (hp : (hls n g).Perm (hls n (hsw f 0 n))) : QHp n g l :=
  ⟨hg, hp.trans h.rest, (List.pairwise_cons.1 h.order).2⟩
end Go.Proofs.YtjflbfianncpfaaGreat

namespace Go.Proofs.YtjflbfianncpfaaGreat

/-- What is not yet struck out. -/
def rmn : List Itm → List Bool → List Itm
  | x :: l, b :: h => if b then rmn l h else x :: rmn l h
  | _, _ => []
theorem rmn_none : ∀ (l : List Itm), rmn l (List.replicate l.length false) = l
  | [] => by simp [rmn]
  | x :: l => by simp [rmn, List.replicate_succ, rmn_none l]
theorem rmn_mem (x : Itm) : ∀ (l : List Itm) (h : List Bool), x ∈ rmn l h → ∃ k : Nat, l[k]? = some x ∧ h[k]? = some false
  | [], _, hx => by simp [rmn] at hx
  | _ :: _, [], hx => by simp [rmn] at hx
  | y :: l, b :: h, hx => by
    unfold rmn at hx
    split at hx
    · obtain ⟨k, h1, h2⟩ := rmn_mem x l h hx
      exact ⟨k + 1, by simpa using h1, by simpa using h2⟩
    · rename_i hb
      rcases List.mem_cons.1 hx with rfl | hx
      · exact ⟨0, rfl, by simpa using hb⟩
      · obtain ⟨k, h1, h2⟩ := rmn_mem x l h hx
        exact ⟨k + 1, by simpa using h1, by simpa using h2⟩
theorem rmn_set (x : Itm) : ∀ (l : List Itm) (h : List Bool) (k : Nat), l[k]? = some x → h[k]? = some false → (x :: rmn l (h.set k true)).Perm (rmn l h)
  | [], _, _, h1, _ => by simp at h1
  | _ :: _, [], _, _, h2 => by simp at h2
  | y :: l, b :: h, 0, h1, h2 => by
    simp at h1 h2
    subst h1
    subst h2
    simp [rmn]
  | y :: l, b :: h, k + 1, h1, h2 => by
    have ih := rmn_set x l h k (by simpa using h1) (by simpa using h2)
    simp only [List.set_cons_succ, rmn]
    split
    · exact ih
    · exact (List.Perm.swap y x _).trans (ih.cons y)
/-- The least of the rest goes: what is struck out of the list is what went. -/
theorem rmn_pop {a : Itm} {q l : List Itm} {h : List Bool} {k : Nat} (hq : (a :: q).Perm (rmn l h)) (h1 : l[k]? = some a) (h2 : h[k]? = some false) : q.Perm (rmn l (h.set k true)) :=
  (hq.trans (rmn_set a l h k h1 h2).symm).cons_inv
theorem rmn_has {a : Itm} {q l : List Itm} {h : List Bool} (hq : (a :: q).Perm (rmn l h)) : ∃ k : Nat, l[k]? = some a ∧ h[k]? = some false :=
  rmn_mem a l h (hq.mem_iff.1 (List.mem_cons_self ..))

/-- The queue that pushes alone have filled. -/
def pushQ : List Itm → List Itm := fun l => l.foldl (fun q x => insQ x q) []
theorem pushQ_snoc (l : List Itm) (x : Itm) : pushQ (l ++ [x]) = insQ x (pushQ l) := by simp [pushQ]
theorem pushQ_perm (l : List Itm) : (pushQ l).Perm l := by
  have : ∀ (r q : List Itm), (r.foldl (fun q x => insQ x q) q).Perm (r ++ q) := by
    intro r
    induction r with
    | nil => intro q; simp
    | cons x r ih =>
      intro q
      simp only [List.foldl_cons]
      refine (ih _).trans ?_
      refine ((insQ_perm x q).append_left r).trans ?_
      simp
  simpa [pushQ] using this l []
theorem pushQ_sorted (l : List Itm) : (pushQ l).Pairwise iLe := by
  have : ∀ (r q : List Itm), q.Pairwise iLe → (r.foldl (fun q x => insQ x q) q).Pairwise iLe := by
    intro r
    induction r with
    | nil => intro q h; simpa using h
    | cons x r ih => intro q h; exact ih _ (insQ_sorted x q h)
  exact this l [] List.Pairwise.nil
end Go.Proofs.YtjflbfianncpfaaGreat

namespace Go.Proofs.YtjflbfianncpfaaGreat
set_option maxRecDepth 100000
open Go.RowKit

/-- The cells of an item. -/
def itL (x : Itm) : List Value := [.int .i64 x.cost, .int .i64 x.hops, .int .i64 x.node]
theorem itL_length (x : Itm) : (itL x).length = 3 := rfl
theorem itL_one (x : Itm) : ∀ u ∈ itL x, u.oneCell' = true := by intro u hu; simp [itL] at hu; rcases hu with rfl | rfl | rfl <;> rfl
/-- The first of three that is not nought. -/
def or3 (a b c : Int) : Int := if a = 0 then (if b = 0 then c else b) else a
theorem or3_lt (x y : Itm) : decide (or3 (cmpI x.cost y.cost) (cmpI x.hops y.hops) (cmpI x.node y.node) < 0) = decide (iLt x y) := by
  have h : ∀ a b : Int, (a < b ∧ cmpI a b = -1) ∨ (b < a ∧ cmpI a b = 1) ∨ (a = b ∧ cmpI a b = 0) := by
    intro a b
    unfold cmpI
    split
    · exact .inl ⟨by assumption, rfl⟩
    · split
      · exact .inr (.inl ⟨by assumption, rfl⟩)
      · exact .inr (.inr ⟨by omega, rfl⟩)
  unfold or3 iLt
  rcases h x.cost y.cost with ⟨h1, e1⟩ | ⟨h1, e1⟩ | ⟨h1, e1⟩ <;> rcases h x.hops y.hops with ⟨h2, e2⟩ | ⟨h2, e2⟩ | ⟨h2, e2⟩ <;> rcases h x.node y.node with ⟨h3, e3⟩ | ⟨h3, e3⟩ | ⟨h3, e3⟩ <;>
    rw [e1, e2, e3] <;> refine decide_eq_decide.2 ?_ <;> simp <;> omega

theorem or_calls (a b c : Int) (g : Nat) (w : World) (h0 : w.cell? ⟨g, 0, none⟩ = some (.int .i64 a)) (h1 : w.cell? ⟨g, 1, none⟩ = some (.int .i64 b)) (h2 : w.cell? ⟨g, 2, none⟩ = some (.int .i64 c)) :
    Calls Tryz.prog 76 #[.slice (some ⟨g, 0, none⟩) 3 3] w fun e w' => e = .returned (.int .i64 (or3 a b c)) ∧ w' = w := by
  go_enter Tryz.func76, Tryz.ntmps76
  go_wp2_with fail
  go_loopw [8] (fun t wr => ∃ i : Nat, i ≤ 3 ∧ t = .int .i64 (i : Int) ∧ wr = w ∧ (0 < i → a = 0) ∧ (1 < i → b = 0) ∧ (2 < i → c = 0)) (fun t wr => 3 - (intOf t).toNat)
  case atStart => exact ⟨0, by omega, rfl, rfl, by omega, by omega, by omega⟩
  case round =>
    obtain ⟨i, hi, rfl, rfl, z0, z1, z2⟩ := hrel
    by_cases i0 : i = 0
    · subst i0
      by_cases ha : a = 0
      · subst ha
        go_wp2_with fail
        go_roundw
        case rel => exact ⟨1, by omega, rfl, by simp, by simp, by simp, by simp⟩
        case measure => simp [intOf]
      · have e : or3 a b c = a := by simp [or3, ha]
        have HE := Lib.hid e
        clear e
        go_wp2
        go_ret
        exact ⟨by rw [HE.out]; rfl, rfl⟩
    by_cases i1 : i = 1
    · subst i1
      have ha := z0 (by omega)
      subst ha
      by_cases hb : b = 0
      · subst hb
        go_wp2_with fail
        go_roundw
        case rel => exact ⟨2, by omega, rfl, by simp, by simp, by simp, by simp⟩
        case measure => simp [intOf]
      · have e : or3 0 b c = b := by simp [or3, hb]
        have HE := Lib.hid e
        clear e
        go_wp2
        go_ret
        exact ⟨by rw [HE.out]; rfl, rfl⟩
    by_cases i2 : i = 2
    · subst i2
      have ha := z0 (by omega)
      subst ha
      have hb := z1 (by omega)
      subst hb
      by_cases hc : c = 0
      · subst hc
        go_wp2_with fail
        go_roundw
        case rel => exact ⟨3, by omega, rfl, by simp, by simp, by simp, by simp⟩
        case measure => simp [intOf]
      · have e : or3 0 0 c = c := by simp [or3]
        have HE := Lib.hid e
        clear e
        go_wp2
        go_ret
        exact ⟨by rw [HE.out]; rfl, rfl⟩
    · obtain rfl : i = 3 := by omega
      have ha := z0 (by omega)
      subst ha
      have hb := z1 (by omega)
      subst hb
      have hc := z2 (by omega)
      subst hc
      go_wp2
      go_ret
      exact ⟨rfl, rfl⟩

/-- What Less answers. -/
def LessPost (x y : Itm) (w : World) (e : Ending) (w' : World) : Prop := e = .returned (.bool (decide (iLt x y))) ∧ Below w.heap.size w w'
theorem less_calls (x y : Itm) (w : World) : Calls Tryz.prog 139 #[.agg (itL x).toArray, .agg (itL y).toArray] w (LessPost x y w) := by
  have hd := or3_lt x y
  unfold LessPost
  rw [← hd]
  clear hd
  obtain ⟨x0, x1, x2⟩ := x
  obtain ⟨y0, y1, y2⟩ := y
  unfold itL
  have c0 := fun w => compare_calls x0 y0 w
  have c1 := fun w => compare_calls x1 y1 w
  have c2 := fun w => compare_calls x2 y2 w
  simp only
  generalize cmpI x0 y0 = k0 at *
  generalize cmpI x1 y1 = k1 at *
  generalize cmpI x2 y2 = k2 at *
  have H0 := Lib.hid c0
  have H1 := Lib.hid c1
  have H2 := Lib.hid c2
  clear c0 c1 c2
  go_enter Tryz.func139, Tryz.ntmps139
  go_wp2_with fail
  have bl : Below w.heap.size w ((w.alloc (.cells #[.int .i64 x0, .int .i64 x1, .int .i64 x2] 88)).alloc (.cells #[.int .i64 y0, .int .i64 y1, .int .i64 y2] 88)) := bel_new (bel_new (Below.refl _ _) _) _
  have b1 : Blk ((w.alloc (.cells #[.int .i64 x0, .int .i64 x1, .int .i64 x2] 88)).alloc (.cells #[.int .i64 y0, .int .i64 y1, .int .i64 y2] 88)) w.heap.size 88 [.int .i64 x0, .int .i64 x1, .int .i64 x2] := (Blk.new w _ _).alloc _
  have b2 : Blk ((w.alloc (.cells #[.int .i64 x0, .int .i64 x1, .int .i64 x2] 88)).alloc (.cells #[.int .i64 y0, .int .i64 y1, .int .i64 y2] 88)) (w.heap.size + 1) 88 [.int .i64 y0, .int .i64 y1, .int .i64 y2] := by
    have := Blk.new (w.alloc (.cells #[.int .i64 x0, .int .i64 x1, .int .i64 x2] 88)) 88 [.int .i64 y0, .int .i64 y1, .int .i64 y2]
    simpa using this
  generalize (w.alloc (.cells #[.int .i64 x0, .int .i64 x1, .int .i64 x2] 88)).alloc (.cells #[.int .i64 y0, .int .i64 y1, .int .i64 y2] 88) = w1 at *
  have HL := Lib.hid bl
  have HB := Lib.hid (And.intro b1 b2)
  clear bl b1 b2
  refine region_seq (fun W => Blk W w.heap.size 88 [.int .i64 x0, .int .i64 x1, .int .i64 x2] ∧ Blk W (w.heap.size + 1) 88 [.int .i64 y0, .int .i64 y1, .int .i64 y2]) [(0, true), (1, true), (2, true), (3, true), (5, true), (6, true), (7, true), (8, true), (10, true), (11, true), (12, true), (13, true), (4, false), (9, false), (14, false), (15, false), (16, false), (17, true), (18, true)]
    (by kernel_rfl) (by kernel_rfl) (by kernel_rfl) (by kernel_rfl) (fun _ _ _ _ _ h => h) HB.out ?_
  repeat
    refine seq_pure (v := ?_) rfl (by rfl) (fun W hW => ?_) ?_
    rotate_left
    · have t0 := hW.1.cell 0
      have t1 := hW.1.cell 1
      have t2 := hW.1.cell 2
      have s0 := hW.2.cell 0
      have s1 := hW.2.cell 1
      have s2 := hW.2.cell 2
      clear hW
      go_simp
      try with_reducible rfl
    simp only [Act.put, List.setIfInBounds_toArray, List.set_cons_zero, List.set_cons_succ]
  refine seq_make rfl (by rfl) (fun K hK => ?_)
  go_simp
  ((with_reducible refine (H0.out _).mono ?_))
  rintro e w2 ⟨rfl, rfl⟩
  go_simp
  refine hK _ _ (fun W => Blk W w.heap.size 88 [.int .i64 x0, .int .i64 x1, .int .i64 x2] ∧ Blk W (w.heap.size + 1) 88 [.int .i64 y0, .int .i64 y1, .int .i64 y2]) (fun W h => h) HB.out ?_
  clear hK K
  refine seq_make rfl (by rfl) (fun K hK => ?_)
  go_simp
  ((with_reducible refine (H1.out _).mono ?_))
  rintro e w2 ⟨rfl, rfl⟩
  go_simp
  refine hK _ _ (fun W => Blk W w.heap.size 88 [.int .i64 x0, .int .i64 x1, .int .i64 x2] ∧ Blk W (w.heap.size + 1) 88 [.int .i64 y0, .int .i64 y1, .int .i64 y2]) (fun W h => h) HB.out ?_
  clear hK K
  refine seq_make rfl (by rfl) (fun K hK => ?_)
  go_simp
  ((with_reducible refine (H2.out _).mono ?_))
  rintro e w2 ⟨rfl, rfl⟩
  go_simp
  refine hK _ _ (fun W => Blk W w.heap.size 88 [.int .i64 x0, .int .i64 x1, .int .i64 x2] ∧ Blk W (w.heap.size + 1) 88 [.int .i64 y0, .int .i64 y1, .int .i64 y2]) (fun W h => h) HB.out ?_
  clear hK K
  refine seq_make rfl (by rfl) (fun K hK => ?_)
  go_simp
  have b3 : Blk (w1.alloc (.cells #[.int .i64 k0, .int .i64 k1, .int .i64 k2] 3)).drew w1.heap.size 3 [.int .i64 k0, .int .i64 k1, .int .i64 k2] := (Blk.new w1 _ [.int .i64 k0, .int .i64 k1, .int .i64 k2]).drew
  have l3 : Below w.heap.size w (w1.alloc (.cells #[.int .i64 k0, .int .i64 k1, .int .i64 k2] 3)).drew := (bel_new HL.out _).drew
  have hs : (w1.alloc (.cells #[.int .i64 k0, .int .i64 k1, .int .i64 k2] 3)).drew.heap.size = w1.heap.size + 1 := by simp
  have h3 : Blk (w1.alloc (.cells #[.int .i64 k0, .int .i64 k1, .int .i64 k2] 3)).drew w.heap.size 88 [.int .i64 x0, .int .i64 x1, .int .i64 x2] ∧ Blk (w1.alloc (.cells #[.int .i64 k0, .int .i64 k1, .int .i64 k2] 3)).drew (w.heap.size + 1) 88 [.int .i64 y0, .int .i64 y1, .int .i64 y2] := ⟨HB.out.1.alloc _, HB.out.2.alloc _⟩
  generalize (w1.alloc (.cells #[.int .i64 k0, .int .i64 k1, .int .i64 k2] 3)).drew = w3 at *
  refine hK _ _ (fun W => Blk W w.heap.size 88 [.int .i64 x0, .int .i64 x1, .int .i64 x2] ∧ Blk W (w.heap.size + 1) 88 [.int .i64 y0, .int .i64 y1, .int .i64 y2]) (fun W h => h) h3 ?_
  have H3 := Lib.hid h3
  have k0' : w3.cell? ⟨w1.heap.size, 0, none⟩ = some (.int .i64 k0) := b3.cell 0
  have k1' : w3.cell? ⟨w1.heap.size, 1, none⟩ = some (.int .i64 k1) := b3.cell 1
  have k2' : w3.cell? ⟨w1.heap.size, 2, none⟩ = some (.int .i64 k2) := b3.cell 2
  have HK := Lib.hid (or_calls k0 k1 k2 w1.heap.size w3 k0' k1' k2')
  clear hK K h3 hs k0' k1' k2' b3
  refine seq_make rfl (by rfl) (fun K hK => ?_)
  go_simp
  ((with_reducible refine HK.out.mono ?_))
  rintro e w4 ⟨rfl, rfl⟩
  go_simp
  refine hK _ _ (fun W => Blk W w.heap.size 88 [.int .i64 x0, .int .i64 x1, .int .i64 x2] ∧ Blk W (w.heap.size + 1) 88 [.int .i64 y0, .int .i64 y1, .int .i64 y2]) (fun W h => h) H3.out ?_
  clear hK K
  repeat
    refine seq_pure (v := ?_) rfl (by rfl) (fun W hW => ?_) ?_
    rotate_left
    · clear hW
      go_simp
      try with_reducible rfl
    simp only [Act.put, List.setIfInBounds_toArray, List.set_cons_zero, List.set_cons_succ]
  refine seq_done ?_
  have L3 := Lib.hid l3
  clear l3
  go_wp2
  go_ret
  exact ⟨rfl, L3.out⟩
end Go.Proofs.YtjflbfianncpfaaGreat

namespace Go.Proofs.YtjflbfianncpfaaGreat
set_option maxRecDepth 100000
open Go.RowKit

def iupd (f : Nat → Itm) (i : Nat) (x : Itm) : Nat → Itm := fun k => if k = i then x else f k
theorem hsw_iupd (f : Nat → Itm) (p q : Nat) : hsw f p q = iupd (iupd f p (f q)) q (f p) := rfl
theorem hls_set (n : Nat) (f : Nat → Itm) (i : Nat) (x : Itm) (hi : i < n) : hls n (iupd f i x) = (hls n f).set i x := by
  apply List.ext_getElem?
  intro k
  rcases Nat.lt_or_ge k n with hk | hk
  · rw [hls_get _ _ _ hk, List.getElem?_set]
    unfold iupd
    by_cases h : i = k
    · subst h; simp [hls_length, hi]
    · rw [if_neg (fun e => h e.symm), if_neg h, hls_get _ _ _ hk]
  · rw [List.getElem?_eq_none (by rw [hls_length]; exact hk), List.getElem?_eq_none (by simp [hls_length]; exact hk)]
theorem flat_set3 (a b c : Int) : ∀ (L : List Itm) (i : Nat), (((L.flatMap itL).set (i * 3) (.int .i64 a)).set (i * 3 + 1) (.int .i64 b)).set (i * 3 + 2) (.int .i64 c) = (L.set i ⟨a, b, c⟩).flatMap itL
  | [], i => by simp
  | y :: L, 0 => by simp [itL]
  | y :: L, i + 1 => by
    have e : (i + 1) * 3 = i * 3 + 3 := by omega
    rw [e, List.set_cons_succ, List.flatMap_cons, List.flatMap_cons, ← flat_set3 a b c L i]
    simp [itL]

/-- A row of items in a block, by its places. -/
def Irow (w : World) (base g c n : Nat) (f : Nat → Itm) : Prop := AccR itL 3 w base 88 (some ⟨g, 0, none⟩) c (hls n f)
section
variable {w w' : World} {base g c n : Nat} {f : Nat → Itm}
theorem Irow.range (h : Irow w base g c n f) {i : Nat} (hi : i < n) : w.rangeAt g (i * 3) (itL (f i)) := by
  intro j v hv
  have hj : j < 3 := by have := (List.getElem?_eq_some_iff.1 hv).1; simpa [itL] using this
  have h1 := World.ownsRow.cellAt h (i * 3 + j) (by rw [hls_length]; omega)
  have h2 := flat_get itL_length (hls n f) i (by rw [hls_length]; exact hi) j hj
  rw [hls_get' n f i] at h2
  rw [h1, h2]; exact hv
theorem Irow.there (h : Irow w base g c n f) {i : Nat} (hi : i < n) : w.there g (i * 3) 3 := fun j hj => by
  refine ⟨?_, World.ownsRow.frozenAt h _⟩
  have h1 : (itL (f i))[j]? = some ((itL (f i))[j]'(by simp [itL]; omega)) := List.getElem?_eq_getElem _
  rw [h.range hi j _ h1]; rfl
theorem Irow.store (h : Irow w base g c n f) {i : Nat} (hi : i < n) (x : Itm) : Irow (w.setCells g (i * 3) (itL x)) base g c n (iupd f i x) ∧ w.grownBy (w.setCells g (i * 3) (itL x)) (some g) := by
  have s1 := World.ownsRow.stored h (i * 3) (.int .i64 x.cost)
  have s2 := World.ownsRow.stored s1.1 (i * 3 + 1) (.int .i64 x.hops)
  have s3 := World.ownsRow.stored s2.1 (i * 3 + 2) (.int .i64 x.node)
  have e : w.setCells g (i * 3) (itL x) = (((w.setCell ⟨g, i * 3, none⟩ (.int .i64 x.cost)).setCell ⟨g, i * 3 + 1, none⟩ (.int .i64 x.hops)).setCell ⟨g, i * 3 + 2, none⟩ (.int .i64 x.node)) := rfl
  rw [e]
  refine ⟨?_, (s1.2.trans s2.2).trans s3.2⟩
  have t := s3.1
  rw [flat_set3, ← hls_set n f i x hi] at t
  unfold Irow AccR
  have hl : (hls n (iupd f i x)).length = (hls n f).length := by rw [hls_length, hls_length]
  rw [hl]
  exact t
theorem Irow.swap (h : Irow w base g c n f) {i j : Nat} (hi : i < n) (hj : j < n) : Irow ((w.setCells g (i * 3) (itL (f j))).setCells g (j * 3) (itL (f i))) base g c n (hsw f i j) ∧ w.grownBy ((w.setCells g (i * 3) (itL (f j))).setCells g (j * 3) (itL (f i))) (some g) := by
  have h1 := h.store hi (f j)
  have h2 := h1.1.store hj (f i)
  exact ⟨h2.1, h1.2.trans h2.2⟩
theorem Irow.pop (h : Irow w base g c (n + 1) f) : Irow w base g c n f := by
  unfold Irow AccR at h ⊢
  rw [hls_length] at h ⊢
  rw [hls_snoc, List.flatMap_append] at h
  exact ownsRow_pop (by rw [flat_length itL_length, hls_length]) h
theorem Irow.cap (h : Irow w base g c n f) : n ≤ c ∧ c ≤ maxLen := by have := AccR.cap h; rwa [hls_length] at this
theorem Irow.lt (h : Irow w base g c n f) : base ≤ g ∧ g < w.heap.size := AccR.ge h rfl
theorem Irow.bel (h : Irow w base g c n f) (hb : Below w.heap.size w w') : Irow w' base g c n f := AccR.bel h hb
theorem Irow.drew (h : Irow w base g c n f) : Irow w.drew base g c n f := h
end
theorem infoItem : (Tryz.prog.info? 88).map (·.size) = some 3 := by kernel_rfl

section
variable {w : World} {base g c n : Nat} {f : Nat → Itm}
theorem seq_load_at {P : Program} {ops : Array Oper} {Q : Exit → Act → World → Prop} {S : World → Prop} {i : Nat} {r : List (Nat × Bool)} {a : Act} {w : World} {o : Oper} {x : Operand} {ty : TypeId} {g k : Nat} {vs : List Value} {d : TypeDesc}
    (ho : ops.toList[i]? = some o) (hw : Region.wanted o (yielded ops a.tmps) = true) (hop : o.op = .load ty x) (hx : a.eval x = .pointer (some ⟨g, k, none⟩)) (hb : ∀ W, S W → W.rangeAt g k vs) (hu : P.underlying ty = some d) (hd : d.isRow = true) (hi : (P.info? ty).map (·.size) = some vs.length)
    (h : wpSeq P ops Q S r (a.put o.dst (.agg vs.toArray)) w) : wpSeq P ops Q S ((i, true) :: r) a w :=
  ⟨o, _, by rw [← Array.getElem?_toList]; exact ho, yieldsIf_load_mid hw ty x hop g k hx vs d hb hu hd hi, h⟩

theorem ilen_calls (A : Option Addr) (n c : Nat) (w : World) : Calls Tryz.prog 79 #[.slice A n c] w fun e w' => e = .returned (.int .i64 (n : Int)) ∧ w' = w := by
  go_enter Tryz.func79, Tryz.ntmps79
  go_wp2
  go_ret
  exact ⟨rfl, rfl⟩

theorem iless_calls (h : Irow w base g c n f) (i j : Nat) (hi : i < n) (hj : j < n) :
    Calls Tryz.prog 135 #[.slice (some ⟨g, 0, none⟩) n c, .int .i64 (i : Int), .int .i64 (j : Int)] w (LessPost (f i) (f j) w) := by
  have H := Lib.hid h
  have i1 : (i : Int) < (n : Int) := by omega
  have j1 : (j : Int) < (n : Int) := by omega
  have HI := Lib.hid hi
  have HJ := Lib.hid hj
  clear h hi hj
  go_enter Tryz.func135, Tryz.ntmps135
  go_wp2_with fail
  refine region_seq (fun W => Below w.heap.size w W) [(0, true), (1, true), (2, true), (3, true), (4, true), (5, true), (6, true), (7, true), (8, false), (9, true)]
    (by kernel_rfl) (by kernel_rfl) (by kernel_rfl) (by kernel_rfl) (fun _ _ _ _ _ h => h) (Below.refl _ _).drew ?_
  repeat first
    | refine seq_load_at rfl (by rfl) rfl rfl (fun W hW => (H.out.bel hW).range HI.out) Tryz.underlying88 rfl infoItem ?_
      simp only [Act.put, List.setIfInBounds_toArray, List.set_cons_zero, List.set_cons_succ]
    | refine seq_load_at rfl (by rfl) rfl rfl (fun W hW => (H.out.bel hW).range HJ.out) Tryz.underlying88 rfl infoItem ?_
      simp only [Act.put, List.setIfInBounds_toArray, List.set_cons_zero, List.set_cons_succ]
    | refine seq_pure (v := ?_) rfl (by rfl) (fun W hW => ?_) ?_
      rotate_left
      · clear hW
        go_simp
        with_reducible rfl
      simp only [Act.put, List.setIfInBounds_toArray, List.set_cons_zero, List.set_cons_succ]
  refine seq_make rfl (by rfl) (fun K hK => ?_)
  go_simp
  have hc := less_calls (f i) (f j) w.drew
  unfold LessPost at hc
  ((with_reducible refine hc.mono ?_))
  rintro e w1 ⟨rfl, hb⟩
  have HB := Lib.hid (show Below w.heap.size w w1 from ⟨hb.os, hb.tape, hb.output, hb.size, hb.block⟩)
  clear hb hc
  go_simp
  refine hK _ _ (fun W => Below w.heap.size w W) (fun W h => h) HB.out ?_
  clear hK K
  refine seq_pure (v := ?_) rfl (by rfl) (fun W hW => ?_) ?_
  rotate_left
  · clear hW
    go_simp
    with_reducible rfl
  simp only [Act.put, List.setIfInBounds_toArray, List.set_cons_zero, List.set_cons_succ]
  refine seq_done ?_
  go_wp2
  go_ret
  exact ⟨rfl, HB.out⟩
/-- What Swap leaves. -/
def SwapPost (w : World) (base g c n : Nat) (f : Nat → Itm) (e : Ending) (w' : World) : Prop :=
  e = .returned (.tuple #[]) ∧ Irow w' base g c n f ∧ w.grownBy w' (some g)
theorem iswap_calls (h : Irow w base g c n f) (i j : Nat) (hi : i < n) (hj : j < n) :
    Calls Tryz.prog 138 #[.slice (some ⟨g, 0, none⟩) n c, .int .i64 (i : Int), .int .i64 (j : Int)] w (SwapPost w base g c n (hsw f i j)) := by
  have H := Lib.hid h
  have i1 : (i : Int) < (n : Int) := by omega
  have j1 : (j : Int) < (n : Int) := by omega
  have HI := Lib.hid hi
  have HJ := Lib.hid hj
  clear h hi hj
  go_enter Tryz.func138, Tryz.ntmps138
  go_wp2_with fail
  refine region_way (fun _ => True) (.step 0 true (.step 1 true (.step 2 true (.step 3 true (.step 4 true (.step 5 true (.step 6 true (.step 8 true (.step 9 true (.step 10 true (.both 7 11 (.step 11 false (.step 12 true (.step 13 false (.step 14 true (.step 15 false .done))))) (.step 7 false (.step 12 true (.step 13 false (.step 14 true (.step 15 false .done))))))))))))))))
    (by kernel_rfl) (by kernel_rfl) (by kernel_rfl) (by kernel_rfl) (fun _ _ _ _ _ h => h) trivial ?_
  repeat
    refine way_pure (v := ?_) rfl (by rfl) (fun W _ => ?_) ?_
    rotate_left
    · go_simp
      with_reducible rfl
    simp only [Act.put, List.setIfInBounds_toArray, List.set_cons_zero, List.set_cons_succ]
  refine way_both rfl (by rfl) rfl (by rfl) (fun K hK => ?_) (fun K hK => ?_)
  all_goals
    first
      | refine wp_load_mid _ _ rfl g _ rfl (itL (f i)) _ (H.out.drew.range HI.out) Tryz.underlying88 rfl infoItem ?_
      | refine wp_load_mid _ _ rfl g _ rfl (itL (f j)) _ (H.out.drew.range HJ.out) Tryz.underlying88 rfl infoItem ?_
    refine hK _ _ (fun _ => True) (fun _ _ => trivial) trivial ?_
    clear hK K
    refine way_make rfl (by rfl) (fun K hK => ?_)
    first
      | refine wp_load_mid _ _ rfl g _ rfl (itL (f i)) _ (H.out.drew.range HI.out) Tryz.underlying88 rfl infoItem ?_
      | refine wp_load_mid _ _ rfl g _ rfl (itL (f j)) _ (H.out.drew.range HJ.out) Tryz.underlying88 rfl infoItem ?_
    refine hK _ _ (fun _ => True) (fun _ _ => trivial) trivial ?_
    clear hK K
    refine way_pure (v := ?_) rfl (by rfl) (fun W _ => ?_) ?_
    rotate_left
    · go_simp
      with_reducible rfl
    simp only [Act.put, List.setIfInBounds_toArray, List.set_cons_zero, List.set_cons_succ]
    refine way_make rfl (by rfl) (fun K hK => ?_)
    refine wp_store_mid _ _ _ rfl g (i * 3) (itL (f j)).toArray rfl rfl (H.out.drew.there HI.out) infoItem (all_oneCell_toArray (itL_one _)) ?_
    refine hK _ _ (fun _ => True) (fun _ _ => trivial) trivial ?_
    clear hK K
    refine way_pure (v := ?_) rfl (by rfl) (fun W _ => ?_) ?_
    rotate_left
    · go_simp
      with_reducible rfl
    simp only [Act.put, List.setIfInBounds_toArray, List.set_cons_zero, List.set_cons_succ]
    refine way_make rfl (by rfl) (fun K hK => ?_)
    refine wp_store_mid _ _ _ rfl g (j * 3) (itL (f i)).toArray rfl rfl ((H.out.drew.store HI.out (f j)).1.there HJ.out) infoItem (all_oneCell_toArray (itL_one _)) ?_
    refine hK _ _ (fun _ => True) (fun _ _ => trivial) trivial ?_
    clear hK K
    refine way_done ?_
    have HS := Lib.hid (H.out.drew.swap HI.out HJ.out)
    generalize (w.drew.setCells g (i * 3) (itL (f j))).setCells g (j * 3) (itL (f i)) = w2 at *
    go_wp2
    go_end0
    exact ⟨rfl, HS.out.1, ⟨HS.out.2.os, HS.out.2.tape, HS.out.2.output, HS.out.2.size, HS.out.2.block⟩⟩
end
end Go.Proofs.YtjflbfianncpfaaGreat

namespace Go.Proofs.YtjflbfianncpfaaGreat
set_option maxRecDepth 100000
open Go.RowKit

/-- One more, and where the slice lies then. -/
theorem accr_push_lies {P : Program} {α : Type} {enc : α → List Value} {k : Nat} {w : World} {base c : Nat} {T : TypeId} {A : Option Addr} {l : List α} (hk : ∀ x, (enc x).length = k) (h1 : ∀ x, ∀ u ∈ enc x, u.oneCell' = true) (hk0 : 0 < k) (h : AccR enc k w base T A c l) (x : α)
    {ST ty : TypeId} {z : Value} {bytes : Nat} (ht : P.underlying ST = some (.slice T)) (hinfo : (P.info? T).map (fun i => (i.zero, i.size, i.bytes)) = some (some z, k, bytes)) (hzs : z.cells.size = k)
    (hbase : base ≤ w.heap.size) (hlen : (l.length + 1) * bytes ≤ 140737488355328) (hml : l.length + 1 ≤ 140737488355328) :
    ∃ A' c' w', (Builtin.append_ #[ST, ST] ty #[.slice A l.length c, .slice (some ⟨w.heap.size, 0, none⟩) 1 1]).run P (w.alloc (.cells (enc x).toArray T)) = .ok (.slice A' (l.length + 1) c') w' ∧
      AccR enc k w' base T A' c' (l ++ [x]) ∧ w.grownBy w' (blk A) ∧ (blk A' = blk A ∨ blk A' = some (w.heap.size + 1)) := by
  have hs : Row enc (w.alloc (.cells (enc x).toArray T)) (w.heap.size + 1) (some ⟨w.heap.size, 0, none⟩) 1 [x] := by
    refine ⟨rfl, fun _ => ⟨w.heap.size, 0, rfl, by omega, fun i hi => ?_⟩⟩
    have hi' : i < (enc x).length := by simpa using hi
    rw [cell_of_row _ _ _ _ _ _ (heap_alloc_new w _)]
    simp [hi']
  obtain ⟨A', c', w', r1, r2, r3, r4⟩ := accr_append (P := P) hk h1 hk0 (h.alloc _) (cc := 1) hs (ty := ty) ht hinfo hzs (by simp; omega) hlen hml
  refine ⟨A', c', w', r1, r2, ⟨r3.os, r3.tape, r3.output, Nat.le_trans (by simp) r3.size, fun i hi hne => (r3.block i (by simp; omega) hne).trans (Below.heap_alloc _ _ _ hi)⟩, ?_⟩
  simpa using r4

/-- The items of a queue as they lie in memory: what is pointed to holds a slice of them. -/
structure Hpl (w : World) (base p g c n : Nat) (f : Nat → Itm) : Prop where
  head : Blk w p 146 [.slice (some ⟨g, 0, none⟩) n c]
  row : Irow w base g c n f
  ge : base ≤ p
  ne : p ≠ g
theorem infoItem3 : (Tryz.prog.info? 88).map (fun i => (i.zero, i.size, i.bytes)) = some (some (.agg #[.int .i64 0, .int .i64 0, .int .i64 0]), 3, 24) := by kernel_rfl
theorem run_typeAssert_item (xT : TypeId) (v : Value) (w : World) : (Instr.typeAssert (.iface 88 v) xT 88 false).run Tryz.prog w = .ok v w := by
  simp [Instr.typeAssert, run_underlying Tryz.underlying88, go_sem, Result.andThen]

section
variable {w w' : World} {base p g c n : Nat} {f : Nat → Itm}
theorem Hpl.cell (h : Hpl w base p g c n f) : w.cell? ⟨p, 0, none⟩ = some (.slice (some ⟨g, 0, none⟩) n c) := h.head.cell 0
theorem Hpl.free (h : Hpl w base p g c n f) : w.frozen? ⟨p, 0, none⟩ = false := h.head.free 0
theorem Hpl.bel (h : Hpl w base p g c n f) (hb : Below w.heap.size w w') : Hpl w' base p g c n f := ⟨h.head.below hb, h.row.bel hb, h.ge, h.ne⟩
theorem Hpl.drew (h : Hpl w base p g c n f) : Hpl w.drew base p g c n f := ⟨h.head.drew, h.row.drew, h.ge, h.ne⟩

/-- What items' Push leaves. -/
def IPushPost (w : World) (base p g n : Nat) (f : Nat → Itm) (x : Itm) (e : Ending) (w' : World) : Prop :=
  e = .returned (.tuple #[]) ∧ ∃ g' c', Hpl w' base p g' c' (n + 1) (iupd f n x) ∧ Turn [p, g] w w' ∧ (g' = g ∨ w.heap.size ≤ g')
theorem ipush_calls (h : Hpl w base p g c n f) (x : Itm) (hn : n ≤ 1099511627776) (hb : base ≤ w.heap.size) :
    Calls Tryz.prog 137 #[.pointer (some ⟨p, 0, none⟩), .iface 88 (.agg (itL x).toArray)] w (IPushPost w base p g n f x) := by
  have H := Lib.hid h
  have HN := Lib.hid hn
  have HB := Lib.hid hb
  have ta := run_typeAssert_item
  obtain ⟨A5, c5, w5, r5, a5, g5, l5⟩ := accr_push_lies (P := Tryz.prog) itL_length itL_one (by omega) (AccR.drew h.row) x (ty := 146) Tryz.underlying146 infoItem3 rfl (show base ≤ w.drew.heap.size from hb) (by rw [hls_length]; omega) (by rw [hls_length]; omega)
  rw [hls_length] at r5
  have R5 := Lib.hid (show (Builtin.append_ #[146, 146] 146 #[.slice (some ⟨g, 0, none⟩) n c, .slice (some ⟨w.heap.size, 0, none⟩) 1 1]).run Tryz.prog (w.alloc (.cells #[.int .i64 x.cost, .int .i64 x.hops, .int .i64 x.node] 88)).drew = .ok (.slice A5 (n + 1) c5) w5 from r5)
  have G5 := Lib.hid (show w.grownBy w5 (some g) from ⟨g5.os, g5.tape, g5.output, g5.size, g5.block⟩)
  have hls1 : hls n f ++ [x] = hls (n + 1) (iupd f n x) := by
    rw [hls_snoc]
    congr 1
    · exact hls_congr (fun k hk => by unfold iupd; rw [if_neg (by omega)])
    · simp [iupd]
  rw [hls1] at a5
  obtain ⟨g', rfl⟩ : ∃ g', A5 = some ⟨g', 0, none⟩ := by
    rcases a5.2 with ⟨_, h0⟩ | ⟨g', cap, cur, hv, _⟩
    · rw [hls_length] at h0; omega
    · injection hv with e; exact ⟨g', e⟩
  have A5 := Lib.hid (show Irow w5 base g' c5 (n + 1) (iupd f n x) from a5)
  have hl5 : g' = g ∨ g' = w.heap.size + 1 := by
    rcases l5 with e | e
    · left; simpa [blk] using e
    · right; simpa [blk] using e
  have L5 := Lib.hid hl5
  have hp5 : Blk w5 p 146 [.slice (some ⟨g, 0, none⟩) n c] := h.head.same (g5.block p h.head.lt (by simp [blk]; exact h.ne))
  have P5 := Lib.hid hp5
  clear h hn hb r5 a5 g5 l5 hls1 hl5 hp5
  have e0 : (Value.agg (itL x).toArray) = .agg #[.int .i64 x.cost, .int .i64 x.hops, .int .i64 x.node] := rfl
  rw [e0]
  clear e0
  go_enter Tryz.func137, Tryz.ntmps137
  go_wp2_with fail
  refine region_way (fun _ => True) (.step 0 true (.step 1 true (.step 2 true (.step 4 true (.step 5 true (.both 3 6 (.step 6 false (.step 7 false (.step 8 true (.step 9 false .done)))) (.step 3 false (.step 7 false (.step 8 true (.step 9 false .done))))))))))
    (by kernel_rfl) (by kernel_rfl) (by kernel_rfl) (by kernel_rfl) (fun _ _ _ _ _ h => h) trivial ?_
  repeat
    refine way_pure (v := ?_) rfl (by rfl) (fun W _ => ?_) ?_
    rotate_left
    · go_simp
      try with_reducible rfl
    simp only [Act.put, List.setIfInBounds_toArray, List.set_cons_zero, List.set_cons_succ]
  refine way_both rfl (by rfl) rfl (by rfl) (fun K hK => ?_) (fun K hK => ?_)
  have hc := H.out.cell
  go_simp
  refine hK _ _ (fun _ => True) (fun _ _ => trivial) trivial ?_
  clear hK K hc
  refine way_make rfl (by rfl) (fun K hK => ?_)
  go_simp
  refine hK _ _ (fun _ => True) (fun _ _ => trivial) trivial ?_
  clear hK K
  refine way_make rfl (by rfl) (fun K hK => ?_)
  refine op_append rfl rfl rfl R5.out ?_
  refine hK _ _ (fun _ => True) (fun _ _ => trivial) trivial ?_
  clear hK K
  rotate_left
  go_simp
  refine hK _ _ (fun _ => True) (fun _ _ => trivial) trivial ?_
  clear hK K
  refine way_make rfl (by rfl) (fun K hK => ?_)
  have hc : (w.alloc (.cells #[.int .i64 x.cost, .int .i64 x.hops, .int .i64 x.node] 88)).cell? ⟨p, 0, none⟩ = some (.slice (some ⟨g, 0, none⟩) n c) := (H.out.head.alloc (.cells #[.int .i64 x.cost, .int .i64 x.hops, .int .i64 x.node] 88)).cell 0
  go_simp
  refine hK _ _ (fun _ => True) (fun _ _ => trivial) trivial ?_
  clear hK K hc
  refine way_make rfl (by rfl) (fun K hK => ?_)
  refine op_append rfl rfl rfl R5.out ?_
  refine hK _ _ (fun _ => True) (fun _ _ => trivial) trivial ?_
  clear hK K
  all_goals
    refine way_pure (v := ?_) rfl (by rfl) (fun W _ => ?_) ?_
    rotate_left
    · go_simp
      try with_reducible rfl
    simp only [Act.put, List.setIfInBounds_toArray, List.set_cons_zero, List.set_cons_succ]
    refine way_make rfl (by rfl) (fun K hK => ?_)
    have f5 := P5.out.free 0
    have c5 : w5.cell? ⟨p, 0, none⟩ = some (.slice (some ⟨g, 0, none⟩) n c) := P5.out.cell 0
    go_simp
    refine hK _ _ (fun _ => True) (fun _ _ => trivial) trivial ?_
    clear hK K f5 c5
    refine way_done ?_
    have n5 : g' ≠ p := by
      have h1 := H.out.ne
      have h2 := H.out.head.lt
      have h3 := L5.out
      omega
    have gs : w5.grownBy (w5.setCell ⟨p, 0, none⟩ (.slice (some ⟨g', 0, none⟩) (n + 1) c5)) (some p) := ⟨rfl, rfl, rfl, by simp, fun k _ hk => heap_setCell_other w5 ⟨p, 0, none⟩ k _ (fun e => hk (by simp [e]))⟩
    have d6 := Lib.hid (show Blk (w5.setCell ⟨p, 0, none⟩ (.slice (some ⟨g', 0, none⟩) (n + 1) c5)) p 146 [.slice (some ⟨g', 0, none⟩) (n + 1) c5] from P5.out.set 0 (.slice (some ⟨g', 0, none⟩) (n + 1) c5))
    have r6 := Lib.hid (show Irow (w5.setCell ⟨p, 0, none⟩ (.slice (some ⟨g', 0, none⟩) (n + 1) c5)) base g' c5 (n + 1) (iupd f n x) from AccR.kept A5.out gs (fun y hy e => n5 (by simp [blk] at hy; injection e with e; omega)))
    have t6 := Lib.hid ((Turn.of_grown G5.out (S := [p, g]) (by simp)).trans (Turn.of_grown gs (S := [p, g]) (by simp)))
    generalize w5.setCell ⟨p, 0, none⟩ (.slice (some ⟨g', 0, none⟩) (n + 1) c5) = w6 at *
    clear gs
    go_wp2
    go_end0
    exact ⟨rfl, g', c5, ⟨d6.out, r6.out, H.out.ge, fun e => n5 e.symm⟩, t6.out, by have := L5.out; omega⟩

/-- What items' Pop leaves. -/
def IPopPost (w : World) (base p g c n : Nat) (f : Nat → Itm) (e : Ending) (w' : World) : Prop :=
  e = .returned (.iface 88 (.agg (itL (f n)).toArray)) ∧ Hpl w' base p g c n f ∧ Turn [p, g] w w'
theorem ipop_calls (h : Hpl w base p g c (n + 1) f) (hn : n ≤ 1099511627776) :
    Calls Tryz.prog 136 #[.pointer (some ⟨p, 0, none⟩)] w (IPopPost w base p g c n f) := by
  have H := Lib.hid h
  obtain ⟨m, hm⟩ : ∃ m, m = n + 1 := ⟨_, rfl⟩
  have hc : w.cell? ⟨p, 0, none⟩ = some (.slice (some ⟨g, 0, none⟩) m c) := by rw [hm]; exact h.cell
  have hr := h.row.range (i := n) (by omega)
  have c0 : w.cell? ⟨g, n * 3, none⟩ = some (.int .i64 (f n).cost) := hr 0 _ rfl
  have c1 : w.cell? ⟨g, n * 3 + 1, none⟩ = some (.int .i64 (f n).hops) := hr 1 _ rfl
  have c2 : w.cell? ⟨g, n * 3 + 2, none⟩ = some (.int .i64 (f n).node) := hr 2 _ rfl
  have hcap := h.row.cap
  have hl := h.head.lt
  have hg := h.row.lt.2
  have hf := h.free
  have x1 : (m : Int) - 1 = (n : Int) := by omega
  have x2 : (n : Int) < (m : Int) := by omega
  have x3 : n ≤ c := by omega
  have HM := Lib.hid hm
  have e0 : (Value.agg (itL (f n)).toArray) = .agg #[.int .i64 (f n).cost, .int .i64 (f n).hops, .int .i64 (f n).node] := rfl
  unfold IPopPost
  rw [e0]
  clear h hr hm hcap e0
  go_enter Tryz.func136, Tryz.ntmps136
  go_wp2_with fail
  have gs : w.grownBy (w.setCell ⟨p, 0, none⟩ (.slice (some ⟨g, 0, none⟩) n c)) (some p) := ⟨rfl, rfl, rfl, by simp, fun k _ hk => heap_setCell_other w ⟨p, 0, none⟩ k _ (fun e => hk (by simp [e]))⟩
  have hd := (H.out.head.set 0 (.slice (some ⟨g, 0, none⟩) n c)).alloc (.cells #[.int .i64 (f n).cost, .int .i64 (f n).hops, .int .i64 (f n).node] 88)
  have hr := (AccR.kept H.out.row.pop gs (fun y hy e => H.out.ne (by simp [blk] at hy; injection e with e; omega))).alloc (.cells #[.int .i64 (f n).cost, .int .i64 (f n).hops, .int .i64 (f n).node] 88)
  have ht := (Turn.of_grown gs (S := [p, g]) (by simp)).trans (Turn.of_below (bel_new (Below.refl _ _) (.cells #[.int .i64 (f n).cost, .int .i64 (f n).hops, .int .i64 (f n).node] 88)))
  go_ret
  exact ⟨rfl, ⟨hd, hr, H.out.ge, H.out.ne⟩, ht⟩
end
end Go.Proofs.YtjflbfianncpfaaGreat

namespace Go.Proofs.YtjflbfianncpfaaGreat
set_option maxRecDepth 100000
open Go.RowKit

/-- A method of a pointer's that is the pointed value's: the value is read. -/
theorem wrap_some (t : TypeId) (a : Addr) (s m : ByteArray) : Builtin.ssaWrapNilChk_ #[t] t #[.pointer (some a), .string s, .string m] = pure (.pointer (some a)) := rfl
theorem meth_val {P : Program} {w : World} (k : Nat) (T el : TypeId) (nm : String) (F : FuncId) (a : Addr) (v : Value) (hm : (P.info? T).map (fun i => (i.methods.find? (·.name == nm)).map (fun m => (m.path, m.func))) = some (some (#[], some (F, false)))) (hu : P.underlying T = some (.pointer el))
    (hl : (loadVar el a).run P w = .ok v w) : (method (k + 1) T (.pointer (some a)) nm).run P w = .ok (F, v) w := by
  obtain ⟨i, hi, hf⟩ := Option.map_eq_some_iff.1 hm
  obtain ⟨m, hf, he⟩ := Option.map_eq_some_iff.1 hf
  injection he with h1 h2
  simp [method, typeInfo, hi, hf, h1, h2, follow, receiverAt, run_underlying hu, Place.get, wrap_some, strVal, asAddr, hl]
theorem load_items {w : World} {a : Addr} {v : Value} (h : w.cell? a = some v) : (loadVar 146 a).run Tryz.prog w = .ok v w := by
  simp [loadVar, isAgg, run_underlying Tryz.underlying146, h, go_sem]
theorem meth_len {w : World} (k : Nat) {a : Addr} {v : Value} (h : w.cell? a = some v) : (method (k + 1) 122 (.pointer (some a)) "Len").run Tryz.prog w = .ok (79, v) w :=
  meth_val k _ 146 _ _ a v (by kernel_rfl) Tryz.underlying122 (load_items h)
theorem meth_less {w : World} (k : Nat) {a : Addr} {v : Value} (h : w.cell? a = some v) : (method (k + 1) 122 (.pointer (some a)) "Less").run Tryz.prog w = .ok (135, v) w :=
  meth_val k _ 146 _ _ a v (by kernel_rfl) Tryz.underlying122 (load_items h)
theorem meth_swap {w : World} (k : Nat) {a : Addr} {v : Value} (h : w.cell? a = some v) : (method (k + 1) 122 (.pointer (some a)) "Swap").run Tryz.prog w = .ok (138, v) w :=
  meth_val k _ 146 _ _ a v (by kernel_rfl) Tryz.underlying122 (load_items h)
theorem meth_push (k : Nat) (a : Addr) (w : World) : (method (k + 1) 122 (.pointer (some a)) "Push").run Tryz.prog w = .ok (137, .pointer (some a)) w := by kernel_rfl
theorem meth_pop (k : Nat) (a : Addr) (w : World) : (method (k + 1) 122 (.pointer (some a)) "Pop").run Tryz.prog w = .ok (136, .pointer (some a)) w := by kernel_rfl

/-- A queue's items as the library's heap takes them. -/
def hpv (p : Nat) : Value := .iface 122 (.pointer (some ⟨p, 0, none⟩))
/-- What up leaves. -/
def UpPost (w : World) (base p g c n : Nat) (f : Nat → Itm) (e : Ending) (w' : World) : Prop :=
  e = .returned (.tuple #[]) ∧ ∃ f', Hpl w' base p g c n f' ∧ Hp iLe n f' ∧ (hls n f').Perm (hls n f) ∧ Turn [p, g] w w'
section
variable {w w' : World} {base p g c n : Nat} {f : Nat → Itm}
theorem Hpl.swap (h : Hpl w base p g c n f) {f' : Nat → Itm} (hr : Irow w' base g c n f') (hg : w.grownBy w' (some g)) : Hpl w' base p g c n f' :=
  ⟨h.head.same (hg.block p h.head.lt (by simp; exact h.ne)), hr, h.ge, h.ne⟩

set_option maxHeartbeats 1600000 in
theorem up_calls (h : Hpl w base p g c n f) (j : Nat) (hj : j < n) (hU : HUp iLe n f j) (hn : n ≤ 1099511627776) :
    Calls Tryz.prog 95 #[hpv p, .int .i64 (j : Int)] w (UpPost w base p g c n f) := by
  have H := Lib.hid h
  have HU := Lib.hid hU
  have HN := Lib.hid hn
  unfold hpv
  clear h hU hn
  go_enter Tryz.func95, Tryz.ntmps95
  go_wp2_with fail
  go_loopw [1] (fun t wr => ∃ (j : Nat) (f1 : Nat → Itm), j < n ∧ t = .int .i64 (j : Int) ∧ Hpl wr base p g c n f1 ∧ HUp iLe n f1 j ∧ (hls n f1).Perm (hls n f) ∧ Turn [p, g] w wr) (fun t wr => (intOf t).toNat)
  case atStart => exact ⟨j, f, hj, rfl, H.out, HU.out, List.Perm.refl _, Turn.refl _ _⟩
  case round =>
    obtain ⟨k, f1, hk, rfl, h1, hU1, hP1, hT1⟩ := hrel
    have H1 := Lib.hid h1
    have U1 := Lib.hid hU1
    have P1 := Lib.hid hP1
    have T1 := Lib.hid hT1
    have HK := Lib.hid hk
    clear h1 hU1 hP1 hT1 hk
    by_cases k0 : k = 0
    · subst k0
      go_wp2
      go_end0
      exact ⟨rfl, f1, H1.out, up_stop U1.out (.inl rfl), P1.out, T1.out⟩
    · obtain ⟨i, hi⟩ : ∃ i, i = par k := ⟨_, rfl⟩
      have hik : i < k := by rw [hi]; exact par_lt (by omega)
      have x0 : k < 1099511627776 := by have := HK.out; have := HN.out; omega
      have hin : i < n := by have := HK.out; omega
      have hq : ((k : Int) - 1).tdiv 2 = (i : Int) := by
        rw [Int.tdiv_eq_ediv_of_nonneg (by omega), hi]
        unfold par
        omega
      have hne : ¬ (i : Int) = (k : Int) := by omega
      have hml := fun m => meth_less (w := wr) m H1.out.cell
      have hcl := iless_calls H1.out.row k i HK.out hin
      have HI := Lib.hid hi
      unfold LessPost at hcl
      clear hi
      go_wp2_with fail
      ((with_reducible refine hcl.mono ?_))
      rintro e w2 ⟨rfl, hb⟩
      have HB := Lib.hid hb
      have H2 := Lib.hid (H1.out.bel hb)
      have T2 := Lib.hid (T1.out.trans (Turn.of_below hb))
      clear hcl hml hb hq
      by_cases hlt : iLt (f1 k) (f1 i)
      · have hms := fun m => meth_swap (w := w2) m H2.out.cell
        have hcs := iswap_calls H2.out.row i k hin HK.out
        unfold SwapPost at hcs
        have HL := Lib.hid hlt
        have hd : decide (iLt (f1 k) (f1 i)) = true := by simpa using hlt
        rw [hd]
        clear hlt hd
        go_wp2_with fail
        ((with_reducible refine hcs.mono ?_))
        rintro e w3 ⟨rfl, hr, hg⟩
        have H3 := Lib.hid (H2.out.swap hr hg)
        have T3 := Lib.hid (T2.out.trans (Turn.of_grown hg (S := [p, g]) (by simp)))
        clear hcs hms hr hg
        go_wp2_with fail
        go_roundw
        case rel =>
          refine ⟨i, hsw f1 i k, hin, rfl, H3.out, ?_, (hls_perm n f1 i k hin HK.out).trans P1.out, T3.out⟩
          rw [HI.out]
          refine up_step iLe_trans U1.out (by omega) HK.out ?_
          rw [← HI.out]
          exact iLe_of_lt HL.out
        case measure => simp [intOf]; omega
      · have HL := Lib.hid hlt
        have hd : decide (iLt (f1 k) (f1 i)) = false := by simpa using hlt
        rw [hd]
        clear hlt hd
        go_wp2
        go_end0
        exact ⟨rfl, f1, H2.out, up_stop U1.out (.inr (by rw [← HI.out]; exact HL.out)), P1.out, T2.out⟩
end
end Go.Proofs.YtjflbfianncpfaaGreat

namespace Go.Proofs.YtjflbfianncpfaaGreat
set_option maxRecDepth 100000
open Go.RowKit

/-- What down leaves. -/
def DownPost (w : World) (base p g c N n : Nat) (f : Nat → Itm) (e : Ending) (w' : World) : Prop :=
  (∃ b : Bool, e = .returned (.bool b)) ∧ ∃ f', Hpl w' base p g c N f' ∧ Hp iLe n f' ∧ (hls n f').Perm (hls n f) ∧ (∀ k, n ≤ k → f' k = f k) ∧ Turn [p, g] w w'
section
variable {w w' : World} {base p g c N n : Nat} {f : Nat → Itm}
set_option maxHeartbeats 1600000 in
theorem down_calls (h : Hpl w base p g c N f) (hD : HDn iLe n f 0) (hnN : n ≤ N) (hn : N ≤ 1099511627776) :
    Calls Tryz.prog 80 #[hpv p, .int .i64 0, .int .i64 (n : Int)] w (DownPost w base p g c N n f) := by
  have H := Lib.hid h
  have HD := Lib.hid hD
  have HN := Lib.hid (And.intro hnN hn)
  unfold hpv
  clear h hD hnN hn
  go_enter Tryz.func80, Tryz.ntmps80
  go_wp2_with fail
  go_loopw [7] (fun t wr => ∃ (i : Nat) (f1 : Nat → Itm), (i < n ∨ i = 0) ∧ t = .int .i64 (i : Int) ∧ Hpl wr base p g c N f1 ∧ HDn iLe n f1 i ∧ (hls n f1).Perm (hls n f) ∧ (∀ k, n ≤ k → f1 k = f k) ∧ Turn [p, g] w wr) (fun t wr => n - (intOf t).toNat)
  case atStart => exact ⟨0, f, .inr rfl, rfl, H.out, HD.out, List.Perm.refl _, fun _ _ => rfl, Turn.refl _ _⟩
  case round =>
    obtain ⟨i, f1, hi, rfl, h1, hD1, hP1, hE1, hT1⟩ := hrel
    have H1 := Lib.hid h1
    have D1 := Lib.hid hD1
    have P1 := Lib.hid hP1
    have E1 := Lib.hid hE1
    have T1 := Lib.hid hT1
    obtain ⟨a, ha⟩ : ∃ a, a = 2 * i + 1 := ⟨_, rfl⟩
    obtain ⟨b, hb⟩ : ∃ b, b = a + 1 := ⟨_, rfl⟩
    have i40 : i < 1099511627776 := by have := HN.out; omega
    have a40 : a < 2199023255552 := by omega
    have xa : 2 * (i : Int) + 1 = (a : Int) := by omega
    have xb : (a : Int) + 1 = (b : Int) := by omega
    have HA := Lib.hid (And.intro ha hb)
    clear h1 hD1 hP1 hE1 hT1 ha hb hi
    by_cases han : n ≤ a
    · go_wp2
      go_ret
      refine ⟨⟨_, rfl⟩, f1, H1.out, down_stop D1.out (fun k k0 kn kp => ?_), P1.out, E1.out, T1.out⟩
      have h2 := HA.out
      rcases (par_iff k0).1 kp with e | e <;> omega
    · have ga : ¬ (n : Int) ≤ (a : Int) := by omega
      have han' : a < n := by omega
      have HAN := Lib.hid han'
      clear han han'
      by_cases hbn : b < n
      · have HBN := Lib.hid hbn
        have gb : (b : Int) < (n : Int) := by omega
        have hml := fun m => meth_less (w := wr) m H1.out.cell
        have hcl := iless_calls H1.out.row b a (by have := HN.out; omega) (by have := HN.out; have := HAN.out; omega)
        unfold LessPost at hcl
        clear hbn
        go_wp2_with fail
        ((with_reducible refine hcl.mono ?_))
        rintro e w2 ⟨rfl, hb⟩
        have H2 := Lib.hid (H1.out.bel hb)
        have T2 := Lib.hid (T1.out.trans (Turn.of_below hb))
        clear hcl hml hb
        by_cases hlt : iLt (f1 b) (f1 a)
        · have hd : decide (iLt (f1 b) (f1 a)) = true := by simpa using hlt
          rw [hd]
          have HL := Lib.hid hlt
          clear hlt hd
          have HJ := Lib.hid (show b < n ∧ par b = i ∧ ∀ k, 0 < k → k < n → par k = i → iLe (f1 b) (f1 k) from (by
            have h2 := HA.out
            refine ⟨HBN.out, (par_iff (by omega)).2 (by omega), fun k k0 kn kp => ?_⟩
            rcases (par_iff k0).1 kp with e | e
            · obtain rfl : k = a := by omega
              exact iLe_of_lt HL.out
            · obtain rfl : k = b := by omega
              exact iLe_refl _))
          have hml2 := fun m => meth_less (w := w2) m H2.out.cell
          have hcl2 := iless_calls H2.out.row b i (by have := HJ.out.1; have := HN.out; omega) (by have := HAN.out; have := HA.out; have := HN.out; omega)
          unfold LessPost at hcl2
          go_wp2_with fail
          ((with_reducible refine hcl2.mono ?_))
          rintro e w3 ⟨rfl, hb⟩
          have H3 := Lib.hid (H2.out.bel hb)
          have T3 := Lib.hid (T2.out.trans (Turn.of_below hb))
          clear hcl2 hml2 hb
          by_cases hlt2 : iLt (f1 b) (f1 i)
          · have hms := fun m => meth_swap (w := w3) m H3.out.cell
            have hcs := iswap_calls H3.out.row i b (by have := HAN.out; have := HA.out; have := HN.out; omega) (by have := HJ.out.1; have := HN.out; omega)
            unfold SwapPost at hcs
            have HL2 := Lib.hid hlt2
            have hd2 : decide (iLt (f1 b) (f1 i)) = true := by simpa using hlt2
            rw [hd2]
            clear hlt2 hd2
            go_wp2_with fail
            ((with_reducible refine hcs.mono ?_))
            rintro e w4 ⟨rfl, hr, hg⟩
            have H4 := Lib.hid (H3.out.swap hr hg)
            have T4 := Lib.hid (T3.out.trans (Turn.of_grown hg (S := [p, g]) (by simp)))
            clear hcs hms hr hg
            go_wp2_with fail
            go_roundw
            case rel =>
              have hin : i < n := by have := HAN.out; have := HA.out; omega
              have hj0 : 0 < b := by have := HA.out; omega
              refine ⟨b, hsw f1 i b, .inl HJ.out.1, rfl, H4.out, ?_, (hls_perm n f1 i b hin HJ.out.1).trans P1.out, fun k hk => ?_, T4.out⟩
              · exact down_step D1.out hj0 HJ.out.1 HJ.out.2.1 (iLe_of_lt HL2.out) HJ.out.2.2
              · rw [hsw_else f1 (by omega) (by have := HJ.out.1; omega)]
                exact E1.out k hk
            case measure => have := HJ.out.1; have := HA.out; simp [intOf]; omega
          · have HL2 := Lib.hid hlt2
            have hd2 : decide (iLt (f1 b) (f1 i)) = false := by simpa using hlt2
            rw [hd2]
            clear hlt2 hd2
            go_wp2
            go_ret
            refine ⟨⟨_, rfl⟩, f1, H3.out, down_stop D1.out (fun k k0 kn kp => ?_), P1.out, E1.out, T3.out⟩
            exact iLe_trans _ _ _ HL2.out (HJ.out.2.2 k k0 kn kp)
        · have hd : decide (iLt (f1 b) (f1 a)) = false := by simpa using hlt
          rw [hd]
          have HL := Lib.hid hlt
          clear hlt hd
          have HJ := Lib.hid (show a < n ∧ par a = i ∧ ∀ k, 0 < k → k < n → par k = i → iLe (f1 a) (f1 k) from (by
            have h2 := HA.out
            refine ⟨HAN.out, (par_iff (by omega)).2 (by omega), fun k k0 kn kp => ?_⟩
            rcases (par_iff k0).1 kp with e | e
            · obtain rfl : k = a := by omega
              exact iLe_refl _
            · obtain rfl : k = b := by omega
              exact HL.out))
          have hml2 := fun m => meth_less (w := w2) m H2.out.cell
          have hcl2 := iless_calls H2.out.row a i (by have := HJ.out.1; have := HN.out; omega) (by have := HAN.out; have := HA.out; have := HN.out; omega)
          unfold LessPost at hcl2
          go_wp2_with fail
          ((with_reducible refine hcl2.mono ?_))
          rintro e w3 ⟨rfl, hb⟩
          have H3 := Lib.hid (H2.out.bel hb)
          have T3 := Lib.hid (T2.out.trans (Turn.of_below hb))
          clear hcl2 hml2 hb
          by_cases hlt2 : iLt (f1 a) (f1 i)
          · have hms := fun m => meth_swap (w := w3) m H3.out.cell
            have hcs := iswap_calls H3.out.row i a (by have := HAN.out; have := HA.out; have := HN.out; omega) (by have := HJ.out.1; have := HN.out; omega)
            unfold SwapPost at hcs
            have HL2 := Lib.hid hlt2
            have hd2 : decide (iLt (f1 a) (f1 i)) = true := by simpa using hlt2
            rw [hd2]
            clear hlt2 hd2
            go_wp2_with fail
            ((with_reducible refine hcs.mono ?_))
            rintro e w4 ⟨rfl, hr, hg⟩
            have H4 := Lib.hid (H3.out.swap hr hg)
            have T4 := Lib.hid (T3.out.trans (Turn.of_grown hg (S := [p, g]) (by simp)))
            clear hcs hms hr hg
            go_wp2_with fail
            go_roundw
            case rel =>
              have hin : i < n := by have := HAN.out; have := HA.out; omega
              have hj0 : 0 < a := by have := HA.out; omega
              refine ⟨a, hsw f1 i a, .inl HJ.out.1, rfl, H4.out, ?_, (hls_perm n f1 i a hin HJ.out.1).trans P1.out, fun k hk => ?_, T4.out⟩
              · exact down_step D1.out hj0 HJ.out.1 HJ.out.2.1 (iLe_of_lt HL2.out) HJ.out.2.2
              · rw [hsw_else f1 (by omega) (by have := HJ.out.1; omega)]
                exact E1.out k hk
            case measure => have := HJ.out.1; have := HA.out; simp [intOf]; omega
          · have HL2 := Lib.hid hlt2
            have hd2 : decide (iLt (f1 a) (f1 i)) = false := by simpa using hlt2
            rw [hd2]
            clear hlt2 hd2
            go_wp2
            go_ret
            refine ⟨⟨_, rfl⟩, f1, H3.out, down_stop D1.out (fun k k0 kn kp => ?_), P1.out, E1.out, T3.out⟩
            exact iLe_trans _ _ _ HL2.out (HJ.out.2.2 k k0 kn kp)
      · have HBN := Lib.hid hbn
        have gb : ¬ (b : Int) < (n : Int) := by omega
        obtain ⟨w2, hw2⟩ : ∃ w2, w2 = wr := ⟨_, rfl⟩
        have H2 := Lib.hid (show Hpl w2 base p g c N f1 from by rw [hw2]; exact H1.out)
        have T2 := Lib.hid (show Turn [p, g] w w2 from by rw [hw2]; exact T1.out)
        subst hw2
        clear hbn
        have HJ := Lib.hid (show a < n ∧ par a = i ∧ ∀ k, 0 < k → k < n → par k = i → iLe (f1 a) (f1 k) from (by
          have h2 := HA.out
          refine ⟨HAN.out, (par_iff (by omega)).2 (by omega), fun k k0 kn kp => ?_⟩
          rcases (par_iff k0).1 kp with e | e
          · obtain rfl : k = a := by omega
            exact iLe_refl _
          · have := HBN.out
            omega))
        have hml2 := fun m => meth_less (w := w2) m H2.out.cell
        have hcl2 := iless_calls H2.out.row a i (by have := HJ.out.1; have := HN.out; omega) (by have := HAN.out; have := HA.out; have := HN.out; omega)
        unfold LessPost at hcl2
        go_wp2_with fail
        ((with_reducible refine hcl2.mono ?_))
        rintro e w3 ⟨rfl, hb⟩
        have H3 := Lib.hid (H2.out.bel hb)
        have T3 := Lib.hid (T2.out.trans (Turn.of_below hb))
        clear hcl2 hml2 hb
        by_cases hlt2 : iLt (f1 a) (f1 i)
        · have hms := fun m => meth_swap (w := w3) m H3.out.cell
          have hcs := iswap_calls H3.out.row i a (by have := HAN.out; have := HA.out; have := HN.out; omega) (by have := HJ.out.1; have := HN.out; omega)
          unfold SwapPost at hcs
          have HL2 := Lib.hid hlt2
          have hd2 : decide (iLt (f1 a) (f1 i)) = true := by simpa using hlt2
          rw [hd2]
          clear hlt2 hd2
          go_wp2_with fail
          ((with_reducible refine hcs.mono ?_))
          rintro e w4 ⟨rfl, hr, hg⟩
          have H4 := Lib.hid (H3.out.swap hr hg)
          have T4 := Lib.hid (T3.out.trans (Turn.of_grown hg (S := [p, g]) (by simp)))
          clear hcs hms hr hg
          go_wp2_with fail
          go_roundw
          case rel =>
            have hin : i < n := by have := HAN.out; have := HA.out; omega
            have hj0 : 0 < a := by have := HA.out; omega
            refine ⟨a, hsw f1 i a, .inl HJ.out.1, rfl, H4.out, ?_, (hls_perm n f1 i a hin HJ.out.1).trans P1.out, fun k hk => ?_, T4.out⟩
            · exact down_step D1.out hj0 HJ.out.1 HJ.out.2.1 (iLe_of_lt HL2.out) HJ.out.2.2
            · rw [hsw_else f1 (by omega) (by have := HJ.out.1; omega)]
              exact E1.out k hk
          case measure => have := HJ.out.1; have := HA.out; simp [intOf]; omega
        · have HL2 := Lib.hid hlt2
          have hd2 : decide (iLt (f1 a) (f1 i)) = false := by simpa using hlt2
          rw [hd2]
          clear hlt2 hd2
          go_wp2
          go_ret
          refine ⟨⟨_, rfl⟩, f1, H3.out, down_stop D1.out (fun k k0 kn kp => ?_), P1.out, E1.out, T3.out⟩
          exact iLe_trans _ _ _ HL2.out (HJ.out.2.2 k k0 kn kp)
end
end Go.Proofs.YtjflbfianncpfaaGreat

namespace Go.Proofs.YtjflbfianncpfaaGreat
set_option maxRecDepth 100000
open Go.RowKit

theorem Turn.wider {w w1 w2 : World} {p g g1 : Nat} (h1 : Turn [p, g] w w1) (h2 : Turn [p, g1] w1 w2) (hg : g1 = g ∨ w.heap.size ≤ g1) : Turn [p, g] w w2 :=
  ⟨h2.os.trans h1.os, h2.tape.trans h1.tape, h2.output.trans h1.output, Nat.le_trans h1.size h2.size, fun k hk hn => by
    have hn' : k ≠ p ∧ k ≠ g := by simpa using hn
    rw [h2.block k (Nat.lt_of_lt_of_le hk h1.size) (by simp; exact ⟨hn'.1, by omega⟩), h1.block k hk hn]⟩

/-- What the library's Push leaves. -/
def HPushPost (w : World) (base p g n : Nat) (f : Nat → Itm) (x : Itm) (e : Ending) (w' : World) : Prop :=
  e = .returned (.tuple #[]) ∧ ∃ g' c' f', Hpl w' base p g' c' (n + 1) f' ∧ Hp iLe (n + 1) f' ∧ (hls (n + 1) f').Perm (hls (n + 1) (iupd f n x)) ∧ Turn [p, g] w w' ∧ (g' = g ∨ w.heap.size ≤ g')
/-- What the library's Pop leaves. -/
def HPopPost (w : World) (base p g n : Nat) (f : Nat → Itm) (e : Ending) (w' : World) : Prop :=
  e = .returned (.iface 88 (.agg (itL (f 0)).toArray)) ∧ ∃ c' f', Hpl w' base p g c' n f' ∧ Hp iLe n f' ∧ (hls n f').Perm (hls n (hsw f 0 n)) ∧ Turn [p, g] w w'
section
variable {w w' : World} {base p g c n : Nat} {f : Nat → Itm}
theorem hpush_calls (h : Hpl w base p g c n f) (hH : Hp iLe n f) (x : Itm) (hn : n ≤ 1073741824) (hb : base ≤ w.heap.size) :
    Calls Tryz.prog 78 #[hpv p, .iface 88 (.agg (itL x).toArray)] w (HPushPost w base p g n f x) := by
  have HH := Lib.hid hH
  have hm := meth_push
  have hc := ipush_calls h x (by omega) hb
  unfold IPushPost at hc
  unfold hpv
  clear h hH hb
  go_enter Tryz.func78, Tryz.ntmps78
  go_wp2_with fail
  ((with_reducible refine hc.mono ?_))
  rintro e w1 ⟨rfl, g1, c1, h1, t1, l1⟩
  have H1 := Lib.hid h1
  have T1 := Lib.hid t1
  have L1 := Lib.hid l1
  clear h1 t1 l1 hc hm
  obtain ⟨m, hm⟩ : ∃ m, m = n + 1 := ⟨_, rfl⟩
  have HM := Lib.hid hm
  rw [← hm] at H1
  have x1 : (m : Int) - 1 = (n : Int) := by omega
  have hml := fun k => meth_len (w := w1) k H1.out.cell
  have hcl := fun w => ilen_calls (some ⟨g1, 0, none⟩) m c1 w
  have x2 : m ≤ 4294967296 := by omega
  clear hm
  go_wp2_with fail
  ((with_reducible refine (hcl _).mono ?_))
  rintro e w2 ⟨rfl, rfl⟩
  have hu : HUp iLe m (iupd f n x) n := by
    rw [HM.out]
    refine up_start (fun k k0 kn => ?_)
    have hpk := par_lt k0
    unfold iupd
    rw [if_neg (by omega), if_neg (by omega)]
    exact HH.out k k0 kn
  have hcu := up_calls H1.out n (by omega) hu (by omega)
  unfold UpPost at hcu
  have HCU := Lib.hid hcu
  clear hcl hml hu hcu
  unfold hpv at HCU
  go_wp2_with fail
  ((with_reducible refine HCU.out.mono ?_))
  rintro e w3 ⟨rfl, f3, h3, hp3, hs3, t3⟩
  clear x1 x2
  go_wp2
  go_end0
  rw [HM.out] at h3 hp3 hs3
  exact ⟨rfl, g1, c1, f3, h3, hp3, hs3, T1.out.wider t3 L1.out, L1.out⟩

theorem hpop_calls (h : Hpl w base p g c (n + 1) f) (hH : Hp iLe (n + 1) f) (hn : n ≤ 1073741824) :
    Calls Tryz.prog 50 #[hpv p] w (HPopPost w base p g n f) := by
  have HH := Lib.hid hH
  have H0 := Lib.hid h
  obtain ⟨m, hm⟩ : ∃ m, m = n + 1 := ⟨_, rfl⟩
  have HM := Lib.hid hm
  rw [← hm] at h
  have H := Lib.hid h
  have x1 : (m : Int) - 1 = (n : Int) := by omega
  have hml := fun k => meth_len (w := w) k h.cell
  have hcl := fun w => ilen_calls (some ⟨g, 0, none⟩) m c w
  have x2 : m ≤ 4294967296 := by omega
  unfold hpv
  clear hm h hH
  go_enter Tryz.func50, Tryz.ntmps50
  go_wp2_with fail
  ((with_reducible refine (hcl _).mono ?_))
  rintro e w2 ⟨rfl, rfl⟩
  clear hml hcl
  have hms := fun k => meth_swap (w := w2) k H.out.cell
  have hcs := iswap_calls H.out.row 0 n (by omega) (by omega)
  rw [show ((0 : Nat) : Int) = 0 from rfl] at hcs
  unfold SwapPost at hcs
  go_wp2_with fail
  ((with_reducible refine hcs.mono ?_))
  rintro e w3 ⟨rfl, hr, hg⟩
  have H3 := Lib.hid (H.out.swap hr hg)
  have T3 := Lib.hid (Turn.of_grown hg (S := [p, g]) (by simp))
  clear hcs hms hr hg
  have hcd := down_calls H3.out (down_start HH.out) (by omega) (by omega)
  unfold DownPost hpv at hcd
  have HCD := Lib.hid hcd
  clear hcd
  go_wp2_with fail
  ((with_reducible refine HCD.out.mono ?_))
  rintro e w4 ⟨⟨bv, rfl⟩, f4, h4, hp4, hs4, he4, t4⟩
  have e4 : f4 n = f 0 := (he4 n (Nat.le_refl _)).trans (hsw_right f 0 n)
  rw [HM.out] at h4
  have hcp := ipop_calls h4 (by omega)
  have hmp := meth_pop
  unfold IPopPost at hcp
  rw [e4] at hcp
  have K4 := Lib.hid (And.intro hp4 hs4)
  have T4 := Lib.hid (T3.out.trans t4)
  clear h4 hp4 hs4 he4 t4 e4
  go_wp2_with fail
  ((with_reducible refine hcp.mono ?_))
  rintro e w5 ⟨rfl, h5, t5⟩
  have H5 := Lib.hid h5
  have T5 := Lib.hid (T4.out.trans t5)
  clear hcp hmp h5 t5
  go_wp2
  go_ret
  exact ⟨rfl, c, f4, H5.out, K4.out.1, K4.out.2, T5.out⟩
end
end Go.Proofs.YtjflbfianncpfaaGreat

namespace Go.Proofs.YtjflbfianncpfaaGreat
set_option maxRecDepth 100000
open Go.RowKit

/-- A queue as it lies in memory, and the items that it has, in order. -/
structure Qe (w : World) (base q p g : Nat) (l : List Itm) : Prop where
  head : Blk w q 124 [.pointer (some ⟨p, 0, none⟩)]
  items : ∃ c f, Hpl w base p g c l.length f ∧ QHp l.length f l
  qp : q ≠ p
  qg : q ≠ g
  qb : base ≤ q
  small : l.length ≤ 1024
section
variable {w w' : World} {base q p g : Nat} {l : List Itm}
theorem Qe.lt (h : Qe w base q p g l) : q < w.heap.size ∧ p < w.heap.size ∧ g < w.heap.size := by
  obtain ⟨c, f, h1, _⟩ := h.items
  exact ⟨h.head.lt, h1.head.lt, h1.row.lt.2⟩
theorem Qe.lo (h : Qe w base q p g l) : base ≤ q ∧ base ≤ p ∧ base ≤ g := by
  obtain ⟨c, f, h1, _⟩ := h.items
  exact ⟨h.qb, h1.ge, h1.row.lt.1⟩
theorem Qe.bel (h : Qe w base q p g l) (hb : Below w.heap.size w w') : Qe w' base q p g l := by
  obtain ⟨c, f, h1, h2⟩ := h.items
  exact ⟨h.head.below hb, ⟨c, f, h1.bel hb, h2⟩, h.qp, h.qg, h.qb, h.small⟩
theorem Qe.drewN (h : Qe w base q p g l) (m : Nat) : Qe (w.drewN m) base q p g l := h.bel (bel_drewN (Below.refl _ _) m)

theorem new10_calls (w : World) : Calls Tryz.prog 44 #[] w fun e w' => ∃ q p g, e = .returned (.pointer (some ⟨q, 0, none⟩)) ∧ Below w.heap.size w w' ∧ Qe w' w.heap.size q p g [] := by
  go_enter Tryz.func44, Tryz.ntmps44
  go_wp2
  go_ret
  refine ⟨w.heap.size + 1 + 1, w.heap.size + 1, w.heap.size, rfl, bel_new (bel_new (bel_new (Below.refl _ _) _) _) _, ?_⟩
  have r1 : Irow (w.alloc (.cells #[] 88)) w.heap.size w.heap.size 0 0 (fun _ => ⟨0, 0, 0⟩) := World.ownsRow_lit w #[] 0 (Nat.le_refl _) (Nat.zero_le _) rfl
  have b1 := Blk.new (w.alloc (.cells #[] 88)) 146 [.slice (some ⟨w.heap.size, 0, none⟩) 0 0]
  have b2 := Blk.new ((w.alloc (.cells #[] 88)).alloc (.cells #[.slice (some ⟨w.heap.size, 0, none⟩) 0 0] 146)) 124 [.pointer (some ⟨w.heap.size + 1, 0, none⟩)]
  have e1 : (w.alloc (.cells #[] 88)).heap.size = w.heap.size + 1 := by simp
  have e2 : ((w.alloc (.cells #[] 88)).alloc (.cells #[.slice (some ⟨w.heap.size, 0, none⟩) 0 0] 146)).heap.size = w.heap.size + 1 + 1 := by simp
  rw [e1] at b1
  rw [e2] at b2
  exact ⟨b2, ⟨0, fun _ => ⟨0, 0, 0⟩, ⟨b1.alloc _, AccR.alloc (AccR.alloc r1 _) _, by omega, by omega⟩, qhp_nil _⟩, by omega, by omega, by omega, by simp⟩

theorem qmade_nil (w : World) : Calls Tryz.prog 48 #[.pointer none] w fun e w' => e = .returned (.bool false) ∧ w' = w := by
  go_enter Tryz.func48, Tryz.ntmps48
  go_wp2
  go_ret
  exact ⟨rfl, rfl⟩
theorem made_zero10 (q : Nat) (w : World) (h : w.cell? ⟨q, 0, none⟩ = some (.pointer none)) : Calls Tryz.prog 48 #[.pointer (some ⟨q, 0, none⟩)] w fun e w' => e = .returned (.bool false) ∧ w' = w := by
  go_enter Tryz.func48, Tryz.ntmps48
  go_wp2
  go_ret
  exact ⟨rfl, rfl⟩
theorem qmade_yes (q p : Nat) (w : World) (h : w.cell? ⟨q, 0, none⟩ = some (.pointer (some ⟨p, 0, none⟩))) : Calls Tryz.prog 48 #[.pointer (some ⟨q, 0, none⟩)] w fun e w' => e = .returned (.bool true) ∧ w' = w := by
  go_enter Tryz.func48, Tryz.ntmps48
  go_wp2
  go_ret
  exact ⟨rfl, rfl⟩
theorem qlen_calls (h : Qe w base q p g l) : Calls Tryz.prog 49 #[.pointer (some ⟨q, 0, none⟩)] w fun e w' => e = .returned (.int .i64 (l.length : Int)) ∧ w' = w := by
  obtain ⟨c, f, h1, _⟩ := h.items
  have hq : w.cell? ⟨q, 0, none⟩ = some (.pointer (some ⟨p, 0, none⟩)) := h.head.cell 0
  have hm := qmade_yes q p w hq
  have hp := h1.cell
  have hl := fun w => ilen_calls (some ⟨g, 0, none⟩) l.length c w
  generalize l.length = n at *
  go_enter Tryz.func49, Tryz.ntmps49
  go_wp2_with fail
  ((with_reducible refine hm.mono ?_))
  rintro e w1 ⟨rfl, rfl⟩
  go_wp2_with fail
  ((with_reducible refine (hl _).mono ?_))
  rintro e w2 ⟨rfl, rfl⟩
  go_wp2
  go_ret
  exact ⟨rfl, rfl⟩

theorem qhp_iupd {n : Nat} {f : Nat → Itm} (h : QHp n f l) (x : Itm) : QHp n (iupd f n x) l := by
  have e : ∀ k, k < n → iupd f n x k = f k := fun k hk => by unfold iupd; rw [if_neg (by omega)]
  refine ⟨fun k k0 kn => ?_, ?_, h.order⟩
  · have hpk := par_lt k0
    rw [e k kn, e (par k) (by omega)]
    exact h.heap k k0 kn
  · rw [hls_congr e]; exact h.same
theorem Qe.cellq (h : Qe w base q p g l) : w.cell? ⟨q, 0, none⟩ = some (.pointer (some ⟨p, 0, none⟩)) := h.head.cell 0
/-- What Push answers, and leaves. -/
def QPushPost (w : World) (base q p g : Nat) (l : List Itm) (x : Itm) (e : Ending) (w' : World) : Prop :=
  e = .returned (.int .i64 (if 1024 ≤ l.length then 7 else 0)) ∧ ∃ g', Qe w' base q p g' (if 1024 ≤ l.length then l else insQ x l) ∧ Turn [p, g] w w' ∧ (g' = g ∨ w.heap.size ≤ g')
set_option maxRecDepth 100000 in
set_option maxHeartbeats 1600000 in
theorem qpush_calls (h : Qe w base q p g l) (x : Itm) (hb : base ≤ w.heap.size) :
    Calls Tryz.prog 47 #[.pointer (some ⟨q, 0, none⟩), .agg (itL x).toArray] w (QPushPost w base q p g l x) := by
  have H := Lib.hid h
  have HB := Lib.hid hb
  have HX := Lib.hid (show (Value.agg (itL x).toArray) = .agg #[.int .i64 x.cost, .int .i64 x.hops, .int .i64 x.node] from rfl)
  rw [HX.out]
  have hm := fun w h => qmade_yes q p w h
  have HM := Lib.hid hm
  have hsm := h.small
  clear h hb hm
  go_enter Tryz.func47, Tryz.ntmps47
  go_wp2_with fail
  have h1 := H.out.bel (bel_new (Below.refl _ _) (.cells #[.int .i64 x.cost, .int .i64 x.hops, .int .i64 x.node] 88))
  have b1 := Blk.new w 88 [.int .i64 x.cost, .int .i64 x.hops, .int .i64 x.node]
  have t1 : Turn [p, g] w (w.alloc (.cells #[.int .i64 x.cost, .int .i64 x.hops, .int .i64 x.node] 88)) := Turn.of_below (bel_new (Below.refl _ _) _)
  generalize w.alloc (.cells #[.int .i64 x.cost, .int .i64 x.hops, .int .i64 x.node] 88) = w1 at *
  have H1 := Lib.hid h1
  have B1 := Lib.hid b1
  have T1 := Lib.hid t1
  clear h1 b1 t1
  have hmm := HM.out w1 H1.out.cellq
  ((with_reducible refine hmm.mono ?_))
  rintro e w2 ⟨rfl, rfl⟩
  clear hmm
  have hl := qlen_calls H1.out
  go_wp2_with fail
  ((with_reducible refine hl.mono ?_))
  rintro e w2 ⟨rfl, rfl⟩
  clear hl
  by_cases hf : 1024 ≤ l.length
  · have gb : (1024 : Int) ≤ (l.length : Int) := by omega
    have HF := Lib.hid hf
    clear hf hsm
    generalize hn : l.length = n at gb ⊢
    have HL := Lib.hid hn
    clear hn
    go_wp2
    go_ret
    unfold QPushPost
    rw [if_pos HF.out]
    exact ⟨rfl, g, by rw [if_pos HF.out]; exact H1.out, T1.out, .inl rfl⟩
  · have gb : ¬ (1024 : Int) ≤ (l.length : Int) := by omega
    have HF := Lib.hid hf
    clear hf hsm
    generalize hn : l.length = n at gb ⊢
    have HL := Lib.hid hn
    clear hn
    go_wp2_with fail
    refine region_seq (fun W => Blk W q 124 [.pointer (some ⟨p, 0, none⟩)] ∧ Blk W w.heap.size 88 [.int .i64 x.cost, .int .i64 x.hops, .int .i64 x.node]) [(0, true), (1, true), (2, true), (3, true), (5, true), (4, true), (6, true), (7, false)]
      (by kernel_rfl) (by kernel_rfl) (by kernel_rfl) (by kernel_rfl) (fun _ _ _ _ _ h => h) ⟨H1.out.head, B1.out⟩ ?_
    repeat
      refine seq_pure (v := ?_) rfl (by rfl) (fun W hW => ?_) ?_
      rotate_left
      · have t0 : W.cell? ⟨q, 0, none⟩ = some (.pointer (some ⟨p, 0, none⟩)) := hW.1.cell 0
        have s0 : W.cell? ⟨w.heap.size, 0, none⟩ = some (.int .i64 x.cost) := hW.2.cell 0
        have s1 : W.cell? ⟨w.heap.size, 1, none⟩ = some (.int .i64 x.hops) := hW.2.cell 1
        have s2 : W.cell? ⟨w.heap.size, 2, none⟩ = some (.int .i64 x.node) := hW.2.cell 2
        clear hW
        go_simp
        try with_reducible rfl
      simp only [Act.put, List.setIfInBounds_toArray, List.set_cons_zero, List.set_cons_succ]
    refine seq_make rfl (by rfl) (fun K hK => ?_)
    go_simp
    obtain ⟨c, f, hi, hq⟩ := H1.out.items
    rw [HL.out] at hi hq
    have hcp := hpush_calls hi.drew hq.heap x (by have := HL.out; have := HF.out; omega) (show base ≤ w2.drew.heap.size from Nat.le_trans HB.out T1.out.size)
    rw [HX.out] at hcp
    unfold hpv HPushPost at hcp
    ((with_reducible refine hcp.mono ?_))
    rintro e w3 ⟨rfl, g3, c3, f3, h3, hp3, hs3, t3, l3⟩
    have q3 : Qe w3 base q p g3 (insQ x l) := by
      have hlt := H1.out.lt
      refine ⟨H1.out.head.same (t3.block q hlt.1 (by simp; exact ⟨H1.out.qp, H1.out.qg⟩)), ⟨c3, f3, ?_⟩, H1.out.qp, ?_, H1.out.qb, ?_⟩
      · rw [insQ_length, HL.out]
        exact ⟨h3, (qhp_iupd hq x).push (by simp [iupd]) hp3 hs3⟩
      · have h5 : w2.drew.heap.size = w2.heap.size := rfl
        have := H1.out.qg
        omega
      · rw [insQ_length]
        have := HF.out
        omega
    have Q3 := Lib.hid q3
    have T3 := Lib.hid (T1.out.trans (show Turn [p, g] w2 w3 from ⟨t3.os, t3.tape, t3.output, t3.size, t3.block⟩))
    have L3 := Lib.hid (show g3 = g ∨ w.heap.size ≤ g3 by
      have h5 : w2.drew.heap.size = w2.heap.size := rfl
      have := T1.out.size
      omega)
    have b3 : Blk w3 w.heap.size 88 [.int .i64 x.cost, .int .i64 x.hops, .int .i64 x.node] := B1.out.same (t3.block _ B1.out.lt (by have h6 := H.out.lt; simp; omega))
    have B3 := Lib.hid b3
    clear hcp hi hq h3 hp3 hs3 t3 l3 q3 b3
    go_simp
    refine hK _ _ (fun W => Blk W q 124 [.pointer (some ⟨p, 0, none⟩)] ∧ Blk W w.heap.size 88 [.int .i64 x.cost, .int .i64 x.hops, .int .i64 x.node]) (fun W h => h) ⟨Q3.out.head, B3.out⟩ ?_
    clear hK K
    refine seq_done ?_
    go_wp2
    go_ret
    unfold QPushPost
    rw [if_neg HF.out]
    exact ⟨rfl, g3, by rw [if_neg HF.out]; exact Q3.out, T3.out, L3.out⟩
end
end Go.Proofs.YtjflbfianncpfaaGreat

namespace Go.Proofs.YtjflbfianncpfaaGreat
set_option maxRecDepth 100000
open Go.RowKit

/-- What is popped, and the error. -/
def hdQ (l : List Itm) : Itm := l.headD ⟨0, 0, 0⟩
def erQ (l : List Itm) : Int := if l = [] then 8 else 0
/-- What Pop answers, and leaves. -/
def QPopPost (w : World) (base q p g : Nat) (l : List Itm) (e : Ending) (w' : World) : Prop :=
  e = .returned (.tuple #[.agg (itL (hdQ l)).toArray, .int .i64 (erQ l)]) ∧ Qe w' base q p g l.tail ∧ Turn [p, g] w w'
section
variable {w w' : World} {base q p g : Nat} {l : List Itm}
theorem Qe.other (h : Qe w base q p g l) {r : Nat} (hg : w.grownBy w' (some r)) (h1 : q ≠ r) (h2 : p ≠ r) (h3 : g ≠ r) : Qe w' base q p g l := by
  obtain ⟨c, f, i1, i2⟩ := h.items
  refine ⟨h.head.same (hg.block q h.lt.1 (by simp; exact h1)), ⟨c, f, ⟨i1.head.same (hg.block p h.lt.2.1 (by simp; exact h2)), AccR.kept i1.row hg (fun y hy e => h3 (by simp [blk] at hy; injection e with e; omega)), i1.ge, i1.ne⟩, i2⟩, h.qp, h.qg, h.qb, h.small⟩
theorem put3 {w : World} {q : Nat} {T : TypeId} {u0 u1 u2 : Value} (h : Blk w q T [u0, u1, u2]) (v0 v1 v2 : Value) : Blk (((w.setCell ⟨q, 0, none⟩ v0).setCell ⟨q, 1, none⟩ v1).setCell ⟨q, 2, none⟩ v2) q T [v0, v1, v2] ∧ w.grownBy (((w.setCell ⟨q, 0, none⟩ v0).setCell ⟨q, 1, none⟩ v1).setCell ⟨q, 2, none⟩ v2) (some q) := by
  have g : ∀ (w : World) (i : Nat) (v : Value), w.grownBy (w.setCell ⟨q, i, none⟩ v) (some q) := fun w i v => ⟨rfl, rfl, rfl, by simp, fun k _ hk => heap_setCell_other w ⟨q, i, none⟩ k _ (fun e => hk (by simp [e]))⟩
  exact ⟨((h.set 0 v0).set 1 v1).set 2 v2, ((g _ _ _).trans (g _ _ _)).trans (g _ _ _)⟩
theorem turn_new {S : List Nat} {w w3 w4 : World} {r : Nat} (h : Turn S w w3) (hg : w3.grownBy w4 (some r)) (hr : w.heap.size ≤ r) : Turn S w w4 :=
  ⟨hg.os.trans h.os, hg.tape.trans h.tape, hg.output.trans h.output, Nat.le_trans h.size hg.size, fun k hk hn => (hg.block k (Nat.lt_of_lt_of_le hk h.size) (by simp; omega)).trans (h.block k hk hn)⟩
set_option maxRecDepth 100000 in
set_option maxHeartbeats 1600000 in
theorem qpop_calls (h : Qe w base q p g l) :
    Calls Tryz.prog 25 #[.pointer (some ⟨q, 0, none⟩)] w (QPopPost w base q p g l) := by
  have H := Lib.hid h
  have hm := fun w h => qmade_yes q p w h
  have HM := Lib.hid hm
  have ta := run_typeAssert_item
  have TA := Lib.hid ta
  clear h hm ta
  go_enter Tryz.func25, Tryz.ntmps25
  go_wp2_with fail
  have h1 := H.out.bel (bel_new (Below.refl _ _) (.cells #[.int .i64 0, .int .i64 0, .int .i64 0] 88))
  have b1 := Blk.new w 88 [.int .i64 0, .int .i64 0, .int .i64 0]
  have t1 : Turn [p, g] w (w.alloc (.cells #[.int .i64 0, .int .i64 0, .int .i64 0] 88)) := Turn.of_below (bel_new (Below.refl _ _) _)
  generalize w.alloc (.cells #[.int .i64 0, .int .i64 0, .int .i64 0] 88) = w1 at *
  have H1 := Lib.hid h1
  have B1 := Lib.hid b1
  have T1 := Lib.hid t1
  clear h1 b1 t1
  have hmm := HM.out w1 H1.out.cellq
  ((with_reducible refine hmm.mono ?_))
  rintro e w2 ⟨rfl, rfl⟩
  clear hmm
  have hl := qlen_calls H1.out
  go_wp2_with fail
  ((with_reducible refine hl.mono ?_))
  rintro e w2 ⟨rfl, rfl⟩
  clear hl
  have n1 : q ≠ w.heap.size ∧ p ≠ w.heap.size ∧ g ≠ w.heap.size := by have := H.out.lt; omega
  have N1 := Lib.hid n1
  clear n1
  cases l with
  | nil =>
    have f0 := B1.out.free 0
    have f1 := B1.out.free 1
    have f2 := B1.out.free 2
    have c0 : w2.cell? ⟨w.heap.size, 0, none⟩ = some (.int .i64 0) := B1.out.cell 0
    have c1 : w2.cell? ⟨w.heap.size, 1, none⟩ = some (.int .i64 0) := B1.out.cell 1
    have c2 : w2.cell? ⟨w.heap.size, 2, none⟩ = some (.int .i64 0) := B1.out.cell 2
    go_wp2_with fail
    have hp := put3 B1.out (.int .i64 0) (.int .i64 0) (.int .i64 0)
    generalize ((w2.setCell ⟨w.heap.size, 0, none⟩ (.int .i64 0)).setCell ⟨w.heap.size, 1, none⟩ (.int .i64 0)).setCell ⟨w.heap.size, 2, none⟩ (.int .i64 0) = w4 at *
    obtain ⟨hb4, hg4⟩ := hp
    have Q4 := Lib.hid (H1.out.other hg4 N1.out.1 N1.out.2.1 N1.out.2.2)
    have T4 := Lib.hid (turn_new T1.out hg4 (Nat.le_refl _))
    have B4 := Lib.hid hb4
    clear hb4 hg4
    refine bodyPost_ret (v := .tuple #[.agg (itL ⟨0, 0, 0⟩).toArray, .int .i64 8]) (results_two8 rfl _ rfl B4.out Tryz.underlying88 rfl infoItem rfl) rfl ?_
    exact ⟨rfl, Q4.out, T4.out⟩
  | cons a r =>
    obtain ⟨m, hm⟩ : ∃ m, m = (a :: r).length := ⟨_, rfl⟩
    have gb : ¬ (m : Int) = 0 := by rw [hm]; simp; omega
    rw [← hm]
    have HL := Lib.hid hm
    have ta := TA.out
    have hq0 := H1.out.cellq
    obtain ⟨c, f, hi, hq⟩ := H1.out.items
    have hh : (a :: r).length = r.length + 1 := rfl
    rw [hh] at hi hq
    have hcp := hpop_calls hi hq.heap (by have := H1.out.small; rw [hh] at this; omega)
    unfold hpv HPopPost at hcp
    have HCP := Lib.hid hcp
    have HQ := Lib.hid hq
    clear hm hcp hi hq hh
    go_wp2_with fail
    ((with_reducible refine HCP.out.mono ?_))
    rintro e w3 ⟨rfl, c3, f3, h3, hp3, hs3, t3⟩
    have q3 : Qe w3 base q p g r := by
      have hlt := H1.out.lt
      exact ⟨H1.out.head.same (t3.block q hlt.1 (by simp; exact ⟨H1.out.qp, H1.out.qg⟩)), ⟨c3, f3, h3, HQ.out.pop hp3 hs3⟩, H1.out.qp, H1.out.qg, H1.out.qb, by have := H1.out.small; simp at this; omega⟩
    have b3 : Blk w3 w.heap.size 88 [.int .i64 0, .int .i64 0, .int .i64 0] := B1.out.same (t3.block _ B1.out.lt (by have h6 := N1.out; simp; omega))
    have Q3 := Lib.hid q3
    have B3 := Lib.hid b3
    have T3 := Lib.hid (T1.out.trans t3)
    have E3 := Lib.hid HQ.out.head
    have ea : (Value.agg (itL (f 0)).toArray) = .agg #[.int .i64 a.cost, .int .i64 a.hops, .int .i64 a.node] := by rw [E3.out]; rfl
    rw [ea]
    clear ea
    clear h3 hp3 hs3 t3 q3 b3 hq0
    have f0 := B3.out.free 0
    have f1 := B3.out.free 1
    have f2 := B3.out.free 2
    have c0 : w3.cell? ⟨w.heap.size, 0, none⟩ = some (.int .i64 0) := B3.out.cell 0
    have c1 : w3.cell? ⟨w.heap.size, 1, none⟩ = some (.int .i64 0) := B3.out.cell 1
    have c2 : w3.cell? ⟨w.heap.size, 2, none⟩ = some (.int .i64 0) := B3.out.cell 2
    go_wp2_with fail
    have hp := put3 B3.out (.int .i64 a.cost) (.int .i64 a.hops) (.int .i64 a.node)
    generalize ((w3.setCell ⟨w.heap.size, 0, none⟩ (.int .i64 a.cost)).setCell ⟨w.heap.size, 1, none⟩ (.int .i64 a.hops)).setCell ⟨w.heap.size, 2, none⟩ (.int .i64 a.node) = w4 at *
    obtain ⟨hb4, hg4⟩ := hp
    have Q4 := Lib.hid (Q3.out.other hg4 N1.out.1 N1.out.2.1 N1.out.2.2)
    have T4 := Lib.hid (turn_new T3.out hg4 (Nat.le_refl _))
    have B4 := Lib.hid hb4
    clear hb4 hg4
    refine bodyPost_ret (v := .tuple #[.agg (itL a).toArray, .int .i64 0]) (results_two8 rfl _ rfl B4.out Tryz.underlying88 rfl infoItem rfl) rfl ?_
    exact ⟨rfl, Q4.out, T4.out⟩
end
end Go.Proofs.YtjflbfianncpfaaGreat

namespace Go.Proofs.YtjflbfianncpfaaGreat
set_option maxRecDepth 100000
open Go.RowKit

def AggPost (x : Itm) (w : World) (e : Ending) (w' : World) : Prop := e = .returned (.agg (itL x).toArray) ∧ Below w.heap.size w w'
end Go.Proofs.YtjflbfianncpfaaGreat

namespace Go.Proofs.YtjflbfianncpfaaGreat
set_option maxRecDepth 100000
open Go.RowKit

/-- A queue that was made since w0, with these items in order. -/
def Qs (w0 w : World) (q : Nat) (l : List Itm) : Prop := Below w0.heap.size w0 w ∧ ∃ p g, Qe w w0.heap.size q p g l
section
variable {w0 w w' : World} {base q p g : Nat} {l : List Itm}
theorem Hpl.lower {c n : Nat} {f : Nat → Itm} (h : Hpl w base p g c n f) {b' : Nat} (hb : b' ≤ base) : Hpl w b' p g c n f := ⟨h.head, AccR.lower h.row hb, Nat.le_trans hb h.ge, h.ne⟩
theorem Qe.lower (h : Qe w base q p g l) {b' : Nat} (hb : b' ≤ base) : Qe w b' q p g l := by
  obtain ⟨c, f, h1, h2⟩ := h.items
  exact ⟨h.head, ⟨c, f, h1.lower hb, h2⟩, h.qp, h.qg, Nat.le_trans hb h.qb, h.small⟩
theorem Qs.bel (h : Qs w0 w q l) (hb : Below w.heap.size w w') : Qs w0 w' q l := by
  obtain ⟨h1, p, g, h2⟩ := h
  exact ⟨h1.trans (hb.mono h1.size), p, g, h2.bel hb⟩
theorem Qs.small (h : Qs w0 w q l) : l.length ≤ 1024 := by obtain ⟨_, p, g, h2⟩ := h; exact h2.small
theorem Qs.sorted (h : Qs w0 w q l) : l.Pairwise iLe := by obtain ⟨_, p, g, h2⟩ := h; obtain ⟨c, f, _, h3⟩ := h2.items; exact h3.order
/-- What New answers. -/
def QsNew (w0 : World) (e : Ending) (w' : World) : Prop := ∃ q, e = .returned (.pointer (some ⟨q, 0, none⟩)) ∧ Qs w0 w' q []
theorem qs_new (hb : Below w0.heap.size w0 w) : Calls Tryz.prog 44 #[] w (QsNew w0) := by
  refine (new10_calls w).mono ?_
  rintro e w' ⟨q, p, g, rfl, h1, h2⟩
  exact ⟨q, rfl, hb.trans (h1.mono hb.size), p, g, h2.lower hb.size⟩
def QsPush (w0 : World) (q : Nat) (l : List Itm) (x : Itm) (e : Ending) (w' : World) : Prop :=
  e = .returned (.int .i64 (if 1024 ≤ l.length then 7 else 0)) ∧ Qs w0 w' q (if 1024 ≤ l.length then l else insQ x l)
theorem qs_push (h : Qs w0 w q l) (x : Itm) : Calls Tryz.prog 47 #[.pointer (some ⟨q, 0, none⟩), .agg (itL x).toArray] w (QsPush w0 q l x) := by
  obtain ⟨h1, p, g, h2⟩ := h
  refine (qpush_calls h2 x h1.size).mono ?_
  rintro e w' ⟨rfl, g', h3, h4, h5⟩
  exact ⟨rfl, h4.bel h1 (Nat.le_refl _) (by have := h2.lo; simp; omega), p, g', h3⟩
def QsPop (w0 : World) (q : Nat) (l : List Itm) (e : Ending) (w' : World) : Prop :=
  e = .returned (.tuple #[.agg (itL (hdQ l)).toArray, .int .i64 (erQ l)]) ∧ Qs w0 w' q l.tail
theorem qs_pop (h : Qs w0 w q l) : Calls Tryz.prog 25 #[.pointer (some ⟨q, 0, none⟩)] w (QsPop w0 q l) := by
  obtain ⟨h1, p, g, h2⟩ := h
  refine (qpop_calls h2).mono ?_
  rintro e w' ⟨rfl, h3, h4⟩
  exact ⟨rfl, h4.bel h1 (Nat.le_refl _) (by have := h2.lo; simp; omega), p, g, h3⟩
theorem qs_len (h : Qs w0 w q l) : Calls Tryz.prog 49 #[.pointer (some ⟨q, 0, none⟩)] w fun e w' => e = .returned (.int .i64 (l.length : Int)) ∧ w' = w := by
  obtain ⟨_, p, g, h2⟩ := h
  exact qlen_calls h2
end

end Go.Proofs.YtjflbfianncpfaaGreat
