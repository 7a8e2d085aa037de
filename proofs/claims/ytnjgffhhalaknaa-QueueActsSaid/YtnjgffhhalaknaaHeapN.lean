/-
  A queue of items, plain: the document's list in order, what a heap holds beside it, and what is left when the least goes. No condition.
-/
import Derived.Test.YtnjgffhhalaknaaHeapM
namespace Go.Proofs.Ytnjgffhhalaknaa

/-- One item more, behind all that it is not less than. -/
def insQ (x : Itm) : List Itm → List Itm
  | [] => [x]
  | y :: r => if iLt x y then x :: y :: r else y :: insQ x r
theorem insQ_perm (x : Itm) : ∀ l, (insQ x l).Perm (x :: l)
  | [] => List.Perm.refl _
  | y :: r => by
    unfold insQ
    split
    · exact List.Perm.refl _
    · exact ((insQ_perm x r).cons y).trans (List.Perm.swap x y r)
theorem insQ_length (x : Itm) (l : List Itm) : (insQ x l).length = l.length + 1 := by simpa using (insQ_perm x l).length_eq
theorem insQ_sorted (x : Itm) : ∀ l, l.Pairwise iLe → (insQ x l).Pairwise iLe
  | [], _ => by simp [insQ]
  | y :: r, h => by
    have h' := List.pairwise_cons.1 h
    unfold insQ
    split
    · rename_i hl
      refine List.pairwise_cons.2 ⟨fun z hz => ?_, h⟩
      rcases List.mem_cons.1 hz with rfl | hz
      · exact iLe_of_lt hl
      · exact iLe_trans _ _ _ (iLe_of_lt hl) (h'.1 z hz)
    · rename_i hl
      refine List.pairwise_cons.2 ⟨fun z hz => ?_, insQ_sorted x r h'.2⟩
      rcases List.mem_cons.1 ((insQ_perm x r).mem_iff.1 hz) with rfl | hz
      · exact hl
      · exact h'.1 z hz
/-- The place where the loop stops is where the item comes. -/
theorem insQ_cut (x : Itm) : ∀ (l : List Itm) (i : Nat), i ≤ l.length → (∀ k y, k < i → l[k]? = some y → ¬ iLt x y) → (∀ y, l[i]? = some y → iLt x y) → insQ x l = l.take i ++ x :: l.drop i
  | [], i, hi, _, _ => by
    have : i = 0 := by simpa using hi
    subst this
    simp [insQ]
  | y :: r, 0, _, _, h => by
    have := h y rfl
    simp [insQ, this]
  | y :: r, i + 1, hi, hb, h => by
    have h0 := hb 0 y (by omega) rfl
    have ih := insQ_cut x r i (by simpa using hi) (fun k z hk hz => hb (k + 1) z (by omega) (by simpa using hz)) (fun z hz => h z (by simpa using hz))
    simp [insQ, h0, ih]

/-- What a queue holds beside the document's list: the same items, as a heap. -/
structure QHp (n : Nat) (f : Nat → Itm) (l : List Itm) : Prop where
  heap : Hp iLe n f
  same : (hls n f).Perm l
  order : l.Pairwise iLe
theorem QHp.len {n : Nat} {f : Nat → Itm} {l : List Itm} (h : QHp n f l) : n = l.length := by simpa [hls_length] using h.same.length_eq
theorem qhp_nil (f : Nat → Itm) : QHp 0 f [] := ⟨fun k h0 h1 => by omega, by simp [hls], List.Pairwise.nil⟩
/-- The first place holds the least: the document's first one. -/
theorem QHp.head {n : Nat} {f : Nat → Itm} {a : Itm} {l : List Itm} (h : QHp (n + 1) f (a :: l)) : f 0 = a := by
  refine least_unique (l := hls (n + 1) f) (l' := a :: l) h.same ?_ (List.mem_cons_self ..) (fun x hx => ?_) (fun x hx => ?_)
  · exact List.mem_of_getElem? (hls_get (n + 1) f 0 (by omega))
  · obtain ⟨k, hk⟩ := List.getElem?_of_mem hx
    have hkn : k < n + 1 := by
      rcases Nat.lt_or_ge k (n + 1) with h1 | h1
      · exact h1
      · rw [List.getElem?_eq_none (by rw [hls_length]; exact h1)] at hk; simp at hk
    rw [hls_get _ _ _ hkn] at hk
    simp at hk
    subst hk
    exact heap_least iLe_refl iLe_trans h.heap k hkn
  · rcases List.mem_cons.1 hx with rfl | hx
    · exact iLe_refl _
    · exact (List.pairwise_cons.1 h.order).1 x hx
/-- When the least has gone to the end and is taken off, the others are left. -/
theorem QHp.rest {n : Nat} {f : Nat → Itm} {a : Itm} {l : List Itm} (h : QHp (n + 1) f (a :: l)) : (hls n (hsw f 0 n)).Perm l := by
  have h1 := hls_perm (n + 1) f 0 n (by omega) (by omega)
  rw [hls_snoc, hsw_right, h.head] at h1
  have h2 : (a :: hls n (hsw f 0 n)).Perm (a :: l) := (List.perm_append_comm (l₁ := [a])).trans (h1.trans h.same)
  exact h2.cons_inv
/-- One more. -/
theorem QHp.push {n : Nat} {f g : Nat → Itm} {x : Itm} {l : List Itm} (h : QHp n f l) (hx : f n = x) (hg : Hp iLe (n + 1) g) (hp : (hls (n + 1) g).Perm (hls (n + 1) f)) : QHp (n + 1) g (insQ x l) := by
  refine ⟨hg, hp.trans ?_, insQ_sorted x l h.order⟩
  rw [hls_snoc, hx]
  exact ((List.perm_append_comm (l₂ := [x])).trans (h.same.cons x)).trans (insQ_perm x l).symm
/-- The least goes. -/
theorem QHp.pop {n : Nat} {f g : Nat → Itm} {a : Itm} {l : List Itm} (h : QHp (n + 1) f (a :: l)) (hg : Hp iLe n g) (hp : (hls n g).Perm (hls n (hsw f 0 n))) : QHp n g l :=
  ⟨hg, hp.trans h.rest, (List.pairwise_cons.1 h.order).2⟩
end Go.Proofs.Ytnjgffhhalaknaa
