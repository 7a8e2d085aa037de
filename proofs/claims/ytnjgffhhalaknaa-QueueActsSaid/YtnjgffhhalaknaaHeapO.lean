/-
  Items of a list that are struck out one by one, plain. No condition.
-/
import Derived.Test.YtnjgffhhalaknaaHeapN
namespace Go.Proofs.Ytnjgffhhalaknaa

/-- What is not yet struck out. -/
def rmn : List Itm → List Bool → List Itm
  | x :: l, b :: h => if b then rmn l h else x :: rmn l h
  | _, _ => []
theorem rmn_none : ∀ (l : List Itm), rmn l (List.replicate l.length false) = l
  | [] => by simp [rmn]
  | x :: l => by simp [rmn, List.replicate_succ, rmn_none l]
theorem rmn_mem (x : Itm) : ∀ (l : List Itm) (h : List Bool), x ∈ rmn l h → ∃ k : Nat, l[k]? = some x ∧ h[k]? = some false
  | [], _, hx => by simp [rmn] at hx
  | _ :: _, [], hx => by simp [rmn] at hx
  | y :: l, b :: h, hx => by
    unfold rmn at hx
    split at hx
    · obtain ⟨k, h1, h2⟩ := rmn_mem x l h hx
      exact ⟨k + 1, by simpa using h1, by simpa using h2⟩
    · rename_i hb
      rcases List.mem_cons.1 hx with rfl | hx
      · exact ⟨0, rfl, by simpa using hb⟩
      · obtain ⟨k, h1, h2⟩ := rmn_mem x l h hx
        exact ⟨k + 1, by simpa using h1, by simpa using h2⟩
theorem rmn_set (x : Itm) : ∀ (l : List Itm) (h : List Bool) (k : Nat), l[k]? = some x → h[k]? = some false → (x :: rmn l (h.set k true)).Perm (rmn l h)
  | [], _, _, h1, _ => by simp at h1
  | _ :: _, [], _, _, h2 => by simp at h2
  | y :: l, b :: h, 0, h1, h2 => by
    simp at h1 h2
    subst h1
    subst h2
    simp [rmn]
  | y :: l, b :: h, k + 1, h1, h2 => by
    have ih := rmn_set x l h k (by simpa using h1) (by simpa using h2)
    simp only [List.set_cons_succ, rmn]
    split
    · exact ih
    · exact (List.Perm.swap y x _).trans (ih.cons y)
/-- The least of the rest goes: what is struck out of the list is what went. -/
theorem rmn_pop {a : Itm} {q l : List Itm} {h : List Bool} {k : Nat} (hq : (a :: q).Perm (rmn l h)) (h1 : l[k]? = some a) (h2 : h[k]? = some false) : q.Perm (rmn l (h.set k true)) :=
  (hq.trans (rmn_set a l h k h1 h2).symm).cons_inv
theorem rmn_has {a : Itm} {q l : List Itm} {h : List Bool} (hq : (a :: q).Perm (rmn l h)) : ∃ k : Nat, l[k]? = some a ∧ h[k]? = some false :=
  rmn_mem a l h (hq.mem_iff.1 (List.mem_cons_self ..))

/-- The queue that pushes alone have filled. -/
def pushQ : List Itm → List Itm := fun l => l.foldl (fun q x => insQ x q) []
theorem pushQ_snoc (l : List Itm) (x : Itm) : pushQ (l ++ [x]) = insQ x (pushQ l) := by simp [pushQ]
theorem pushQ_perm (l : List Itm) : (pushQ l).Perm l := by
  have : ∀ (r q : List Itm), (r.foldl (fun q x => insQ x q) q).Perm (r ++ q) := by
    intro r
    induction r with
    | nil => intro q; simp
    | cons x r ih =>
      intro q
      simp only [List.foldl_cons]
      refine (ih _).trans ?_
      refine ((insQ_perm x q).append_left r).trans ?_
      simp
  simpa [pushQ] using this l []
theorem pushQ_sorted (l : List Itm) : (pushQ l).Pairwise iLe := by
  have : ∀ (r q : List Itm), q.Pairwise iLe → (r.foldl (fun q x => insQ x q) q).Pairwise iLe := by
    intro r
    induction r with
    | nil => intro q h; simpa using h
    | cons x r ih => intro q h; exact ih _ (insQ_sorted x q h)
  exact this l [] List.Pairwise.nil
end Go.Proofs.Ytnjgffhhalaknaa
