/-
  The code's way to the best route (cspf), plain: one route is noted for each node and each number of links, places are left in the order of what they cost, each link that leads on is offered; the first one that comes to the end is the best. No condition.
-/
import Derived.Test.YtjflbfianncpfaaGreatCspM
import Derived.Test.YtjflbfianncpfaaGreatSpfD
namespace Go.Proofs.YtjflbfianncpfaaGreat
set_option maxRecDepth 100000
set_option linter.unusedVariables false

/-- A way that may come to a node twice. -/
inductive Wk (L : List Lk) (a : Int) : Int → Int → List Int → Prop
  | one : Wk L a a 0 [a]
  | ext {x c : Int} {r : List Int} (z : Lk) : Wk L a x c r → z ∈ L → z.f = x → Wk L a z.t (c + z.m) (r ++ [z.t])
section
variable {n : Int} {L : List Lk} {a x c : Int} {r : List Int}
theorem Wy.wk (h : Wy L a x c r) : Wk L a x c r := by
  induction h with
  | one => exact .one
  | ext z _ hz hf _ ih => exact .ext z ih hz hf
theorem Wk.len (h : Wk L a x c r) : 1 ≤ r.length := by cases h <;> simp
theorem Wk.cost (hL : NetOk n L) (h : Wk L a x c r) : (r.length : Int) - 1 ≤ c ∧ c ≤ ((r.length : Int) - 1) * 65535 := by
  induction h with
  | one => simp
  | ext z hw hz hf ih =>
    have := hL z hz
    simp only [List.length_append, List.length_singleton]
    omega
theorem Wk.inn (hL : NetOk n L) (ha : 0 ≤ a ∧ a < n) (h : Wk L a x c r) : 0 ≤ x ∧ x < n := by
  cases h with
  | one => exact ha
  | ext z hw hz hf => have := hL z hz; omega
theorem Wk.last (h : Wk L a x c r) : r[r.length - 1]? = some x := by
  cases h with
  | one => rfl
  | ext z hw hz hf => simp
/-- Each such way is a route, or costs more than one with no more nodes. -/
theorem Wk.wy (hL : NetOk n L) (h : Wk L a x c r) : ∃ c' r', Wy L a x c' r' ∧ c' ≤ c ∧ r'.length ≤ r.length ∧ (Wy L a x c r ∨ c' < c) := by
  induction h with
  | one => exact ⟨_, _, .one, Int.le_refl _, Nat.le_refl _, .inl .one⟩
  | ext z hw hz hf ih =>
    rename_i x0 c0 r0
    subst hf
    obtain ⟨c1, r1, h1, h2, h3, h4⟩ := ih
    have hm := hL z hz
    simp only [List.length_append, List.length_singleton]
    have key : ∀ {c2 : Int} {r2 : List Int}, Wy L a z.f c2 r2 → c2 ≤ c0 → r2.length ≤ r0.length → z.t ∈ r2 → ∃ c' r', Wy L a z.t c' r' ∧ c' < c0 + z.m ∧ r'.length ≤ r0.length + 1 := by
      intro c2 r2 k1 k2 k3 k4
      by_cases e : z.t = z.f
      · rw [e]
        exact ⟨c2, r2, k1, by omega, by omega⟩
      · obtain ⟨c3, r3, j1, j2, j3⟩ := k1.front17 hL z.t k4 e
        exact ⟨c3, r3, j1, by omega, by omega⟩
    by_cases ht : z.t ∈ r1
    · obtain ⟨c', r', k1, k2, k3⟩ := key h1 h2 h3 ht
      exact ⟨c', r', k1, by omega, k3, .inr k2⟩
    · rcases h4 with h4 | h4
      · by_cases h5 : z.t ∈ r0
        · obtain ⟨c', r', k1, k2, k3⟩ := key h4 (Int.le_refl _) (Nat.le_refl _) h5
          exact ⟨c', r', k1, by omega, k3, .inr k2⟩
        · exact ⟨_, _, .ext z h4 hz rfl h5, Int.le_refl _, by simp, .inl (.ext z h4 hz rfl h5)⟩
      · exact ⟨_, _, .ext z h1 hz rfl ht, by omega, by simp; omega, .inr (by omega)⟩
end

/-- What is noted, by the last node and the number of links. -/
abbrev Nt := Int → Nat → Option (Int × List Int)
/-- One note more, in place of the one that was there. -/
def nset (N : Nt) (x : Int) (j : Nat) (p : Int × List Int) : Nt := fun y i => if y = x ∧ i = j then some p else N y i
theorem nset_same (N : Nt) (x : Int) (j : Nat) (p : Int × List Int) : nset N x j p x j = some p := by simp [nset]
theorem nset_other (N : Nt) {x y : Int} {j i : Nat} (p : Int × List Int) (h : ¬ (y = x ∧ i = j)) : nset N x j p y i = N y i := by unfold nset; rw [if_neg h]
/-- The first note. -/
def nt0 (a : Int) : Nt := nset (fun _ _ => none) a 0 (0, [a])

/-- What is noted while places are left: those of D have been left, the links of F were offered, and what waits costs k or more. -/
structure Dj17 (L : List Lk) (a : Int) (M : Nat) (N : Nt) (Q : List Itm) (D : List (Int × Nat)) (F : Lk → Nat → Prop) (k : Int) : Prop where
  way : ∀ x j c r, N x j = some (c, r) → Wk L a x c r ∧ r.length = j + 1 ∧ j ≤ M
  start : N a 0 = some (0, [a])
  left : ∀ z ∈ L, ∀ j, F z j → (z.f, j) ∈ D
  fin : ∀ z ∈ L, ∀ j, j < M → F z j → ∃ c r p, N z.f j = some (c, r) ∧ N z.t (j + 1) = some p ∧ ¬ bet (c + z.m, r ++ [z.t]) p
  wait : ∀ x j c r, N x j = some (c, r) → (x, j) ∉ D → ⟨c, (j : Int), x⟩ ∈ Q
  que : ∀ q ∈ Q, k ≤ q.cost ∧ ∃ j : Nat, q.hops = (j : Int) ∧ j ≤ M ∧ ∃ c r, N q.node j = some (c, r) ∧ c ≤ q.cost
  done : ∀ x j, (x, j) ∈ D → ∃ c r, N x j = some (c, r) ∧ c ≤ k
  sort : Q.Pairwise iLe
section
variable {n : Int} {L : List Lk} {a : Int} {M : Nat} {N : Nt} {Q : List Itm} {D : List (Int × Nat)} {F : Lk → Nat → Prop} {k : Int}

/-- The first one comes out of the queue. -/
theorem Dj17.pop {q : Itm} {j : Nat} (hj : q.hops = (j : Int)) (h : Dj17 L a M N (q :: Q) D F k) : Dj17 L a M N Q ((q.node, j) :: D) F q.cost ∧ ((q.node, j) ∉ D → ∃ r, N q.node j = some (q.cost, r)) := by
  have hs := List.pairwise_cons.1 h.sort
  have hcost : ∀ y ∈ Q, q.cost ≤ y.cost := fun y hy => by have := hs.1 y hy; unfold iLe iLt at this; omega
  obtain ⟨q2, j', e', hjM, c, r, q3, q4⟩ := h.que q (List.mem_cons_self ..)
  obtain rfl : j = j' := by omega
  refine ⟨⟨h.way, h.start, fun z hz i hF => List.mem_cons_of_mem _ (h.left z hz i hF), h.fin, ?_, ?_, ?_, hs.2⟩, ?_⟩
  · intro x i c r hx hn
    rcases List.mem_cons.1 (h.wait x i c r hx (fun hm => hn (List.mem_cons_of_mem _ hm))) with e | hy
    · refine absurd ?_ hn
      rw [← e] at hj ⊢
      simp only at hj
      obtain rfl : i = j := by omega
      exact List.mem_cons_self ..
    · exact hy
  · intro y hy
    obtain ⟨p2, p3⟩ := h.que y (List.mem_cons_of_mem _ hy)
    exact ⟨hcost y hy, p3⟩
  · intro x i hx
    rcases List.mem_cons.1 hx with e | hx
    · injection e with e1 e2
      subst e1
      subst e2
      exact ⟨c, r, q3, q4⟩
    · obtain ⟨c', r', p2, p3⟩ := h.done x i hx
      exact ⟨c', r', p2, by omega⟩
  · intro hn
    have hy := h.wait _ j c r q3 hn
    have : c = q.cost := by
      rcases List.mem_cons.1 hy with e | hy
      · rw [← e]
      · have := hcost _ hy; simp only at this; omega
    exact ⟨r, by rw [q3, this]⟩

/-- A link is offered, and taken. -/
theorem Dj17.yes (hL : NetOk n L) (h : Dj17 L a M N Q D F k) {z : Lk} (hz : z ∈ L) {j : Nat} (hjM : j < M) {c : Int} {r : List Int} (hx : N z.f j = some (c, r)) (hD : (z.f, j) ∈ D) (hk : c = k ∨ F z j)
    (hb : ∀ p, N z.t (j + 1) = some p → bet (c + z.m, r ++ [z.t]) p) :
    ¬ F z j ∧ (z.t, j + 1) ∉ D ∧ Dj17 L a M (nset N z.t (j + 1) (c + z.m, r ++ [z.t])) (insQ ⟨c + z.m, ((j + 1 : Nat) : Int), z.t⟩ Q) D (fun y i => F y i ∨ (y = z ∧ i = j)) k := by
  have hm := hL z hz
  have hnF : ¬ F z j := fun hF => by
    obtain ⟨c', r', p, e1, e2, e3⟩ := h.fin z hz j hjM hF
    rw [hx] at e1
    injection e1 with e1
    injection e1 with e4 e5
    subst e4 e5
    exact e3 (hb p e2)
  have hck : c = k := hk.resolve_right hnF
  have hw0 := h.way _ _ _ _ hx
  have htD : (z.t, j + 1) ∉ D := fun ht => by
    obtain ⟨c', r', e1, e2⟩ := h.done _ _ ht
    have := bet_cost (bet_asymm (hb _ e1))
    simp only at this
    omega
  have hw := Wk.ext z hw0.1 hz rfl
  have st : ∀ y i, ¬ (y = z.t ∧ i = j + 1) → nset N z.t (j + 1) (c + z.m, r ++ [z.t]) y i = N y i := fun y i hn => nset_other N _ hn
  have stD : ∀ y i, (y, i) ∈ D → nset N z.t (j + 1) (c + z.m, r ++ [z.t]) y i = N y i := fun y i hy => st y i (fun e => htD (by rw [← e.1, ← e.2]; exact hy))
  refine ⟨hnF, htD, ⟨?_, ?_, ?_, ?_, ?_, ?_, ?_, insQ_sorted _ _ h.sort⟩⟩
  · intro x i c' r' he
    by_cases e : x = z.t ∧ i = j + 1
    · obtain ⟨rfl, rfl⟩ := e
      rw [nset_same] at he
      injection he with he
      injection he with e1 e2
      subst e1 e2
      exact ⟨hw, by simp [hw0.2.1], by omega⟩
    · rw [st _ _ e] at he
      exact h.way x i c' r' he
  · rw [st _ _ (by omega)]; exact h.start
  · intro y hy i hF
    rcases hF with hF | ⟨rfl, rfl⟩
    · exact h.left y hy i hF
    · exact hD
  · intro y hy i hi hF
    rcases hF with hF | ⟨rfl, rfl⟩
    · obtain ⟨c', r', p, e1, e2, e3⟩ := h.fin y hy i hi hF
      have hyf := h.left y hy i hF
      by_cases e : y.t = z.t ∧ i + 1 = j + 1
      · refine ⟨c', r', _, by rw [stD _ _ hyf]; exact e1, by rw [e.1, e.2]; exact nset_same _ _ _ _, ?_⟩
        exact nbet_trans (bet_asymm (hb p (by rw [← e.1, ← e.2]; exact e2))) e3
      · exact ⟨c', r', p, by rw [stD _ _ hyf]; exact e1, by rw [st _ _ e]; exact e2, e3⟩
    · exact ⟨c, r, _, by rw [stD _ _ hD]; exact hx, nset_same _ _ _ _, bet_irrefl _⟩
  · intro x i c' r' he hn
    by_cases e : x = z.t ∧ i = j + 1
    · obtain ⟨rfl, rfl⟩ := e
      rw [nset_same] at he
      injection he with he
      injection he with e1 e2
      subst e1
      exact (insQ_perm _ _).mem_iff.2 (List.mem_cons_self ..)
    · rw [st _ _ e] at he
      exact (insQ_perm _ _).mem_iff.2 (List.mem_cons_of_mem _ (h.wait x i c' r' he hn))
  · intro q hq
    rcases List.mem_cons.1 ((insQ_perm _ _).mem_iff.1 hq) with rfl | hq
    · exact ⟨by simp only; omega, j + 1, rfl, by omega, c + z.m, r ++ [z.t], nset_same _ _ _ _, by simp only; omega⟩
    · obtain ⟨q2, i, q5, q6, c', r', q3, q4⟩ := h.que q hq
      refine ⟨q2, i, q5, q6, ?_⟩
      by_cases e : q.node = z.t ∧ i = j + 1
      · rw [e.1, e.2] at q3 ⊢
        have := bet_cost (bet_asymm (hb _ q3))
        simp only at this
        exact ⟨_, _, nset_same _ _ _ _, by omega⟩
      · exact ⟨c', r', by rw [st _ _ e]; exact q3, q4⟩
  · intro x i hx
    rw [stD x i hx]
    exact h.done x i hx

/-- A link is offered, and not taken. -/
theorem Dj17.no (h : Dj17 L a M N Q D F k) {z : Lk} {j : Nat} {c : Int} {r : List Int} {p : Int × List Int} (hx : N z.f j = some (c, r)) (hD : (z.f, j) ∈ D) (hp : N z.t (j + 1) = some p) (hb : ¬ bet (c + z.m, r ++ [z.t]) p) :
    Dj17 L a M N Q D (fun y i => F y i ∨ (y = z ∧ i = j)) k := by
  refine ⟨h.way, h.start, ?_, ?_, h.wait, h.que, h.done, h.sort⟩
  · intro y hy i hF
    rcases hF with hF | ⟨rfl, rfl⟩
    · exact h.left y hy i hF
    · exact hD
  · intro y hy i hi hF
    rcases hF with hF | ⟨rfl, rfl⟩
    · exact h.fin y hy i hi hF
    · exact ⟨c, r, p, hx, hp, hb⟩
/-- Fewer links are spoken of. -/
theorem Dj17.less {F' : Lk → Nat → Prop} (h : Dj17 L a M N Q D F k) (hF : ∀ z ∈ L, ∀ j, j < M → F' z j → F z j) (hl : ∀ z ∈ L, ∀ j, F' z j → (z.f, j) ∈ D) : Dj17 L a M N Q D F' k :=
  ⟨h.way, h.start, hl, fun z hz j hj hf => h.fin z hz j hj (hF z hz j hj hf), h.wait, h.que, h.done, h.sort⟩
/-- What leads to a place is known, or something waits that costs less. -/
theorem Dj17.cover (hL : NetOk n L) (h : Dj17 L a M N Q D (fun z j => (z.f, j) ∈ D) k) {x c : Int} {r : List Int} (hw : Wk L a x c r) : ∀ j, r.length = j + 1 → j ≤ M →
    (∃ p, N x j = some p ∧ ¬ bet (c, r) p ∧ ((x, j) ∈ D ∨ ⟨p.1, (j : Int), x⟩ ∈ Q)) ∨ ∃ q ∈ Q, q.cost < c := by
  have fin : ∀ {x : Int} {j : Nat} {p : Int × List Int}, N x j = some p → (x, j) ∈ D ∨ ⟨p.1, (j : Int), x⟩ ∈ Q := fun {x j p} hp => by
    by_cases hd : (x, j) ∈ D
    · exact .inl hd
    · exact .inr (h.wait x j p.1 p.2 hp hd)
  induction hw with
  | one =>
    intro j hj _
    obtain rfl : j = 0 := by simpa using hj
    exact .inl ⟨_, h.start, bet_irrefl _, fin h.start⟩
  | ext z hw hz hf ih =>
    rename_i x0 c0 r0
    subst hf
    intro j hj hjM
    have hm := hL z hz
    simp only [List.length_append, List.length_singleton] at hj
    have hl := hw.len
    obtain ⟨i, rfl⟩ : ∃ i, j = i + 1 := ⟨j - 1, by omega⟩
    rcases ih i (by omega) (by omega) with ⟨p, h1, h2, h3⟩ | ⟨q, h1, h2⟩
    · rcases h3 with h3 | h3
      · obtain ⟨c1, r1, p', e1, e2, e3⟩ := h.fin z hz i (by omega) h3
        rw [h1] at e1
        injection e1 with e1
        subst e1
        refine .inl ⟨p', e2, nbet_trans e3 ?_, fin e2⟩
        rcases bet_total (c0, r0) (c1, r1) with e | e | e
        · exact absurd e h2
        · injection e with e4 e5
          subst e4
          subst e5
          exact bet_irrefl _
        · exact bet_asymm (bet_snoc e z.m z.t)
      · have := bet_cost h2
        exact .inr ⟨_, h3, by simp only at this ⊢; omega⟩
    · exact .inr ⟨q, h1, by omega⟩
/-- The first one that comes to the end is the best. -/
theorem Dj17.best (hL : NetOk n L) {q : Itm} (h : Dj17 L a M N (q :: Q) D (fun z j => (z.f, j) ∈ D) k) (hno : ∀ j, (q.node, j) ∉ D) : ∃ (j : Nat) (r : List Int), q.hops = (j : Int) ∧ N q.node j = some (q.cost, r) ∧ Wy L a q.node q.cost r ∧ r.length = j + 1 ∧ j ≤ M ∧
    ∀ c' r', Wk L a q.node c' r' → r'.length ≤ M + 1 → ¬ bet (c', r') (q.cost, r) := by
  obtain ⟨_, j, hj, hjM, _⟩ := h.que q (List.mem_cons_self ..)
  obtain ⟨r, hr⟩ := (h.pop hj).2 (hno j)
  have hs := List.pairwise_cons.1 h.sort
  have hle : ∀ y ∈ q :: Q, q.cost < y.cost ∨ (q.cost = y.cost ∧ q.hops ≤ y.hops) := fun y hy => by
    rcases List.mem_cons.1 hy with rfl | hy
    · exact .inr ⟨rfl, Int.le_refl _⟩
    · have := hs.1 y hy; unfold iLe iLt at this; omega
  have hw := h.way _ _ _ _ hr
  have hbest : ∀ c' r', Wk L a q.node c' r' → r'.length ≤ M + 1 → ¬ bet (c', r') (q.cost, r) := by
    intro c' r' hw' hl'
    have hl1 := hw'.len
    rcases h.cover hL hw' (r'.length - 1) (by omega) (by omega) with ⟨p, h1, h2, h3⟩ | ⟨y, h1, h2⟩
    · rcases h3 with h3 | h3
      · exact absurd h3 (hno _)
      · have hp := h.way _ _ _ _ h1
        rcases hle _ h3 with e | ⟨e1, e2⟩
        · simp only at e
          exact nbet_trans (q := p) (bet_asymm (.inl e)) h2
        · simp only at e1 e2
          by_cases e3 : j = r'.length - 1
          · rw [← e3] at h1
            rw [h1] at hr
            injection hr with hr
            subst hr
            exact h2
          · exact nbet_trans (q := p) (bet_asymm (.inr ⟨e1, .inl (by simp only; omega)⟩)) h2
    · intro hb
      have h4 := hle y h1
      have h5 : c' ≤ q.cost := by
        rcases hb with hb | hb
        · simp only at hb; omega
        · have := hb.1; simp only at this; omega
      omega
  refine ⟨j, r, hj, hr, ?_, hw.2.1, hw.2.2, hbest⟩
  obtain ⟨c', r', k1, k2, k3, k4⟩ := hw.1.wy hL
  rcases k4 with k4 | k4
  · exact k4
  · exact absurd (.inl k4) (hbest c' r' k1.wk (by have := hw.2; omega))
/-- Nothing waits any more, and the end was not come to: no way leads there. -/
theorem Dj17.none (hL : NetOk n L) {b : Int} (h : Dj17 L a M N [] D (fun z j => (z.f, j) ∈ D) k) (hno : ∀ j, (b, j) ∉ D) : ∀ c r, Wk L a b c r → ¬ r.length ≤ M + 1 := by
  intro c r hw hl
  have hl1 := hw.len
  rcases h.cover hL hw (r.length - 1) (by omega) (by omega) with ⟨p, h1, h2, h3⟩ | ⟨y, h1, h2⟩
  · rcases h3 with h3 | h3
    · exact hno _ h3
    · cases h3
  · cases h1
/-- At first the first node waits. -/
theorem dj17_first : Dj17 L a M (nt0 a) [⟨0, 0, a⟩] [] (fun z j => (z.f, j) ∈ ([] : List (Int × Nat))) 0 := by
  have one : ∀ x j c r, nt0 a x j = some (c, r) → x = a ∧ j = 0 ∧ c = 0 ∧ r = [a] := fun x j c r h => by
    unfold nt0 nset at h
    split at h
    · rename_i e
      injection h with h
      injection h with h1 h2
      exact ⟨e.1, e.2, h1.symm, h2.symm⟩
    · cases h
  refine ⟨?_, nset_same _ _ _ _, fun z _ j h => (by cases h), fun z _ j _ h => (by cases h), ?_, ?_, fun x j h => (by cases h), by simp⟩
  · intro x j c r h
    obtain ⟨rfl, rfl, rfl, rfl⟩ := one x j c r h
    exact ⟨.one, rfl, Nat.zero_le _⟩
  · intro x j c r h _
    obtain ⟨rfl, rfl, rfl, rfl⟩ := one x j c r h
    exact List.mem_cons_self ..
  · intro q hq
    obtain rfl : q = ⟨0, 0, a⟩ := by simpa using hq
    exact ⟨Int.le_refl _, 0, rfl, Nat.zero_le _, 0, [a], nset_same _ _ _ _, Int.le_refl _⟩
end

/-- How many links lead on from places that have not been left, of fewer than M links. -/
def rest17 (L : List Lk) (D : List (Int × Nat)) : Nat → Nat
  | 0 => 0
  | m + 1 => rest17 L D m + L.countP (fun z => decide ((z.f, m) ∉ D))
theorem rest17_le (L : List Lk) (D : List (Int × Nat)) : ∀ m, rest17 L D m ≤ m * L.length
  | 0 => by simp [rest17]
  | m + 1 => by
    have h1 := rest17_le L D m
    have h2 := List.countP_le_length (p := fun z : Lk => decide ((z.f, m) ∉ D)) (l := L)
    unfold rest17
    rw [Nat.succ_mul]
    omega
theorem rest17_old (L : List Lk) {D : List (Int × Nat)} {p : Int × Nat} (h : p ∈ D) : ∀ m, rest17 L (p :: D) m = rest17 L D m
  | 0 => rfl
  | m + 1 => by
    unfold rest17
    rw [rest17_old L h m]
    congr 1
    refine List.countP_congr fun z _ => ?_
    simp only [List.mem_cons, decide_eq_true_eq]
    constructor
    · exact fun hn hm => hn (.inr hm)
    · rintro hn (e | hm)
      · exact hn (e ▸ h)
      · exact hn hm
theorem count_one17 (L : List Lk) (D : List (Int × Nat)) (p : Int × Nat) (m : Nat) : L.countP (fun z => decide ((z.f, m) ∉ p :: D)) ≤ L.countP (fun z => decide ((z.f, m) ∉ D)) := by
  refine List.countP_mono_left fun z _ h => ?_
  simp only [List.mem_cons, decide_eq_true_eq] at h ⊢
  exact fun hm => h (.inr hm)
theorem rest17_mono (L : List Lk) (D : List (Int × Nat)) (p : Int × Nat) : ∀ m, rest17 L (p :: D) m ≤ rest17 L D m
  | 0 => Nat.le_refl _
  | m + 1 => by
    have h1 := rest17_mono L D p m
    have h2 := count_one17 L D p m
    unfold rest17
    omega
theorem count_new17 : ∀ (L : List Lk) {D : List (Int × Nat)} {x : Int} {m : Nat}, (x, m) ∉ D → L.countP (fun z => decide ((z.f, m) ∉ (x, m) :: D)) + L.countP (fun z => z.f == x) = L.countP (fun z => decide ((z.f, m) ∉ D))
  | [], D, x, m, _ => rfl
  | z :: L, D, x, m, h => by
    have ih := count_new17 L h
    simp only [List.mem_cons, not_or, Bool.decide_and, decide_not] at ih ⊢
    rw [List.countP_cons, List.countP_cons, List.countP_cons]
    by_cases e : z.f = x
    · have h1 : (z.f, m) ∉ D := by rw [e]; exact h
      simp [e, h]
      simp at ih
      omega
    · by_cases hD : (z.f, m) ∈ D
      · simp [e, hD]
        simp at ih
        omega
      · simp [e, hD]
        simp at ih
        omega
theorem rest17_new (L : List Lk) {D : List (Int × Nat)} {x : Int} {j : Nat} (h : (x, j) ∉ D) : ∀ m, j < m → rest17 L ((x, j) :: D) m + L.countP (fun z => z.f == x) ≤ rest17 L D m
  | 0, hm => by omega
  | m + 1, hm => by
    unfold rest17
    rcases Nat.lt_or_ge j m with h1 | h1
    · have h2 := rest17_new L h m h1
      have h3 := count_one17 L D (x, j) m
      omega
    · obtain rfl : m = j := by omega
      have h2 := rest17_mono L D (x, m) m
      have h3 := count_new17 L h
      omega

/-- The most links that a route may have. -/
def most17 (H : Int) : Nat := if H = 0 then 15 else (min H 15).toNat
section
variable {n H : Int} {L : List Lk} {a b c : Int} {r : List Int}
theorem lim_most (hL : NetOk n L) (ha : 0 ≤ a ∧ a < n) (hn : n ≤ 16) (hH : 0 ≤ H) (hw : Wy L a b c r) : Lim17 H r ↔ r.length ≤ most17 H + 1 := by
  have h1 := hw.short hL ha
  have h2 := hw.len
  unfold Lim17 most17
  by_cases h : H = 0
  · rw [if_pos h]
    constructor
    · intro _; omega
    · intro _; exact .inl h
  · rw [if_neg h]
    constructor
    · intro h3
      rcases h3 with h3 | h3
      · omega
      · omega
    · intro h3
      right
      omega
end
end Go.Proofs.YtjflbfianncpfaaGreat
