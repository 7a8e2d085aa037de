/-
  The code's best routes, plain: nodes are left in the order of what they cost, each link is offered; what is noted in the end is the best. No condition.
-/
import Derived.Test.YtjflbfianncpfaaGreatSpfMO
import Derived.Test.YtjflbfianncpfaaGreatHeapQ
import Derived.Test.YtjflbfianncpfaaGreatGraphDL
namespace Go.Proofs.YtjflbfianncpfaaGreat
set_option maxRecDepth 100000

/-- What is noted while nodes are left: those of D have been left, the links of F were offered, and what waits costs k or more. -/
structure Djk (n : Int) (L : List Lk) (a : Int) (S : List (Option (Int × List Int))) (Q : List Itm) (D : List Int) (F : Lk → Prop) (k : Int) : Prop where
  len : (S.length : Int) = n
  way : ∀ x c r, 0 ≤ x → x < n → sat S x = some (c, r) → Wy L a x c r
  start : sat S a = some (0, [a])
  left : ∀ z ∈ L, F z → z.f ∈ D
  fin : ∀ z ∈ L, F z → ∃ c r p, sat S z.f = some (c, r) ∧ sat S z.t = some p ∧ ¬ bet (c + z.m, r ++ [z.t]) p
  wait : ∀ x c r, 0 ≤ x → x < n → sat S x = some (c, r) → x ∉ D → ∃ q ∈ Q, q.cost = c ∧ q.node = x
  que : ∀ q ∈ Q, 0 ≤ q.node ∧ q.node < n ∧ k ≤ q.cost ∧ ∃ c r, sat S q.node = some (c, r) ∧ c ≤ q.cost
  done : ∀ x ∈ D, 0 ≤ x ∧ x < n ∧ ∃ c r, sat S x = some (c, r) ∧ c ≤ k
  path : ∀ x c r, 0 ≤ x → x < n → sat S x = some (c, r) → ∀ t ∈ r, t ≠ x → t ∈ D
  sort : Q.Pairwise iLe
section
variable {n : Int} {L : List Lk} {a : Int} {S : List (Option (Int × List Int))} {Q : List Itm} {D : List Int} {F : Lk → Prop} {k : Int}

/-- The first one comes out of the queue. -/
theorem Djk.pop {q : Itm} (h : Djk n L a S (q :: Q) D F k) : Djk n L a S Q (q.node :: D) F q.cost ∧ (q.node ∉ D → ∃ r, sat S q.node = some (q.cost, r)) := by
  have hs := List.pairwise_cons.1 h.sort
  have hcost : ∀ y ∈ Q, q.cost ≤ y.cost := fun y hy => by have := hs.1 y hy; unfold iLe iLt at this; omega
  obtain ⟨q0, q1, q2, c, r, q3, q4⟩ := h.que q (List.mem_cons_self ..)
  refine ⟨⟨h.len, h.way, h.start, fun z hz hF => List.mem_cons_of_mem _ (h.left z hz hF), h.fin, ?_, ?_, ?_, ?_, hs.2⟩, ?_⟩
  · intro x c r hx0 hx1 hx hn
    obtain ⟨y, hy, e1, e2⟩ := h.wait x c r hx0 hx1 hx (fun hm => hn (List.mem_cons_of_mem _ hm))
    rcases List.mem_cons.1 hy with rfl | hy
    · exact absurd (by rw [← e2]; exact List.mem_cons_self ..) hn
    · exact ⟨y, hy, e1, e2⟩
  · intro y hy
    obtain ⟨p0, p1, p2, p3⟩ := h.que y (List.mem_cons_of_mem _ hy)
    exact ⟨p0, p1, hcost y hy, p3⟩
  · intro x hx
    rcases List.mem_cons.1 hx with rfl | hx
    · exact ⟨q0, q1, c, r, q3, q4⟩
    · obtain ⟨p0, p1, c', r', p2, p3⟩ := h.done x hx
      exact ⟨p0, p1, c', r', p2, by omega⟩
  · intro x c r h0 h1 hx t ht hne
    exact List.mem_cons_of_mem _ (h.path x c r h0 h1 hx t ht hne)
  · intro hn
    obtain ⟨y, hy, e1, e2⟩ := h.wait _ c r q0 q1 q3 hn
    have : c = q.cost := by
      rcases List.mem_cons.1 hy with rfl | hy
      · exact e1.symm
      · have := hcost y hy; omega
    exact ⟨r, by rw [q3, this]⟩

/-- A link is offered, and taken. -/
theorem Djk.yes (hL : NetOk n L) (ha : 0 ≤ a ∧ a < n) (h : Djk n L a S Q D F k) {z : Lk} (hz : z ∈ L) {c : Int} {r : List Int} (hx : sat S z.f = some (c, r)) (hD : z.f ∈ D) (hk : c = k ∨ F z)
    (hb : ∀ p, sat S z.t = some p → bet (c + z.m, r ++ [z.t]) p) (hp : Int) :
    ¬ F z ∧ z.t ∉ D ∧ Djk n L a (S.set z.t.toNat (some (c + z.m, r ++ [z.t]))) (insQ ⟨c + z.m, hp, z.t⟩ Q) D (fun y => F y ∨ y = z) k := by
  have hm := hL z hz
  have hnF : ¬ F z := fun hF => by
    obtain ⟨c', r', p, e1, e2, e3⟩ := h.fin z hz hF
    rw [hx] at e1
    injection e1 with e1
    injection e1 with e4 e5
    subst e4 e5
    exact e3 (hb p e2)
  have hck : c = k := hk.resolve_right hnF
  have hw0 := h.way _ _ _ hm.1 hm.2.1 hx
  have hc0 : 0 ≤ c := hw0.cost0 hL
  have htD : z.t ∉ D := fun ht => by
    obtain ⟨_, _, c', r', e1, e2⟩ := h.done _ ht
    have := bet_cost (bet_asymm (hb _ e1))
    simp only at this
    omega
  have htx : z.t ≠ z.f := fun e => htD (e ▸ hD)
  have htr : z.t ∉ r := fun ht => htD (h.path z.f c r hm.1 hm.2.1 hx z.t ht htx)
  have hw := Wy.ext z hw0 hz rfl htr
  have hta : z.t ≠ a := fun e => by
    have := bet_cost (bet_asymm (hb (0, [a]) (by rw [e]; exact h.start)))
    simp only at this
    omega
  have st := fun x hx => sat_set (S := S) (t := z.t) (some (c + z.m, r ++ [z.t])) x ⟨hm.2.2.1, by rw [h.len]; exact hm.2.2.2.1⟩ hx
  have stD : ∀ x ∈ D, sat (S.set z.t.toNat (some (c + z.m, r ++ [z.t]))) x = sat S x := fun x hx => by
    rw [st x (h.done x hx).1, if_neg (fun e => htD (by rw [← e]; exact hx))]
  refine ⟨hnF, htD, ⟨by rw [List.length_set]; exact h.len, ?_, ?_, ?_, ?_, ?_, ?_, ?_, ?_, insQ_sorted _ _ h.sort⟩⟩
  · intro x c' r' h0 h1 he
    rw [st x h0] at he
    by_cases e : x = z.t
    · subst e
      rw [if_pos rfl] at he
      injection he with he
      injection he with e1 e2
      subst e1 e2
      exact hw
    · rw [if_neg e] at he
      exact h.way x c' r' h0 h1 he
  · rw [st a ha.1, if_neg (Ne.symm hta)]; exact h.start
  · intro y hy hF
    rcases hF with hF | rfl
    · exact h.left y hy hF
    · exact hD
  · intro y hy hF
    rcases hF with hF | rfl
    · obtain ⟨c', r', p, e1, e2, e3⟩ := h.fin y hy hF
      have hyf := h.left y hy hF
      have hyt := (hL y hy).2.2.1
      by_cases e : y.t = z.t
      · refine ⟨c', r', _, by rw [stD _ hyf]; exact e1, by rw [st _ hyt, if_pos e], ?_⟩
        exact nbet_trans (bet_asymm (hb p (by rw [← e]; exact e2))) e3
      · exact ⟨c', r', p, by rw [stD _ hyf]; exact e1, by rw [st _ hyt, if_neg e]; exact e2, e3⟩
    · exact ⟨c, r, _, by rw [stD _ hD]; exact hx, by rw [st _ hm.2.2.1, if_pos rfl], bet_irrefl _⟩
  · intro x c' r' h0 h1 he hn
    rw [st x h0] at he
    by_cases e : x = z.t
    · subst e
      rw [if_pos rfl] at he
      injection he with he
      injection he with e1 e2
      exact ⟨_, (insQ_perm _ _).mem_iff.2 (List.mem_cons_self ..), e1, rfl⟩
    · rw [if_neg e] at he
      obtain ⟨q, hq, e1, e2⟩ := h.wait x c' r' h0 h1 he hn
      exact ⟨q, (insQ_perm _ _).mem_iff.2 (List.mem_cons_of_mem _ hq), e1, e2⟩
  · intro q hq
    rcases List.mem_cons.1 ((insQ_perm _ _).mem_iff.1 hq) with rfl | hq
    · exact ⟨hm.2.2.1, hm.2.2.2.1, by simp only; omega, c + z.m, r ++ [z.t], by simp only; rw [st _ hm.2.2.1, if_pos rfl], by simp only; omega⟩
    · obtain ⟨q0, q1, q2, c', r', q3, q4⟩ := h.que q hq
      refine ⟨q0, q1, q2, ?_⟩
      rw [st _ q0]
      by_cases e : q.node = z.t
      · rw [if_pos e]
        have := bet_cost (bet_asymm (hb _ (by rw [← e]; exact q3)))
        simp only at this
        exact ⟨_, _, rfl, by omega⟩
      · rw [if_neg e]; exact ⟨c', r', q3, q4⟩
  · intro x hx
    rw [stD x hx]
    exact h.done x hx
  · intro x c' r' h0 h1 he t ht hne
    rw [st x h0] at he
    by_cases e : x = z.t
    · subst e
      rw [if_pos rfl] at he
      injection he with he
      injection he with e1 e2
      subst e1 e2
      rcases List.mem_append.1 ht with ht | ht
      · by_cases e : t = z.f
        · rw [e]; exact hD
        · exact h.path z.f c r hm.1 hm.2.1 hx t ht e
      · exact absurd (by simpa using ht) hne
    · rw [if_neg e] at he
      exact h.path x c' r' h0 h1 he t ht hne

/-- A link is offered, and not taken. -/
theorem Djk.no (h : Djk n L a S Q D F k) {z : Lk} {c : Int} {r : List Int} {p : Int × List Int} (hx : sat S z.f = some (c, r)) (hD : z.f ∈ D) (hp : sat S z.t = some p) (hb : ¬ bet (c + z.m, r ++ [z.t]) p) :
    Djk n L a S Q D (fun y => F y ∨ y = z) k := by
  refine ⟨h.len, h.way, h.start, ?_, ?_, h.wait, h.que, h.done, h.path, h.sort⟩
  · intro y hy hF
    rcases hF with hF | rfl
    · exact h.left y hy hF
    · exact hD
  · intro y hy hF
    rcases hF with hF | rfl
    · exact h.fin y hy hF
    · exact ⟨c, r, p, hx, hp, hb⟩
/-- Fewer links are spoken of. -/
theorem Djk.less {F' : Lk → Prop} (h : Djk n L a S Q D F k) (hF : ∀ z ∈ L, F' z → F z) : Djk n L a S Q D F' k :=
  ⟨h.len, h.way, h.start, fun z hz hf => h.left z hz (hF z hz hf), fun z hz hf => h.fin z hz (hF z hz hf), h.wait, h.que, h.done, h.path, h.sort⟩
/-- Nothing waits any more: what is noted is the best. -/
theorem Djk.all (hL : NetOk n L) (ha : 0 ≤ a ∧ a < n) (h : Djk n L a S [] D (fun z => z.f ∈ D) k) : AllW n L a S := by
  have hout : ∀ x, 0 ≤ x → x < n → (if 0 ≤ x ∧ x < n then sat S x else none) = sat S x := fun x h0 h1 => if_pos ⟨h0, h1⟩
  have hst := stable_all (n := n) (L := L) (a := a) hL (out := fun x => if 0 ≤ x ∧ x < n then sat S x else none) (fun x c r he => by
      by_cases hx : 0 ≤ x ∧ x < n
      · rw [if_pos hx] at he; exact h.way x c r hx.1 hx.2 he
      · rw [if_neg hx] at he; cases he) (by rw [hout a ha.1 ha.2]; exact h.start) (fun z hz c r he _ => by
      have hm := hL z hz
      rw [hout _ hm.1 hm.2.1] at he
      rw [hout _ hm.2.2.1 hm.2.2.2.1]
      have hD : z.f ∈ D := by
        refine Classical.byContradiction fun hn => ?_
        obtain ⟨q, hq, _⟩ := h.wait z.f c r hm.1 hm.2.1 he hn
        cases hq
      obtain ⟨c', r', p, e1, e2, e3⟩ := h.fin z hz hD
      rw [he] at e1
      injection e1 with e1
      injection e1 with e4 e5
      subst e4 e5
      exact ⟨p, e2, e3⟩)
  exact ⟨h.len, fun x c r h0 h1 he => (hst x).1 c r (by rw [hout x h0 h1]; exact he), fun x h0 h1 he => (hst x).2 (by rw [hout x h0 h1]; exact he)⟩
/-- The first node, at first. -/
theorem djk_first (ha : 0 ≤ a ∧ a < n) : Djk n L a (st0 n a) [⟨0, 0, a⟩] [] (fun z => z.f ∈ ([] : List Int)) 0 := by
  have hlen : (((List.replicate n.toNat none : List (Option (Int × List Int))).length : Nat) : Int) = n := by simp; omega
  have st : ∀ x, 0 ≤ x → sat (st0 n a) x = if x = a then some (0, [a]) else none := fun x hx => by
    unfold st0
    rw [sat_set _ x ⟨ha.1, by rw [hlen]; exact ha.2⟩ hx]
    by_cases e : x = a
    · rw [if_pos e, if_pos e]
    · rw [if_neg e, if_neg e]
      unfold sat
      simp [List.getD_eq_getElem?_getD, List.getElem?_replicate]
      split <;> rfl
  have one : ∀ x c r, 0 ≤ x → sat (st0 n a) x = some (c, r) → x = a ∧ c = 0 ∧ r = [a] := fun x c r h0 he => by
    rw [st x h0] at he
    by_cases e : x = a
    · rw [if_pos e] at he
      injection he with he
      injection he with e1 e2
      exact ⟨e, e1.symm, e2.symm⟩
    · rw [if_neg e] at he; cases he
  refine ⟨by unfold st0; rw [List.length_set]; exact hlen, ?_, by rw [st a ha.1, if_pos rfl], fun z _ hz => hz, fun z _ hz => absurd hz (by simp), ?_, ?_, fun x hx => absurd hx (by simp), ?_, by simp⟩
  · intro x c r h0 h1 he
    obtain ⟨rfl, rfl, rfl⟩ := one x c r h0 he
    exact Wy.one
  · intro x c r h0 h1 he _
    obtain ⟨rfl, rfl, rfl⟩ := one x c r h0 he
    exact ⟨_, List.mem_cons_self .., rfl, rfl⟩
  · intro q hq
    obtain rfl : q = ⟨0, 0, a⟩ := by simpa using hq
    exact ⟨ha.1, ha.2, Int.le_refl _, 0, [a], by rw [st a ha.1, if_pos rfl], Int.le_refl _⟩
  · intro x c r h0 h1 he t ht hne
    obtain ⟨rfl, rfl, rfl⟩ := one x c r h0 he
    exact absurd (by simpa using ht) hne
end

/-- How many links lead from nodes that have not been left. -/
def rest (L : List Lk) (D : List Int) : Nat := L.countP (fun z => decide (z.f ∉ D))
theorem rest_le (L : List Lk) (D : List Int) : rest L D ≤ L.length := List.countP_le_length
theorem rest_old (L : List Lk) {D : List Int} {x : Int} (h : x ∈ D) : rest L (x :: D) = rest L D := by
  unfold rest
  refine List.countP_congr fun z _ => ?_
  simp only [List.mem_cons, decide_eq_true_eq]
  constructor
  · exact fun hn hm => hn (.inr hm)
  · rintro hn (e | hm)
    · exact hn (e ▸ h)
    · exact hn hm
theorem rest_new : ∀ (L : List Lk) {D : List Int} {x : Int}, x ∉ D → rest L (x :: D) + L.countP (fun z => z.f == x) = rest L D
  | [], D, x, _ => rfl
  | z :: L, D, x, h => by
    have ih := rest_new L h
    unfold rest at ih ⊢
    simp only [List.mem_cons, not_or, Bool.decide_and, decide_not] at ih
    rw [List.countP_cons, List.countP_cons, List.countP_cons]
    by_cases e : z.f = x
    · have h1 : z.f ∉ D := by rw [e]; exact h
      simp [e, h]
      omega
    · by_cases hD : z.f ∈ D
      · simp [e, hD]
        omega
      · simp [e, hD]
        omega
theorem count_range (p : Lk → Bool) : ∀ (L : List Lk), ((List.range L.length).filter (fun k => p (L.getD k default))).length = L.countP p
  | [] => rfl
  | z :: L => by
    have ih := count_range p L
    rw [List.length_cons, List.range_succ_eq_map, List.filter_cons, List.countP_cons, ← ih, List.filter_map]
    have e : ((fun k => p ((z :: L).getD k default)) ∘ Nat.succ) = fun k => p (L.getD k default) := by funext k; simp
    rw [e]
    by_cases hp : p z = true
    · simp [hp]
    · simp [hp]
/-- A node's links by their numbers are all that lead from it. -/
theorem OutsOk.count {L : List Lk} {x : Int} {o : List Int} (h : OutsOk L x o) : o.length = L.countP (fun z => z.f == x) := by
  rw [h.len]
  unfold gat
  rw [List.length_map]
  exact count_range (fun z => z.f == x) L
theorem OutsOk.link {L : List Lk} {x : Int} {o : List Int} (h : OutsOk L x o) {i : Nat} {y : Int} (hi : o[i]? = some y) : 0 ≤ y ∧ y < (L.length : Int) ∧ L.getD y.toNat default ∈ L ∧ (L.getD y.toNat default).f = x := by
  obtain ⟨k, hk, hf, rfl⟩ := (h.mem y).1 (List.mem_of_getElem? hi)
  refine ⟨by omega, by omega, ?_, by simpa using hf⟩
  simp only [Int.toNat_natCast]
  rw [List.getD_eq_getElem?_getD, List.getElem?_eq_getElem hk]
  exact List.getElem_mem hk
/-- Each of them is met. -/
theorem OutsOk.all {L : List Lk} {x : Int} {o : List Int} (h : OutsOk L x o) {z : Lk} (hz : z ∈ L) (hf : z.f = x) : z ∈ o.map (fun y => L.getD y.toNat default) := by
  obtain ⟨k, hk, rfl⟩ := List.mem_iff_getElem.1 hz
  refine List.mem_map.2 ⟨(k : Int), (h.mem _).2 ⟨k, hk, ?_, rfl⟩, ?_⟩
  · rw [List.getD_eq_getElem?_getD, List.getElem?_eq_getElem hk]; exact hf
  · rw [Int.toNat_natCast, List.getD_eq_getElem?_getD, List.getElem?_eq_getElem hk]; rfl
end Go.Proofs.YtjflbfianncpfaaGreat
