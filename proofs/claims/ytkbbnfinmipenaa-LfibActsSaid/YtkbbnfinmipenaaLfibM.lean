/-
  Entries of a forwarding table as a list that rises, a map that keeps them, and a forwarding table in memory. No condition: definitions and their simplest consequences.
-/
import Derived.Test.YtkbbnfinmipenaaMapI
namespace Go.Proofs.Ytkbbnfinmipenaa
open Go.RowKit Go.Maps

/-! ### lists of entries: a number, and the node and the label that it has -/

/-- Each number is less than the one behind it. -/
def RisR (l : List (Int × Int × Int)) : Prop := Rising (l.map (·.1))
/-- What a number has. -/
def fnd (l : List (Int × Int × Int)) (k : Int) : Option (Int × Int) := (l.find? (fun r => r.1 == k)).map (·.2)
/-- The entries but that of one number. -/
def remR (l : List (Int × Int × Int)) (k : Int) : List (Int × Int × Int) := l.filter (fun r => !(r.1 == k))
/-- The entries and one, in its place. -/
def insR (l : List (Int × Int × Int)) (x : Int × Int × Int) : List (Int × Int × Int) := l.filter (fun r => decide (r.1 < x.1)) ++ x :: l.filter (fun r => decide (x.1 < r.1))

theorem RisR.pair {l : List (Int × Int × Int)} (h : RisR l) : l.Pairwise (fun p q => p.1 < q.1) := List.pairwise_map.1 h
theorem RisR.nodup {l : List (Int × Int × Int)} (h : RisR l) : l.Nodup := h.pair.imp (fun h e => by rw [e] at h; omega)
theorem RisR.one : ∀ {l : List (Int × Int × Int)}, RisR l → ∀ {p q : Int × Int × Int}, p ∈ l → q ∈ l → p.1 = q.1 → p = q
  | [], _, _, _, hp, _, _ => by cases hp
  | x :: l, h, p, q, hp, hq, e => by
    have h1 := List.pairwise_cons.1 h.pair
    rcases List.mem_cons.1 hp with hp2 | hp2
    · rcases List.mem_cons.1 hq with hq2 | hq2
      · rw [hp2, hq2]
      · have := h1.1 q hq2; rw [← hp2] at this; omega
    · rcases List.mem_cons.1 hq with hq2 | hq2
      · have := h1.1 p hp2; rw [← hq2] at this; omega
      · exact RisR.one (List.pairwise_map.2 h1.2) hp2 hq2 e

theorem fnd_some {l : List (Int × Int × Int)} (h : RisR l) {k : Int} {p : Int × Int} (hm : (k, p) ∈ l) : fnd l k = some p := by
  unfold fnd
  cases hf : l.find? (fun r => r.1 == k) with
  | none =>
    have := List.find?_eq_none.1 hf _ hm
    simp at this
  | some r =>
    have h1 := List.find?_some hf
    have h2 := List.mem_of_find?_eq_some hf
    have := h.one h2 hm (by simpa using h1)
    rw [this]; rfl
theorem fnd_none {l : List (Int × Int × Int)} {k : Int} (hm : k ∉ l.map (·.1)) : fnd l k = none := by
  unfold fnd
  rw [List.find?_eq_none.2 (fun r hr => by
    intro e
    exact hm (List.mem_map.2 ⟨r, hr, by simpa using e⟩))]; rfl
theorem fnd_mem {l : List (Int × Int × Int)} {k : Int} {p : Int × Int} (h : fnd l k = some p) : (k, p) ∈ l := by
  unfold fnd at h
  obtain ⟨r, hr, rfl⟩ := Option.map_eq_some_iff.1 h
  have h1 := List.find?_some hr
  have h2 := List.mem_of_find?_eq_some hr
  have e : r.1 = k := by simpa using h1
  rw [← e]; exact h2
theorem fnd_not {l : List (Int × Int × Int)} {k : Int} (h : fnd l k = none) : k ∉ l.map (·.1) := by
  unfold fnd at h
  intro hm
  obtain ⟨r, hr, e⟩ := List.mem_map.1 hm
  have := List.find?_eq_none.1 (Option.map_eq_none_iff.1 h) r hr
  exact this (by simpa using e)
theorem fnd_key {l : List (Int × Int × Int)} {k : Int} {p : Int × Int} (h : fnd l k = some p) : k ∈ l.map (·.1) := List.mem_map.2 ⟨_, fnd_mem h, rfl⟩

theorem mem_insR {l : List (Int × Int × Int)} {x r : Int × Int × Int} : r ∈ insR l x ↔ r = x ∨ (r ∈ l ∧ r.1 ≠ x.1) := by
  unfold insR
  simp only [List.mem_append, List.mem_cons, List.mem_filter, decide_eq_true_eq]
  constructor
  · rintro (⟨h, h'⟩ | rfl | ⟨h, h'⟩)
    · exact .inr ⟨h, by omega⟩
    · exact .inl rfl
    · exact .inr ⟨h, by omega⟩
  · rintro (rfl | ⟨h, h'⟩)
    · exact .inr (.inl rfl)
    · rcases Int.lt_or_gt_of_ne h' with h1 | h1
      · exact .inl ⟨h, h1⟩
      · exact .inr (.inr ⟨h, h1⟩)
theorem mem_remR {l : List (Int × Int × Int)} {k : Int} {r : Int × Int × Int} : r ∈ remR l k ↔ r ∈ l ∧ r.1 ≠ k := by
  unfold remR; simp [List.mem_filter]
theorem key_insR {l : List (Int × Int × Int)} {x : Int × Int × Int} {k : Int} : k ∈ (insR l x).map (·.1) ↔ k = x.1 ∨ k ∈ l.map (·.1) := by
  simp only [List.mem_map]
  constructor
  · rintro ⟨r, hr, rfl⟩
    rcases mem_insR.1 hr with rfl | ⟨h, _⟩
    · exact .inl rfl
    · exact .inr ⟨r, h, rfl⟩
  · rintro (rfl | ⟨r, hr, rfl⟩)
    · exact ⟨x, mem_insR.2 (.inl rfl), rfl⟩
    · by_cases e : r.1 = x.1
      · exact ⟨x, mem_insR.2 (.inl rfl), e.symm⟩
      · exact ⟨r, mem_insR.2 (.inr ⟨hr, e⟩), rfl⟩
theorem key_remR {l : List (Int × Int × Int)} {k x : Int} : x ∈ (remR l k).map (·.1) ↔ x ≠ k ∧ x ∈ l.map (·.1) := by
  simp only [List.mem_map]
  constructor
  · rintro ⟨r, hr, rfl⟩
    exact ⟨(mem_remR.1 hr).2, r, (mem_remR.1 hr).1, rfl⟩
  · rintro ⟨h, r, hr, rfl⟩
    exact ⟨r, mem_remR.2 ⟨hr, h⟩, rfl⟩
theorem RisR.of {l : List (Int × Int × Int)} (h : l.Pairwise (fun p q => p.1 < q.1)) : RisR l := List.pairwise_map.2 h
theorem RisR.nil : RisR [] := List.Pairwise.nil
theorem RisR.ins {l : List (Int × Int × Int)} (h : RisR l) (x : Int × Int × Int) : RisR (insR l x) := by
  refine RisR.of (List.pairwise_append.2 ⟨h.pair.filter _, List.pairwise_cons.2 ⟨fun r hr => ?_, h.pair.filter _⟩, fun a ha b hb => ?_⟩)
  · simpa using (List.mem_filter.1 hr).2
  · have h1 : a.1 < x.1 := by simpa using (List.mem_filter.1 ha).2
    rcases List.mem_cons.1 hb with rfl | hb
    · exact h1
    · have h2 : x.1 < b.1 := by simpa using (List.mem_filter.1 hb).2
      omega
theorem RisR.rem {l : List (Int × Int × Int)} (h : RisR l) (k : Int) : RisR (remR l k) := RisR.of (h.pair.filter _)
theorem remR_not {l : List (Int × Int × Int)} {k : Int} (h : k ∉ l.map (·.1)) : remR l k = l := by
  unfold remR
  refine List.filter_eq_self.2 fun r hr => ?_
  have : r.1 ≠ k := fun e => h (List.mem_map.2 ⟨r, hr, e⟩)
  simpa using this
theorem len_insR (l : List (Int × Int × Int)) (x : Int × Int × Int) : (insR l x).length = (remR l x.1).length + 1 := by
  unfold insR remR
  induction l with
  | nil => simp
  | cons r l ih =>
    simp only [List.length_append, List.length_cons] at ih ⊢
    rcases Int.lt_trichotomy r.1 x.1 with h | h | h
    · have e1 : decide (r.1 < x.1) = true := by simpa using h
      have e2 : decide (x.1 < r.1) = false := by simp; omega
      have e3 : (!(r.1 == x.1)) = true := by simp; omega
      simp only [List.filter_cons, e1, e2, e3, if_true, List.length_cons, Bool.false_eq_true, if_false]; omega
    · have e1 : decide (r.1 < x.1) = false := by simp; omega
      have e2 : decide (x.1 < r.1) = false := by simp; omega
      have e3 : (!(r.1 == x.1)) = false := by simp; omega
      simp only [List.filter_cons, e1, e2, e3, Bool.false_eq_true, if_false]; omega
    · have e1 : decide (r.1 < x.1) = false := by simp; omega
      have e2 : decide (x.1 < r.1) = true := by simpa using h
      have e3 : (!(r.1 == x.1)) = true := by simp; omega
      simp only [List.filter_cons, e1, e2, e3, if_true, List.length_cons, Bool.false_eq_true, if_false]; omega
theorem len_remR_le (l : List (Int × Int × Int)) (k : Int) : (remR l k).length ≤ l.length := List.length_filter_le _ _
theorem len_remR_lt {l : List (Int × Int × Int)} {k : Int} (h : k ∈ l.map (·.1)) : (remR l k).length < l.length := by
  obtain ⟨r, hr, e⟩ := List.mem_map.1 h
  exact List.length_filter_lt_length_iff_exists.2 ⟨r, hr, by simpa using e⟩

/-! ### a map of such entries -/

/-- What an element reads as. -/
def od (p : Int × Int) : DataW Unit := .agg [.lit (.int .i64 p.1), .lit (.int .i64 p.2)]
def ov (p : Int × Int) : Value := .agg #[.int .i64 p.1, .int .i64 p.2]
def outElem : Value → Option (DataW Unit × List MemPlace)
  | .agg cs => match cs.toList with
    | [.int .i64 a, .int .i64 b] => some (od (a, b), [])
    | _ => none
  | _ => none
theorem outElem_mk (a b : Int) : outElem (.agg #[.int .i64 a, .int .i64 b]) = some (od (a, b), []) := rfl
theorem outElem_inv {v : Value} {z : DataW Unit × List MemPlace} (h : outElem v = some z) : ∃ p, v = ov p ∧ z = (od p, []) := by
  unfold outElem at h
  split at h
  · rename_i cs
    split at h
    · rename_i a b e
      injection h with h
      refine ⟨(a, b), ?_, h.symm⟩
      unfold ov
      rw [← Array.toArray_toList (xs := cs), e]
    · cases h
  · cases h
theorem od_inj {p q : Int × Int} (h : od p = od q) : p = q := by
  unfold od at h
  injection h with h
  injection h with h1 h2
  injection h2 with h2 _
  injection h1 with h1
  injection h2 with h2
  injection h1 with _ h1
  injection h2 with _ h2
  exact Prod.ext h1 h2
theorem zeroOut (w : World) : (zeroValue 30).run Try.prog w = .ok (.agg #[.int .i64 0, .int .i64 0]) w := by kernel_rfl

/-- Block 'b' is a map that keeps just the entries 'l', which rise. -/
def Outs (w : World) (b : Nat) (l : List (Int × Int × Int)) : Prop :=
  RisR l ∧ ∃ n D, w.ownsMap Try.prog 3 outElem b n D ∧ (∀ x : Int, Maps.has D (.int .i64 x) = decide (x ∈ l.map (·.1))) ∧ ∀ r ∈ l, ∀ z, D.atKey (.int .i64 r.1) z = od r.2

section
variable {w w' : World} {b : Nat} {l : List (Int × Int × Int)}
theorem Outs.own (h : Outs w b l) : ∃ D, w.ownsMap Try.prog 3 outElem b l.length D ∧ (∀ x : Int, Maps.has D (.int .i64 x) = decide (x ∈ l.map (·.1))) ∧ (∀ r ∈ l, ∀ z, D.atKey (.int .i64 r.1) z = od r.2) ∧ Maps.size D = l.length := by
  obtain ⟨hr, n, D, ho, hh, ha⟩ := h
  have hz := size_labels ho hr hh
  rw [List.length_map] at hz
  refine ⟨D, ?_, hh, ha, hz⟩
  rw [← hz]
  exact own_tight ho
theorem Outs.lt (h : Outs w b l) : b < w.heap.size := by
  obtain ⟨_, n, D, ho, _⟩ := h
  exact ho.lt
theorem Outs.isMap (h : Outs w b l) : ∃ es clock, w.heap[b]? = some (.map es clock) := by
  obtain ⟨_, n, D, ⟨es, clock, he, _⟩, _⟩ := h
  exact ⟨es, clock, he⟩
theorem Outs.same (h : Outs w b l) (hb : w'.heap[b]? = w.heap[b]?) : Outs w' b l := by
  obtain ⟨hr, n, D, ⟨es, clock, he, r⟩, hh, ha⟩ := h
  exact ⟨hr, n, D, ⟨es, clock, hb.trans he, r⟩, hh, ha⟩
theorem outs_new (w : World) : Outs (w.alloc (.map #[] 0)) w.heap.size [] :=
  ⟨List.Pairwise.nil, 0, _, World.ownsMap_made w _ _ _, fun x => by simp [Maps.has_eq], fun r hr => by cases hr⟩
theorem Outs.put {n : Nat} {D : DataW Unit} (hr : RisR l) (hD : IsMap D) (hh : ∀ x : Int, Maps.has D (.int .i64 x) = decide (x ∈ l.map (·.1))) (ha : ∀ r ∈ l, ∀ z, D.atKey (.int .i64 r.1) z = od r.2) (x : Int × Int × Int) (ho : w'.ownsMap Try.prog 3 outElem b n (D.put (.int .i64 x.1) (od x.2))) : Outs w' b (insR l x) := by
  refine ⟨hr.ins x, n, _, ho, fun y => ?_, fun r hr' z => ?_⟩
  · rw [show decide (y ∈ (insR l x).map (·.1)) = decide (y ∈ l.map (·.1) ++ [x.1]) from decide_eq_decide.2 (by rw [key_insR]; simp [or_comm])]
    exact has_put_int hD hh x.1 _ y
  · rcases mem_insR.1 hr' with rfl | ⟨h1, h2⟩
    · exact Maps.atKey_put_same hD (by simp [WideAt.IsKeyLit]) _ z
    · rw [Maps.atKey_put_other (by simpa using h2)]; exact ha r h1 z
theorem Outs.del {n : Nat} {D : DataW Unit} (hr : RisR l) (hh : ∀ x : Int, Maps.has D (.int .i64 x) = decide (x ∈ l.map (·.1))) (ha : ∀ r ∈ l, ∀ z, D.atKey (.int .i64 r.1) z = od r.2) (k : Int) (ho : w'.ownsMap Try.prog 3 outElem b n (D.del (.int .i64 k))) : Outs w' b (remR l k) := by
  refine ⟨hr.rem k, n, _, ho, fun y => ?_, fun r hr' z => ?_⟩
  · rw [has_del_int hh k y]
    exact decide_eq_decide.2 (by rw [key_remR]; simp [and_comm])
  · have h1 := mem_remR.1 hr'
    rw [Maps.atKey_del_other (by simpa using h1.2)]; exact ha r h1.1 z
end

/-! ### what was met of a map's entries -/

/-- The entries met so far: no number twice; an entry is on the list just where the map has it and it is no longer to come. -/
def MetR (l : List (Int × Int × Int)) (left : Lit → Bool) (ss : List (Int × Int × Int)) : Prop := ss.Nodup ∧ ∀ r, r ∈ ss ↔ (r ∈ l ∧ left (.int .i64 r.1) = false)
theorem MetR.start {D : DataW Unit} {l : List (Int × Int × Int)} (hh : ∀ x : Int, Maps.has D (.int .i64 x) = decide (x ∈ l.map (·.1))) : MetR l (Maps.has D) [] := by
  refine ⟨List.nodup_nil, fun r => ?_⟩
  constructor
  · intro h; cases h
  · rintro ⟨h1, h2⟩
    rw [hh, decide_eq_false_iff_not] at h2
    exact absurd (List.mem_map.2 ⟨r, h1, rfl⟩) h2
theorem MetR.step {D : DataW Unit} {l ss : List (Int × Int × Int)} {left : Lit → Bool} (h : MetR l left ss) (hr : RisR l) (hh : ∀ x : Int, Maps.has D (.int .i64 x) = decide (x ∈ l.map (·.1))) (ha : ∀ r ∈ l, ∀ z, D.atKey (.int .i64 r.1) z = od r.2) {x : Int} {p : Int × Int} (hlk : left (.int .i64 x) = true) (hat : ∀ zd, D.atKey (.int .i64 x) zd = od p) : MetR l (fun z => left z && !z.sameKey (.int .i64 x)) (ss ++ [(x, p)]) := by
  have hhas : Maps.has D (.int .i64 x) = true := Maps.has_true_of_atKey hat
  have hm : (x, p) ∈ l := by
    rw [hh, decide_eq_true_eq] at hhas
    obtain ⟨r, hr1, rfl⟩ := List.mem_map.1 hhas
    have := od_inj ((ha r hr1 (.agg [])).symm.trans (hat (.agg [])))
    rw [← this]; exact hr1
  have hnew : (x, p) ∉ ss := fun hx => by have := ((h.2 _).1 hx).2; rw [hlk] at this; cases this
  refine ⟨List.nodup_append.2 ⟨h.1, by simp, fun a ha b hb => by simp at hb; subst hb; exact fun e => hnew (e ▸ ha)⟩, fun r => ?_⟩
  rw [List.mem_append, h.2 r, List.mem_singleton]
  constructor
  · rintro (⟨h1, h2⟩ | rfl)
    · exact ⟨h1, by simp [h2]⟩
    · exact ⟨hm, by simp [Lit.sameKey]⟩
  · rintro ⟨h1, h2⟩
    by_cases e : r.1 = x
    · exact .inr (hr.one h1 hm e)
    · refine .inl ⟨h1, ?_⟩
      simpa [Lit.sameKey, e] using h2
theorem MetR.perm {l ss : List (Int × Int × Int)} {left : Lit → Bool} (h : MetR l left ss) (hl : ∀ kl, left kl = false) (hr : RisR l) : ss.Perm l :=
  (List.perm_ext_iff_of_nodup h.1 hr.nodup).2 fun r => by rw [h.2 r, hl]; simp
/-- Entries that are sorted are the list that rises. -/
theorem sort_rows {ss l : List (Int × Int × Int)} (hp : ss.Perm l) (hr : RisR l) (hs : ss.Pairwise (fun a b => ¬ b.1 < a.1)) : ss = l := by
  refine List.Perm.eq_of_pairwise (le := fun a b : Int × Int × Int => ¬ b.1 < a.1) (fun a b ha hb h1 h2 => hr.one (hp.mem_iff.1 ha) hb (by omega)) hs (hr.pair.imp (fun h => by omega)) hp

/-! ### a table -/

/-- An Out that may be. -/
def okOut (p : Int × Int) : Prop := 0 ≤ p.1 ∧ p.1 ≤ 15 ∧ ((16 ≤ p.2 ∧ p.2 ≤ 1048575) ∨ p.2 = 3)

/-- At block 'tb' lies a table for at most 'most' labels and tunnels; block 'lb' keeps the labels 'l', block 'ub' the tunnels 'u'. -/
def Tbl (w : World) (tb lb ub : Nat) (most : Int) (l u : List (Int × Int × Int)) : Prop :=
  w.heap[tb]? = some (.cells #[.int .i64 most, .map (some lb), .int .i64 most, .map (some ub)] 58 (0, 0)) ∧ Outs w lb l ∧ Outs w ub u ∧ lb ≠ ub ∧ (1 ≤ most ∧ most ≤ 64 ∧ (l.length : Int) ≤ most ∧ (u.length : Int) ≤ most) ∧ (∀ r ∈ l, (16 ≤ r.1 ∧ r.1 ≤ 1048575) ∧ okOut r.2) ∧ ∀ r ∈ u, (1 ≤ r.1 ∧ r.1 ≤ 65535) ∧ okOut r.2

section
variable {w w' : World} {tb lb ub : Nat} {most : Int} {l u : List (Int × Int × Int)}
theorem Tbl.lt (h : Tbl w tb lb ub most l u) : tb < w.heap.size ∧ lb < w.heap.size ∧ ub < w.heap.size := by
  refine ⟨?_, h.2.1.lt, h.2.2.1.lt⟩
  rcases Nat.lt_or_ge tb w.heap.size with hlt | hge
  · exact hlt
  · have := h.1; rw [Array.getElem?_eq_none hge] at this; cases this
theorem Tbl.ne (h : Tbl w tb lb ub most l u) : tb ≠ lb ∧ tb ≠ ub := by
  obtain ⟨h1, h2, h3, _⟩ := h
  obtain ⟨es, clock, e2⟩ := h2.isMap
  obtain ⟨es', clock', e3⟩ := h3.isMap
  refine ⟨fun e => ?_, fun e => ?_⟩
  · rw [e, e2] at h1; cases h1
  · rw [e, e3] at h1; cases h1
theorem Tbl.c0 (h : Tbl w tb lb ub most l u) : w.cell? ⟨tb, 0, none⟩ = some (.int .i64 most) := cell_of_row w tb 0 _ _ _ h.1
theorem Tbl.c1 (h : Tbl w tb lb ub most l u) : w.cell? ⟨tb, 1, none⟩ = some (.map (some lb)) := cell_of_row w tb 1 _ _ _ h.1
theorem Tbl.c2 (h : Tbl w tb lb ub most l u) : w.cell? ⟨tb, 2, none⟩ = some (.int .i64 most) := cell_of_row w tb 2 _ _ _ h.1
theorem Tbl.c3 (h : Tbl w tb lb ub most l u) : w.cell? ⟨tb, 3, none⟩ = some (.map (some ub)) := cell_of_row w tb 3 _ _ _ h.1
theorem Tbl.same (h : Tbl w tb lb ub most l u) (h1 : w'.heap[tb]? = w.heap[tb]?) (h2 : w'.heap[lb]? = w.heap[lb]?) (h3 : w'.heap[ub]? = w.heap[ub]?) : Tbl w' tb lb ub most l u :=
  ⟨h1.trans h.1, h.2.1.same h2, h.2.2.1.same h3, h.2.2.2⟩
theorem Tbl.below (h : Tbl w tb lb ub most l u) (hb : Below w.heap.size w w') : Tbl w' tb lb ub most l u := h.same (hb.block _ h.lt.1) (hb.block _ h.lt.2.1) (hb.block _ h.lt.2.2)
theorem Tbl.turn (h : Tbl w tb lb ub most l u) {S : List Nat} (ht : Turn S w w') (h1 : tb ∉ S) (h2 : lb ∉ S) (h3 : ub ∉ S) : Tbl w' tb lb ub most l u := h.same (ht.block _ h.lt.1 h1) (ht.block _ h.lt.2.1 h2) (ht.block _ h.lt.2.2 h3)
theorem Tbl.drewN (h : Tbl w tb lb ub most l u) (n : Nat) : Tbl (w.drewN n) tb lb ub most l u := h
theorem Tbl.drew (h : Tbl w tb lb ub most l u) : Tbl w.drew tb lb ub most l u := h
end
end Go.Proofs.Ytkbbnfinmipenaa
