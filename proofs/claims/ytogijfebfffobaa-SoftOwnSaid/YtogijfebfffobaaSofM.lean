/-
  States of paths, plain: which may be, a table of them in the order of their keys, what a call leaves and answers, and what is always so. No condition beside what is said.
-/
import Derived.Test.YtogijfebfffobaaAdmMO
namespace Go.Proofs.Ytogijfebfffobaa
set_option maxRecDepth 100000
set_option linter.unusedVariables false

/-- A state. -/
structure Sp where
  k : Ky
  w : Wn
  rt : List Int
  ix : Int
  un : Int
  ib : Int
  ob : Int
  kp : Int
  sn : Int
/-- Is a number in a range? -/
def w18 (n lo hi : Int) : Bool := decide (lo ≤ n) && decide (n ≤ hi)
def lab18 (n : Int) : Bool := n == 0 || (n == 3 || w18 n 16 1048575)
def nod18 (n : Int) : Bool := w18 n 0 15
/-- Nodes only, none twice. -/
def dif18 (l : List Int) : Bool := l.all nod18 && decide l.Nodup
def lead18 (s : Sp) : Bool := w18 s.rt.length 2 16 && (w18 s.ix 0 ((s.rt.length : Int) - 1) && (decide (s.rt.head? = some s.k.head) && (decide (s.rt.getLast? = some s.k.tail) && dif18 s.rt)))
def may18 (s : Sp) : Bool := w18 s.k.tun 0 65535 && (w18 s.k.lsp 0 65535 && (wRight s.w && (lead18 s && (lab18 s.ib && (lab18 s.ob && (w18 s.un 0 1099511627776 && (w18 s.kp 0 1099511627776 && w18 s.sn 0 1099511627776)))))))
theorem w18_iff {n lo hi : Int} : w18 n lo hi = true ↔ lo ≤ n ∧ n ≤ hi := by simp [w18]
theorem may18_len {s : Sp} (h : may18 s = true) : 2 ≤ s.rt.length ∧ s.rt.length ≤ 16 := by
  unfold may18 lead18 at h
  simp only [Bool.and_eq_true, w18_iff] at h
  omega
theorem dif18_snoc (l : List Int) (x : Int) : dif18 (l ++ [x]) = (dif18 l && (nod18 x && !decide (x ∈ l))) := by
  unfold dif18
  rw [List.all_append]
  by_cases h1 : l.all nod18 = true <;> by_cases h2 : nod18 x = true <;> by_cases h3 : l.Nodup <;> by_cases h4 : x ∈ l <;>
    simp [h1, h2, h3, h4, List.nodup_append] <;> (try (intro a ha e; subst e; exact h4 ha))
theorem dif18_front {l : List Int} {i : Nat} (h : dif18 (l.take i) = false) : dif18 l = false := by
  cases hd : dif18 l with
  | false => rfl
  | true =>
    unfold dif18 at h hd
    rw [Bool.and_eq_true, decide_eq_true_eq, List.all_eq_true] at hd
    rw [Bool.and_eq_false_iff] at h
    rcases h with h | h
    · rw [List.all_eq_true.2 (fun x hx => hd.1 x (List.mem_of_mem_take hx))] at h; cases h
    · rw [decide_eq_true (List.Nodup.sublist (List.take_sublist _ _) hd.2)] at h; cases h

section
variable {α : Type} {kf : α → Ky}
/-- In the order of their keys. -/
def Srt18 (kf : α → Ky) (l : List α) : Prop := l.Pairwise (fun a b => kBef (kf a) (kf b) = true)
def has18 (kf : α → Ky) (l : List α) (k : Ky) : Bool := l.any fun x => decide (kf x = k)
def drp18 (kf : α → Ky) (l : List α) (k : Ky) : List α := l.filter fun x => decide (kf x ≠ k)
def ins18 (kf : α → Ky) (l : List α) (x : α) : List α := l.takeWhile (fun y => !kBef (kf x) (kf y)) ++ x :: l.dropWhile (fun y => !kBef (kf x) (kf y))
def put18 (kf : α → Ky) (l : List α) (x : α) : List α := ins18 kf (drp18 kf l (kf x)) x
def get18 (kf : α → Ky) (l : List α) (k : Ky) : Option α := l.find? fun x => decide (kf x = k)
/-- Where a key's state is, or would go. -/
structure Fnd18 (kf : α → Ky) (l : List α) (k : Ky) (i : Nat) (b : Bool) : Prop where
  le : i ≤ l.length
  lo : ∀ j (hj : j < l.length), j < i → kBef (kf l[j]) k = true
  hi : ∀ j (hj : j < l.length), i ≤ j → kBef (kf l[j]) k = false
  yes : b = true → ∃ h : i < l.length, kf l[i] = k
  no : b = false → ∀ h : i < l.length, kf l[i] ≠ k
/-- A list cut at a key. -/
structure Cut18 (kf : α → Ky) (l : List α) (k : Ky) (i : Nat) (b : Bool) (a m r : List α) : Prop where
  eq : l = a ++ (m ++ r)
  len : a.length = i
  lo : ∀ y ∈ a, kBef (kf y) k = true
  hi : ∀ y ∈ r, kBef k (kf y) = true
  mid : (b = true ∧ ∃ x, m = [x] ∧ kf x = k) ∨ (b = false ∧ m = [])
theorem Fnd18.cut {l : List α} {k : Ky} {i : Nat} {b : Bool} (hs : Srt18 kf l) (h : Fnd18 kf l k i b) : ∃ a m r, Cut18 kf l k i b a m r := by
  have hlo : ∀ y ∈ l.take i, kBef (kf y) k = true := by
    intro y hy
    obtain ⟨j, hj, rfl⟩ := List.mem_iff_getElem.1 hy
    rw [List.length_take] at hj
    rw [List.getElem_take]
    exact h.lo j (by omega) (by omega)
  have hsplit : l = l.take i ++ l.drop i := (List.take_append_drop i l).symm
  have hsd : Srt18 kf (l.drop i) := List.Pairwise.sublist (List.drop_sublist _ _) hs
  have hhi : ∀ y ∈ l.drop i, kBef (kf y) k = false := by
    intro y hy
    obtain ⟨j, hj, rfl⟩ := List.mem_iff_getElem.1 hy
    rw [List.length_drop] at hj
    rw [List.getElem_drop]
    exact h.hi (i + j) (by omega) (by omega)
  cases b with
  | true =>
    obtain ⟨hi, hk⟩ := h.yes rfl
    refine ⟨l.take i, [l[i]], l.drop (i + 1), ⟨?_, by rw [List.length_take]; omega, hlo, ?_, .inl ⟨rfl, _, rfl, hk⟩⟩⟩
    · rw [List.singleton_append, ← List.drop_eq_getElem_cons hi, List.take_append_drop]
    · intro y hy
      rw [List.drop_eq_getElem_cons hi] at hsd
      have := (List.pairwise_cons.1 hsd).1 y hy
      rwa [hk] at this
  | false =>
    refine ⟨l.take i, [], l.drop i, ⟨by rw [List.nil_append, List.take_append_drop], by rw [List.length_take]; have := h.le; omega, hlo, ?_, .inr ⟨rfl, rfl⟩⟩⟩
    by_cases hi : i < l.length
    · have hne := h.no rfl hi
      have h0 : kBef k (kf l[i]) = true := by
        rcases kBef_total hne with h1 | h1
        · rw [h.hi i hi (Nat.le_refl _)] at h1; cases h1
        · exact h1
      intro y hy
      rw [List.drop_eq_getElem_cons hi] at hsd hy
      rcases List.mem_cons.1 hy with rfl | hy
      · exact h0
      · exact kBef_trans h0 ((List.pairwise_cons.1 hsd).1 y hy)
    · intro y hy
      rw [List.drop_of_length_le (by omega)] at hy
      simp at hy
theorem ins18_cut {a r : List α} {x : α} (ha : ∀ y ∈ a, kBef (kf y) (kf x) = true) (hr : ∀ y ∈ r, kBef (kf x) (kf y) = true) : ins18 kf (a ++ r) x = a ++ x :: r := by
  unfold ins18
  have h1 : ∀ y ∈ a, (!kBef (kf x) (kf y)) = true := fun y hy => by rw [kBef_asymm (ha y hy)]; rfl
  rw [List.takeWhile_append_of_pos h1, List.dropWhile_append_of_pos h1]
  cases r with
  | nil => simp
  | cons y r =>
    have h2 : (!kBef (kf x) (kf y)) = false := by rw [hr y (by simp)]; rfl
    rw [List.takeWhile_cons_of_neg (by rw [h2]; simp), List.dropWhile_cons_of_neg (by rw [h2]; simp), List.append_nil]
section
variable {l a m r : List α} {k : Ky} {i : Nat} {b : Bool}
theorem Cut18.drop (h : Cut18 kf l k i b a m r) : drp18 kf l k = a ++ r := by
  unfold drp18
  rw [h.eq, List.filter_append, List.filter_append]
  have h1 : a.filter (fun x => decide (kf x ≠ k)) = a := List.filter_eq_self.2 fun y hy => by simpa using kBef_ne (h.lo y hy)
  have h2 : r.filter (fun x => decide (kf x ≠ k)) = r := List.filter_eq_self.2 fun y hy => by simpa using (kBef_ne (h.hi y hy)).symm
  have h3 : m.filter (fun x => decide (kf x ≠ k)) = [] := by
    rcases h.mid with ⟨_, x, rfl, hk⟩ | ⟨_, rfl⟩
    · simp [hk]
    · rfl
  rw [h1, h2, h3, List.nil_append]
theorem Cut18.put {x : α} (h : Cut18 kf l (kf x) i b a m r) : put18 kf l x = a ++ x :: r := by
  unfold put18
  rw [h.drop, ins18_cut h.lo h.hi]
theorem Cut18.has (h : Cut18 kf l k i b a m r) : has18 kf l k = b := by
  unfold has18
  rw [h.eq, List.any_append, List.any_append]
  have h1 : (a.any fun x => decide (kf x = k)) = false := List.any_eq_false.2 fun y hy => by simpa using kBef_ne (h.lo y hy)
  have h2 : (r.any fun x => decide (kf x = k)) = false := List.any_eq_false.2 fun y hy => by simpa using (kBef_ne (h.hi y hy)).symm
  rw [h1, h2]
  rcases h.mid with ⟨rfl, x, rfl, hk⟩ | ⟨rfl, rfl⟩
  · simp [hk]
  · rfl
theorem Cut18.get (h : Cut18 kf l k i b a m r) : get18 kf l k = m.head? := by
  unfold get18
  rw [h.eq, List.find?_append, List.find?_append]
  have h1 : (a.find? fun x => decide (kf x = k)) = none := List.find?_eq_none.2 fun y hy => by simpa using kBef_ne (h.lo y hy)
  have h2 : (r.find? fun x => decide (kf x = k)) = none := List.find?_eq_none.2 fun y hy => by simpa using (kBef_ne (h.hi y hy)).symm
  rw [h1, h2]
  rcases h.mid with ⟨rfl, x, rfl, hk⟩ | ⟨rfl, rfl⟩
  · simp [hk]
  · rfl
theorem Cut18.set {x : α} (h : Cut18 kf l k i true a m r) : l.set i x = a ++ x :: r := by
  rcases h.mid with ⟨_, y, rfl, _⟩ | ⟨e, _⟩
  · rw [h.eq, List.set_append, if_neg (by have := h.len; omega), h.len, Nat.sub_self]; rfl
  · cases e
theorem Cut18.erase (h : Cut18 kf l k i true a m r) : l.eraseIdx i = a ++ r := by
  rcases h.mid with ⟨_, y, rfl, _⟩ | ⟨e, _⟩
  · rw [h.eq, List.eraseIdx_append_of_length_le (by have := h.len; omega), h.len, Nat.sub_self]; rfl
  · cases e
theorem Cut18.insert {x : α} (h : Cut18 kf l k i false a m r) : l.take i ++ x :: l.drop i = a ++ x :: r := by
  rcases h.mid with ⟨e, _⟩ | ⟨_, rfl⟩
  · cases e
  · have h1 := h.eq
    rw [List.nil_append] at h1
    rw [h1, ← h.len, List.take_left, List.drop_left]
theorem Cut18.at_ (h : Cut18 kf l k i true a m r) : ∃ hi : i < l.length, m = [l[i]] := by
  rcases h.mid with ⟨_, y, rfl, _⟩ | ⟨e, _⟩
  · have hl : i < l.length := by have h1 := congrArg List.length h.eq; have h2 := h.len; simp only [List.length_append, List.length_cons, List.length_nil] at h1; omega
    refine ⟨hl, ?_⟩
    congr 1
    have h1 : l[i]? = some y := by
      rw [h.eq, List.getElem?_append_right (by have := h.len; omega), h.len, Nat.sub_self]; rfl
    rw [List.getElem?_eq_getElem hl] at h1
    injection h1 with h1
    exact h1.symm
  · cases e
theorem Cut18.sorted {x : α} (hs : Srt18 kf l) (h : Cut18 kf l (kf x) i b a m r) : Srt18 kf (a ++ x :: r) := by
  unfold Srt18 at hs ⊢
  rw [h.eq] at hs
  have h1 := List.pairwise_append.1 hs
  have h2 := List.pairwise_append.1 h1.2.1
  refine List.pairwise_append.2 ⟨h1.1, List.pairwise_cons.2 ⟨h.hi, h2.2.1⟩, fun y hy z hz => ?_⟩
  rcases List.mem_cons.1 hz with rfl | hz
  · exact h.lo y hy
  · exact kBef_trans (h.lo y hy) (h.hi z hz)
theorem Cut18.len_ (h : Cut18 kf l k i b a m r) : l.length = a.length + r.length + (if b then 1 else 0) := by
  have := congrArg List.length h.eq
  rw [List.length_append, List.length_append] at this
  rcases h.mid with ⟨rfl, y, rfl, _⟩ | ⟨rfl, rfl⟩
  · simp at this ⊢; omega
  · simp at this ⊢; omega
end
/-- There is a cut at any key. -/
theorem cut18_all : ∀ {l : List α}, Srt18 kf l → ∀ k : Ky, ∃ i b a m r, Cut18 kf l k i b a m r
  | [], _, k => ⟨0, false, [], [], [], rfl, rfl, (fun y hy => by simp at hy), (fun y hy => by simp at hy), .inr ⟨rfl, rfl⟩⟩
  | x :: l, hs, k => by
    have hp := List.pairwise_cons.1 hs
    cases hx : kBef (kf x) k with
    | true =>
      obtain ⟨i, b, a, m, r, h⟩ := cut18_all hp.2 k
      refine ⟨i + 1, b, x :: a, m, r, by rw [List.cons_append, ← h.eq], by rw [List.length_cons, h.len], fun y hy => ?_, h.hi, h.mid⟩
      rcases List.mem_cons.1 hy with rfl | hy
      · exact hx
      · exact h.lo y hy
    | false =>
      by_cases hk : kf x = k
      · exact ⟨0, true, [], [x], l, rfl, rfl, (fun y hy => by simp at hy), (fun y hy => by rw [← hk]; exact hp.1 y hy), .inl ⟨rfl, x, rfl, hk⟩⟩
      · have h0 : kBef k (kf x) = true := by
          rcases kBef_total hk with h1 | h1
          · rw [hx] at h1; cases h1
          · exact h1
        refine ⟨0, false, [], [], x :: l, rfl, rfl, (fun y hy => by simp at hy), (fun y hy => ?_), .inr ⟨rfl, rfl⟩⟩
        rcases List.mem_cons.1 hy with rfl | hy
        · exact h0
        · exact kBef_trans h0 (hp.1 y hy)
theorem drp18_put {l : List α} (hs : Srt18 kf l) (x : α) : drp18 kf (put18 kf l x) (kf x) = drp18 kf l (kf x) := by
  obtain ⟨i, b, a, m, r, h⟩ := cut18_all hs (kf x)
  rw [h.put, h.drop]
  have h2 : Cut18 kf (a ++ x :: r) (kf x) a.length true a [x] r := ⟨rfl, rfl, h.lo, h.hi, .inl ⟨rfl, x, rfl, rfl⟩⟩
  exact h2.drop
theorem srt18_put {l : List α} (hs : Srt18 kf l) (x : α) : Srt18 kf (put18 kf l x) := by
  obtain ⟨i, b, a, m, r, h⟩ := cut18_all hs (kf x)
  rw [h.put]
  exact h.sorted hs
theorem srt18_drop {l : List α} (hs : Srt18 kf l) (k : Ky) : Srt18 kf (drp18 kf l k) := List.Pairwise.sublist List.filter_sublist hs
theorem put18_len {l : List α} (hs : Srt18 kf l) (x : α) : (put18 kf l x).length = l.length + (if has18 kf l (kf x) then 0 else 1) := by
  obtain ⟨i, b, a, m, r, h⟩ := cut18_all hs (kf x)
  rw [h.put, h.has, h.len_]
  cases b <;> simp <;> omega
theorem get18_put {l : List α} (hs : Srt18 kf l) (x : α) : get18 kf (put18 kf l x) (kf x) = some x := by
  obtain ⟨i, b, a, m, r, h⟩ := cut18_all hs (kf x)
  rw [h.put]
  have h2 : Cut18 kf (a ++ x :: r) (kf x) a.length true a [x] r := ⟨rfl, rfl, h.lo, h.hi, .inl ⟨rfl, x, rfl, rfl⟩⟩
  rw [h2.get]; rfl
theorem get18_drop (l : List α) (k : Ky) : get18 kf (drp18 kf l k) k = none := by
  unfold get18 drp18
  refine List.find?_eq_none.2 fun y hy => ?_
  have := (List.mem_filter.1 hy).2
  simpa using this
theorem mem_put18 {l : List α} {x y : α} (h : y ∈ put18 kf l x) : y = x ∨ y ∈ l := by
  unfold put18 ins18 at h
  rw [List.mem_append, List.mem_cons] at h
  have hd : ∀ z, z ∈ drp18 kf l (kf x) → z ∈ l := fun z hz => (List.mem_filter.1 hz).1
  rcases h with h | h | h
  · exact .inr (hd _ ((List.takeWhile_sublist _).subset h))
  · exact .inl h
  · exact .inr (hd _ ((List.dropWhile_sublist _).subset h))
theorem has18_get {l : List α} {k : Ky} : has18 kf l k = (get18 kf l k).isSome := by
  unfold has18 get18
  rw [Bool.eq_iff_iff, List.any_eq_true, List.find?_isSome]
end
section
variable {α β : Type} {kf : α → Ky} (f : β → α)
theorem drp18_map (l : List β) (k : Ky) : (drp18 (fun x => kf (f x)) l k).map f = drp18 kf (l.map f) k := by unfold drp18; rw [List.filter_map]; rfl
theorem has18_map (l : List β) (k : Ky) : has18 (fun x => kf (f x)) l k = has18 kf (l.map f) k := by unfold has18; rw [List.any_map]; rfl
theorem ins18_map (l : List β) (x : β) : (ins18 (fun x => kf (f x)) l x).map f = ins18 kf (l.map f) (f x) := by
  unfold ins18
  rw [List.map_append, List.map_cons, List.takeWhile_map, List.dropWhile_map]; rfl
theorem put18_map (l : List β) (x : β) : (put18 (fun x => kf (f x)) l x).map f = put18 kf (l.map f) (f x) := by
  unfold put18
  rw [ins18_map, drp18_map]
theorem get18_map (l : List β) (k : Ky) : (get18 (fun x => kf (f x)) l k).map f = get18 kf (l.map f) k := by
  unfold get18
  rw [List.find?_map]; rfl
theorem srt18_map {l : List β} : Srt18 kf (l.map f) ↔ Srt18 (fun x => kf (f x)) l := by
  unfold Srt18
  rw [List.pairwise_map]
end
/-- Whose time is over. -/
def late18 (l : List Sp) (now : Int) : List Ky := (l.filter fun s => decide (s.un < now)).map (·.k)
def laps18 (l : List Sp) (now : Int) : List Ky := (l.filter fun s => (s.ob != 0 && decide (s.kp < now))).map (·.k)
/-- What a call of Put, Drop, Get leaves and answers. -/
def cput18 (most : Nat) (l : List Sp) (s : Sp) : List Sp × Int :=
  if may18 s = false then (l, 2) else if has18 Sp.k l s.k = false ∧ most ≤ l.length then (l, 7) else (put18 Sp.k l s, 0)
def cdrop18 (l : List Sp) (k : Ky) : List Sp × Int := if has18 Sp.k l k = true then (drp18 Sp.k l k, 0) else (l, 8)
/-- What a table always is. -/
structure Tbl18 (most : Nat) (l : List Sp) : Prop where
  bnd : 1 ≤ most ∧ most ≤ 64
  len : l.length ≤ most
  srt : Srt18 Sp.k l
  may : ∀ s ∈ l, may18 s = true
theorem tbl18_put {most : Nat} {l : List Sp} (h : Tbl18 most l) (s : Sp) : Tbl18 most (cput18 most l s).1 := by
  unfold cput18
  split
  · exact h
  · rename_i hm
    split
    · exact h
    · rename_i hf
      refine ⟨h.bnd, ?_, srt18_put h.srt s, fun y hy => ?_⟩
      · simp only
        rw [put18_len h.srt]
        have := h.len
        cases hh : has18 Sp.k l s.k with
        | true => simp; exact this
        | false => simp; rw [hh] at hf; simp at hf; omega
      · rcases mem_put18 hy with rfl | hy
        · simpa using hm
        · exact h.may y hy
theorem tbl18_drop {most : Nat} {l : List Sp} (h : Tbl18 most l) (k : Ky) : Tbl18 most (cdrop18 l k).1 := by
  unfold cdrop18
  split
  · exact ⟨h.bnd, Nat.le_trans (List.length_filter_le _ _) h.len, srt18_drop h.srt k, fun y hy => h.may y (List.mem_filter.1 hy).1⟩
  · exact h
theorem late18_more {l : List Sp} {a b : Int} (h : a ≤ b) : ∀ k ∈ late18 l a, k ∈ late18 l b := by
  intro k hk
  unfold late18 at hk ⊢
  rw [List.mem_map] at hk ⊢
  obtain ⟨s, hs, rfl⟩ := hk
  rw [List.mem_filter] at hs
  refine ⟨s, List.mem_filter.2 ⟨hs.1, ?_⟩, rfl⟩
  have := of_decide_eq_true hs.2
  exact decide_eq_true (by omega)
theorem laps18_more {l : List Sp} {a b : Int} (h : a ≤ b) : ∀ k ∈ laps18 l a, k ∈ laps18 l b := by
  intro k hk
  unfold laps18 at hk ⊢
  rw [List.mem_map] at hk ⊢
  obtain ⟨s, hs, rfl⟩ := hk
  rw [List.mem_filter, Bool.and_eq_true] at hs
  refine ⟨s, List.mem_filter.2 ⟨hs.1, ?_⟩, rfl⟩
  have := of_decide_eq_true hs.2.2
  rw [Bool.and_eq_true]
  exact ⟨hs.2.1, decide_eq_true (by omega)⟩
theorem late18_in {l : List Sp} {a : Int} : ∀ k ∈ late18 l a, k ∈ l.map (·.k) := by
  intro k hk
  unfold late18 at hk
  rw [List.mem_map] at hk ⊢
  obtain ⟨s, hs, rfl⟩ := hk
  exact ⟨s, (List.mem_filter.1 hs).1, rfl⟩
theorem laps18_in {l : List Sp} {a : Int} : ∀ k ∈ laps18 l a, k ∈ l.map (·.k) := by
  intro k hk
  unfold laps18 at hk
  rw [List.mem_map] at hk ⊢
  obtain ⟨s, hs, rfl⟩ := hk
  exact ⟨s, (List.mem_filter.1 hs).1, rfl⟩
end Go.Proofs.Ytogijfebfffobaa
