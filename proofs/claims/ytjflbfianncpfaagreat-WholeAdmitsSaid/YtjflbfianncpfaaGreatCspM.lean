/-
  Plain: the best route of at most so many links; the document's way to it (viaductref17): links are gone over, each time from what was noted before. No condition beside what is said.
-/
import Derived.Test.YtjflbfianncpfaaGreatSpfMO
namespace Go.Proofs.YtjflbfianncpfaaGreat
set_option maxRecDepth 100000
set_option linter.unusedVariables false

section
variable {n : Int} {L : List Lk} {a x c : Int} {r : List Int} {k : Nat}
/-- A node ahead of the end: what leads to it costs less, and has fewer nodes. -/
theorem Wy.front17 (hL : NetOk n L) (h : Wy L a x c r) : ∀ t ∈ r, t ≠ x → ∃ c' r', Wy L a t c' r' ∧ c' < c ∧ r'.length < r.length := by
  induction h with
  | one => intro t ht hne; simp at ht; exact absurd ht hne
  | ext z hw hz hf hn ih =>
    intro t ht hne
    have hm := hL z hz
    rcases List.mem_append.1 ht with ht | ht
    · by_cases he : t = z.f
      · subst he
        exact ⟨_, _, hf ▸ hw, by omega, by simp⟩
      · obtain ⟨c', r', h1, h2, h3⟩ := ih t ht (by rw [← hf]; exact he)
        exact ⟨c', r', h1, by omega, by rw [List.length_append]; simp; omega⟩
    · simp at ht; exact absurd ht hne
/-- More links have all the routes. -/
theorem Wy.more {L' : List Lk} (hs : ∀ z ∈ L, z ∈ L') (h : Wy L a x c r) : Wy L' a x c r := by
  induction h with
  | one => exact .one
  | ext z _ hz hf hn ih => exact .ext z ih (hs z hz) hf hn

/-- The best route of at most k links. -/
def BestK (L : List Lk) (a : Int) (k : Nat) (x c : Int) (r : List Int) : Prop := (Wy L a x c r ∧ r.length ≤ k + 1) ∧ ∀ c' r', Wy L a x c' r' → r'.length ≤ k + 1 → ¬ bet (c', r') (c, r)
theorem bestk_unique {c' : Int} {r' : List Int} (h : BestK L a k x c r) (j : BestK L a k x c' r') : c = c' ∧ r = r' := by
  have := bet_same (j.2 _ _ h.1.1 h.1.2) (h.2 _ _ j.1.1 j.1.2)
  injection this with h1 h2
  exact ⟨h1, h2⟩
theorem bestk_exists (hL : NetOk n L) (ha : 0 ≤ a ∧ a < n) (hn : n ≤ 16) : ∀ (m : Nat) (c : Int) (r : List Int), bkey (c, r) = m → Wy L a x c r → r.length ≤ k + 1 → ∃ c' r', BestK L a k x c' r' := by
  intro m
  induction m using Nat.strongRecOn with
  | ind m ih =>
    intro c r hk h hl
    by_cases hb : BestK L a k x c r
    · exact ⟨c, r, hb⟩
    · have : ∃ c' r', (Wy L a x c' r' ∧ r'.length ≤ k + 1) ∧ bet (c', r') (c, r) := by
        apply Classical.byContradiction
        intro hno
        exact hb ⟨⟨h, hl⟩, fun c' r' hw hl' hbt => hno ⟨c', r', ⟨hw, hl'⟩, hbt⟩⟩
      obtain ⟨c', r', hw, hbt⟩ := this
      have := bkey_mono (hw.1.keyed hL ha hn) (h.keyed hL ha hn) hbt
      exact ih (bkey (c', r')) (by omega) c' r' rfl hw.1 hw.2
/-- The beginning of a best route of at most k + 1 links is a best one of at most k. -/
theorem bestk_front (hL : NetOk n L) {z : Lk} (hz : z ∈ L) (hf : z.f = x) (hw : Wy L a x c r) (hn : z.t ∉ r) (h : BestK L a (k + 1) z.t (c + z.m) (r ++ [z.t])) : BestK L a k x c r := by
  have hl := h.1.2
  simp only [List.length_append, List.length_singleton] at hl
  refine ⟨⟨hw, by omega⟩, fun c' r' hw' hl' hb => ?_⟩
  have hm := hL z hz
  by_cases ht : z.t ∈ r'
  · have hne : z.t ≠ x := fun e => hn (by rw [e]; exact hw.mem)
    obtain ⟨c2, r2, h2, h3, h4⟩ := hw'.front17 hL z.t ht hne
    refine h.2 c2 r2 h2 (by omega) (.inl ?_)
    have hcc : c' ≤ c := by
      rcases hb with hb | hb
      · exact Int.le_of_lt hb
      · exact Int.le_of_eq hb.1
    show c2 < c + z.m
    omega
  · exact h.2 _ _ (.ext z hw' hz hf ht) (by simp; omega) (bet_snoc hb z.m z.t)
/-- With no bound that bites it is the best of all. -/
theorem bestk_all (hL : NetOk n L) (ha : 0 ≤ a ∧ a < n) (hk : n ≤ (k : Int) + 1) : BestK L a k x c r ↔ BestW L a x c r := by
  constructor
  · intro h
    exact ⟨h.1.1, fun c' r' hw => h.2 c' r' hw (by have := hw.short hL ha; omega)⟩
  · intro h
    exact ⟨⟨h.1, by have := h.1.short hL ha; omega⟩, fun c' r' hw _ => h.2 c' r' hw⟩
/-- What is the best of more is the best of fewer that it is one of. -/
theorem bestk_less {j : Nat} (h : BestK L a k x c r) (hj : j ≤ k) (hr : r.length ≤ j + 1) : BestK L a j x c r := ⟨⟨h.1.1, hr⟩, fun c' r' hw hl => h.2 c' r' hw (by omega)⟩

/-! The document's way. -/
/-- A link makes better what comes out, from what was noted before; or not. -/
def rlg (S : List (Option (Int × List Int))) (O : List (Option (Int × List Int))) (z : Lk) : List (Option (Int × List Int)) :=
  match sat S z.f with
  | none => O
  | some (c, r) => if z.t ∈ r then O else
    match sat O z.t with
    | none => O.set z.t.toNat (some (c + z.m, r ++ [z.t]))
    | some q => if bet (c + z.m, r ++ [z.t]) q then O.set z.t.toNat (some (c + z.m, r ++ [z.t])) else O
def grw (L : List Lk) (S : List (Option (Int × List Int))) : List (Option (Int × List Int)) := L.foldl (rlg S) S
def grws (L : List Lk) : Nat → List (Option (Int × List Int)) → List (Option (Int × List Int))
  | 0, S => S
  | k + 1, S => grw L (grws L k S)
/-- What is noted of each node is the best route of at most k links. -/
structure AllK (n : Int) (L : List Lk) (a : Int) (k : Nat) (S : List (Option (Int × List Int))) : Prop where
  len : (S.length : Int) = n
  best : ∀ x c r, 0 ≤ x → x < n → sat S x = some (c, r) → BestK L a k x c r
  none : ∀ x, 0 ≤ x → x < n → sat S x = Option.none → ∀ c r, Wy L a x c r → ¬ r.length ≤ k + 1
variable {S O : List (Option (Int × List Int))}
theorem rlg_cases (S O : List (Option (Int × List Int))) (z : Lk) : (rlg S O z = O ∧ (∀ c r, sat S z.f = some (c, r) → z.t ∉ r → ∃ q, sat O z.t = some q ∧ ¬ bet (c + z.m, r ++ [z.t]) q)) ∨
    ∃ c r, sat S z.f = some (c, r) ∧ z.t ∉ r ∧ (∀ q, sat O z.t = some q → bet (c + z.m, r ++ [z.t]) q) ∧ rlg S O z = O.set z.t.toNat (some (c + z.m, r ++ [z.t])) := by
  unfold rlg
  cases h : sat S z.f with
  | none => exact .inl ⟨rfl, fun c r hq => by cases hq⟩
  | some p =>
    obtain ⟨c, r⟩ := p
    by_cases ht : z.t ∈ r
    · left
      refine ⟨by simp [ht], fun c' r' hq hn => ?_⟩
      injection hq with hq
      injection hq with e1 e2
      subst e2
      exact absurd ht hn
    · simp only [ht, if_false]
      cases h2 : sat O z.t with
      | none => exact .inr ⟨c, r, rfl, ht, fun q hq => (by cases hq), rfl⟩
      | some q =>
        by_cases hb : bet (c + z.m, r ++ [z.t]) q
        · right
          simp only [hb, if_true]
          exact ⟨c, r, rfl, ht, fun q' hq => by injection hq with hq; subst hq; exact hb, rfl⟩
        · left
          simp only [hb, if_false]
          refine ⟨by first | rfl | trivial, fun c' r' hq _ => ?_⟩
          injection hq with hq
          injection hq with e1 e2
          subst e1
          subst e2
          exact ⟨q, by first | rfl | trivial, hb⟩
/-- What is known while the links are gone over. -/
structure Gng (n : Int) (L : List Lk) (a : Int) (k : Nat) (S : List (Option (Int × List Int))) (K : List Lk) (O : List (Option (Int × List Int))) : Prop where
  len : (O.length : Int) = n
  way : ∀ x c r, 0 ≤ x → x < n → sat O x = some (c, r) → Wy L a x c r ∧ r.length ≤ k + 2
  old : ∀ x p, 0 ≤ x → x < n → sat S x = some p → ∃ q, sat O x = some q ∧ ¬ bet p q
  new : ∀ z ∈ K, ∀ c r, sat S z.f = some (c, r) → z.t ∉ r → ∃ q, sat O z.t = some q ∧ ¬ bet (c + z.m, r ++ [z.t]) q
theorem Gng.start (h : AllK n L a k S) : Gng n L a k S [] S :=
  ⟨h.len, fun x c r h0 h1 hs => ⟨(h.best x c r h0 h1 hs).1.1, by have := (h.best x c r h0 h1 hs).1.2; omega⟩, fun x p _ _ hs => ⟨p, hs, bet_irrefl p⟩, fun z hz => by cases hz⟩
theorem Gng.step (hL : NetOk n L) (hS : AllK n L a k S) {K : List Lk} (h : Gng n L a k S K O) {z : Lk} (hz : z ∈ L) (hK : ∀ y ∈ K, y ∈ L) : Gng n L a k S (K ++ [z]) (rlg S O z) := by
  have hm := hL z hz
  rcases rlg_cases S O z with ⟨e, hno⟩ | ⟨c1, r1, h2, h3, h4, e⟩
  · rw [e]
    refine ⟨h.len, h.way, h.old, fun y hy => ?_⟩
    rcases List.mem_append.1 hy with hy | hy
    · exact h.new y hy
    · simp at hy
      subst hy
      exact hno
  · rw [e]
    have hset : ∀ x, 0 ≤ x → sat (O.set z.t.toNat (some (c1 + z.m, r1 ++ [z.t]))) x = if x = z.t then some (c1 + z.m, r1 ++ [z.t]) else sat O x := fun x hx => sat_set _ x (by have := h.len; omega) hx
    have hup : ∀ x p q, 0 ≤ x → sat O x = some q → ¬ bet p q → ∃ q', sat (O.set z.t.toNat (some (c1 + z.m, r1 ++ [z.t]))) x = some q' ∧ ¬ bet p q' := fun x p q hx hq hb => by
      rw [hset x hx]
      by_cases he : x = z.t
      · subst he
        rw [if_pos rfl]
        exact ⟨_, rfl, nbet_trans (bet_asymm (h4 q hq)) hb⟩
      · rw [if_neg he]
        exact ⟨q, hq, hb⟩
    refine ⟨by simp only [List.length_set]; exact h.len, fun x c r h0 h1 hx => ?_, fun x p h0 h1 hs => ?_, fun y hy c r hs hn => ?_⟩
    · rw [hset x h0] at hx
      by_cases he : x = z.t
      · rw [if_pos he] at hx
        injection hx with hx
        injection hx with e1 e2
        subst e1
        subst e2
        subst he
        have hb := hS.best z.f c1 r1 (by omega) (by omega) h2
        exact ⟨.ext z hb.1.1 hz rfl h3, by have := hb.1.2; simp; omega⟩
      · rw [if_neg he] at hx
        exact h.way x c r h0 h1 hx
    · obtain ⟨q, hq, hb⟩ := h.old x p h0 h1 hs
      exact hup x p q h0 hq hb
    · rcases List.mem_append.1 hy with hy | hy
      · obtain ⟨q, hq, hb⟩ := h.new y hy c r hs hn
        have := hL y (hK y hy)
        exact hup y.t _ q (by omega) hq hb
      · simp at hy
        subst hy
        rw [h2] at hs
        injection hs with hs
        injection hs with e1 e2
        subst e1
        subst e2
        rw [hset _ (by omega), if_pos rfl]
        exact ⟨_, rfl, bet_irrefl _⟩
theorem Gng.fold (hL : NetOk n L) (hS : AllK n L a k S) : ∀ (M K : List Lk) (O : List (Option (Int × List Int))), (∀ z ∈ M, z ∈ L) → (∀ z ∈ K, z ∈ L) → Gng n L a k S K O → Gng n L a k S (K ++ M) (M.foldl (rlg S) O)
  | [], K, O, _, _, h => by simpa using h
  | z :: M, K, O, hM, hK, h => by
    have hz := hM z (List.mem_cons_self ..)
    have := Gng.fold hL hS M (K ++ [z]) (rlg S O z) (fun y hy => hM y (List.mem_cons_of_mem _ hy)) (fun y hy => by
      rcases List.mem_append.1 hy with hy | hy
      · exact hK y hy
      · simp at hy; subst hy; exact hz) (h.step hL hS hz hK)
    rw [List.append_assoc] at this
    exact this
/-- No route of one link more is better than what comes out. -/
theorem Gng.done (hL : NetOk n L) (ha : 0 ≤ a ∧ a < n) (hn : n ≤ 16) (hS : AllK n L a k S) (h : Gng n L a k S L O) {x c : Int} {r : List Int} (hx : 0 ≤ x ∧ x < n) (hw : Wy L a x c r) (hl : r.length ≤ k + 2) : ∃ q, sat O x = some q ∧ ¬ bet (c, r) q := by
  by_cases hk : r.length ≤ k + 1
  · cases hs : sat S x with
    | none => exact absurd hk (hS.none x hx.1 hx.2 hs c r hw)
    | some p =>
      obtain ⟨q, hq, hb⟩ := h.old x p hx.1 hx.2 hs
      exact ⟨q, hq, nbet_trans hb ((hS.best x p.1 p.2 hx.1 hx.2 hs).2 c r hw hk)⟩
  · cases hw with
    | one => simp at hk
    | ext z hw hz hf hnt =>
      subst hf
      rename_i c0 r0
      have hm := hL z hz
      simp only [List.length_append, List.length_singleton] at hl hk
      cases hs : sat S z.f with
      | none => exact absurd (show r0.length ≤ k + 1 by omega) (hS.none z.f (by omega) (by omega) hs c0 r0 hw)
      | some p =>
        obtain ⟨c1, r1⟩ := p
        have hb := hS.best z.f c1 r1 (by omega) (by omega) hs
        have h2 := hb.2 c0 r0 hw (by omega)
        have hc1 := bet_cost h2
        simp only at hc1
        by_cases ht : z.t ∈ r1
        · have hne : z.t ≠ z.f := fun e => hnt (by rw [e]; exact hw.mem)
          obtain ⟨c2, r2, h3, h4, h5⟩ := hb.1.1.front17 hL z.t ht hne
          have hl1 := hb.1.2
          cases hst : sat S z.t with
          | none => exact absurd (show r2.length ≤ k + 1 by omega) (hS.none z.t (by omega) (by omega) hst c2 r2 h3)
          | some p =>
            obtain ⟨q, hq, hbq⟩ := h.old z.t p (by omega) (by omega) hst
            refine ⟨q, hq, fun hbt => ?_⟩
            have h6 := bet_cost hbq
            have h7 := bet_cost ((hS.best z.t p.1 p.2 (by omega) (by omega) hst).2 c2 r2 h3 (by omega))
            simp only at h6 h7
            have h8 : c0 + z.m ≤ q.1 := by
              rcases hbt with h | h
              · exact Int.le_of_lt h
              · exact Int.le_of_eq h.1
            omega
        · obtain ⟨q, hq, hbq⟩ := h.new z hz c1 r1 hs ht
          refine ⟨q, hq, nbet_trans hbq ?_⟩
          rcases bet_total (c0, r0) (c1, r1) with h | h | h
          · exact absurd h h2
          · injection h with e1 e2
            subst e1
            subst e2
            exact bet_irrefl _
          · exact bet_asymm (bet_snoc h z.m z.t)
/-- One round more: the best routes of at most one link more. -/
theorem grw_all (hL : NetOk n L) (ha : 0 ≤ a ∧ a < n) (hn : n ≤ 16) (hS : AllK n L a k S) : AllK n L a (k + 1) (grw L S) := by
  have h : Gng n L a k S L (grw L S) := by
    have := Gng.fold hL hS L [] S (fun _ h => h) (fun _ h => by cases h) (Gng.start hS)
    rw [List.nil_append] at this
    exact this
  refine ⟨h.len, fun x c r h0 h1 hs => ⟨h.way x c r h0 h1 hs, fun c' r' hw hl => ?_⟩, fun x h0 h1 hs c r hw hl => ?_⟩
  · obtain ⟨q, hq, hb⟩ := h.done hL ha hn hS ⟨h0, h1⟩ hw (by omega)
    rw [hs] at hq
    injection hq with hq
    subst hq
    exact hb
  · obtain ⟨q, hq, _⟩ := h.done hL ha hn hS ⟨h0, h1⟩ hw (by omega)
    rw [hs] at hq
    cases hq
theorem st0_all (hL : NetOk n L) (ha : 0 ≤ a ∧ a < n) : AllK n L a 0 (st0 n a) := by
  have h := st0_ntd (L := L) ha
  refine ⟨h.len, fun x c r h0 h1 hs => ?_, fun x h0 h1 hs c r hw hl => ?_⟩
  · rw [st0_sat ha x h0] at hs
    by_cases e : x = a
    · rw [if_pos e] at hs
      injection hs with hs
      injection hs with e1 e2
      subst e1
      subst e2
      subst e
      exact ⟨⟨.one, by simp⟩, fun c' r' hw hl hb => (best_self hL).2 c' r' hw hb⟩
    · rw [if_neg e] at hs; cases hs
  · cases hw with
    | one =>
      rw [st0_sat ha _ h0, if_pos rfl] at hs
      cases hs
    | ext z hw hz hf hnt =>
      have := hw.len
      simp only [List.length_append, List.length_singleton] at hl
      omega
theorem grws_all (hL : NetOk n L) (ha : 0 ≤ a ∧ a < n) (hn : n ≤ 16) : ∀ k, AllK n L a k (grws L k (st0 n a))
  | 0 => st0_all hL ha
  | k + 1 => grw_all hL ha hn (grws_all hL ha hn k)
end

/-- How many links at most: so many as there are nodes but one, or as is asked. -/
def hop17 (n H : Int) : Nat := if 0 < H then (min (n - 1) H).toNat else (n - 1).toNat
/-- A route is not too long. -/
def Lim17 (H : Int) (r : List Int) : Prop := H = 0 ∨ (r.length : Int) - 1 ≤ H
/-- The best route that is like what is asked. -/
def Best17 (L : List Lk) (H a x c : Int) (r : List Int) : Prop := (Wy L a x c r ∧ Lim17 H r) ∧ ∀ c' r', Wy L a x c' r' → Lim17 H r' → ¬ bet (c', r') (c, r)
section
variable {n H : Int} {L : List Lk} {a x c : Int} {r : List Int}
theorem lim_hop (hL : NetOk n L) (ha : 0 ≤ a ∧ a < n) (hH : 0 ≤ H) (hw : Wy L a x c r) : Lim17 H r ↔ r.length ≤ hop17 n H + 1 := by
  have h1 := hw.short hL ha
  have h2 := hw.len
  unfold Lim17 hop17
  by_cases h : 0 < H
  · rw [if_pos h]
    constructor
    · intro h3
      rcases h3 with h3 | h3
      · omega
      · omega
    · intro h3
      right
      omega
  · rw [if_neg h]
    constructor
    · intro _; omega
    · intro _; left; omega
theorem best17_k (hL : NetOk n L) (ha : 0 ≤ a ∧ a < n) (hH : 0 ≤ H) : Best17 L H a x c r ↔ BestK L a (hop17 n H) x c r := by
  constructor
  · intro h
    exact ⟨⟨h.1.1, (lim_hop hL ha hH h.1.1).1 h.1.2⟩, fun c' r' hw hl => h.2 c' r' hw ((lim_hop hL ha hH hw).2 hl)⟩
  · intro h
    exact ⟨⟨h.1.1, (lim_hop hL ha hH h.1.1).2 h.1.2⟩, fun c' r' hw hl => h.2 c' r' hw ((lim_hop hL ha hH hw).1 hl)⟩
theorem best17_unique {c' : Int} {r' : List Int} (h : Best17 L H a x c r) (j : Best17 L H a x c' r') : c = c' ∧ r = r' := by
  have := bet_same (j.2 _ _ h.1.1 h.1.2) (h.2 _ _ j.1.1 j.1.2)
  injection this with h1 h2
  exact ⟨h1, h2⟩
/-- Without a bound it is the best of all. -/
theorem best17_zero : Best17 L 0 a x c r ↔ BestW L a x c r :=
  ⟨fun h => ⟨h.1.1, fun c' r' hw => h.2 c' r' hw (.inl rfl)⟩, fun h => ⟨⟨h.1, .inl rfl⟩, fun c' r' hw _ => h.2 c' r' hw⟩⟩
/-- With more links allowed, and more links, what is the best costs no more. -/
theorem best17_more {L' : List Lk} {H' c' : Int} {r' : List Int} (h : Best17 L H a x c r) (j : Best17 L' H' a x c' r') (hs : ∀ z ∈ L, z ∈ L') (hH : H = 0 → H' = 0) (hH2 : H ≤ H' ∨ H' = 0) (h0 : 0 ≤ H) : c' ≤ c := by
  refine bet_cost (j.2 c r (h.1.1.more hs) ?_)
  rcases h.1.2 with e | e
  · exact .inl (hH e)
  · rcases hH2 with e2 | e2
    · exact .inr (by omega)
    · exact .inl e2
/-- With so many links allowed as it has it is found again. -/
theorem best17_again (h : Best17 L H a x c r) (h2 : 2 ≤ r.length) (hH : 0 ≤ H) : Best17 L ((r.length : Int) - 1) a x c r := by
  refine ⟨⟨h.1.1, .inr (by omega)⟩, fun c' r' hw hl => h.2 c' r' hw ?_⟩
  rcases h.1.2 with e | e
  · exact .inl e
  · rcases hl with e2 | e2
    · omega
    · exact .inr (by omega)
/-- With one fewer something else: shorter, and not better. -/
theorem best17_fewer {c' : Int} {r' : List Int} (h : Best17 L H a x c r) (h2 : 3 ≤ r.length) (hH : 0 ≤ H) (j : Best17 L ((r.length : Int) - 2) a x c' r') : r'.length < r.length ∧ ¬ bet (c', r') (c, r) := by
  have hl : (r'.length : Int) - 1 ≤ (r.length : Int) - 2 := by
    rcases j.1.2 with e | e
    · omega
    · exact e
  refine ⟨by omega, h.2 c' r' j.1.1 ?_⟩
  rcases h.1.2 with e | e
  · exact .inl e
  · exact .inr (by omega)
end
/-- What Find answers: a route, what it costs, and an error. -/
structure Csp17 (ok : Prop) (L : List Lk) (H f t : Int) (r : List Int) (c e : Int) : Prop where
  bad : ¬ ok → r = [] ∧ c = 0 ∧ e = 2
  good : ok → (e = 0 ∧ Best17 L H f t c r) ∨ (e = 8 ∧ r = [] ∧ c = 0 ∧ ∀ c' r', Wy L f t c' r' → ¬ Lim17 H r')
theorem csp17_unique {ok : Prop} {L : List Lk} {H f t c c' e e' : Int} {r r' : List Int} (h : Csp17 ok L H f t r c e) (j : Csp17 ok L H f t r' c' e') : r = r' ∧ c = c' ∧ e = e' := by
  by_cases hk : ok
  · rcases h.good hk with ⟨h1, h2⟩ | ⟨h1, h2, h3, h4⟩
    · rcases j.good hk with ⟨j1, j2⟩ | ⟨j1, j2, j3, j4⟩
      · have := best17_unique h2 j2
        exact ⟨this.2, this.1, by rw [h1, j1]⟩
      · exact absurd h2.1.2 (j4 _ _ h2.1.1)
    · rcases j.good hk with ⟨j1, j2⟩ | ⟨j1, j2, j3, j4⟩
      · exact absurd j2.1.2 (h4 _ _ j2.1.1)
      · exact ⟨by rw [h2, j2], by rw [h3, j3], by rw [h1, j1]⟩
  · have h1 := h.bad hk
    have j1 := j.bad hk
    exact ⟨by rw [h1.1, j1.1], by rw [h1.2.1, j1.2.1], by rw [h1.2.2, j1.2.2]⟩
end Go.Proofs.YtjflbfianncpfaaGreat
