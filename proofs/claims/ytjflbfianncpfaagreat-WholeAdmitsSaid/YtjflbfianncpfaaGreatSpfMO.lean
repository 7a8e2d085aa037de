/-
  Which of two routes is better, plain: an order. No condition.
  Routes of a network, plain: the best one, its beginnings, and when what is noted of each node is the best one. No condition.
  The document's best routes (viaductref11.All), plain: links are gone over as often as there are nodes; what is noted then is the best. No condition.
-/
import Derived.Test.YtjflbfianncpfaaGreatBase
import Derived.Test.YtjflbfianncpfaaGreatGraphAC
namespace Go.Proofs.YtjflbfianncpfaaGreat
set_option maxRecDepth 100000

/-- The first of two lists of one length is smaller at the first place where they differ. -/
def lxl : List Int → List Int → Prop
  | x :: r, y :: s => x < y ∨ (x = y ∧ lxl r s)
  | _, _ => False
instance lxlDec : ∀ r s, Decidable (lxl r s)
  | [], _ => .isFalse (by simp [lxl])
  | _ :: _, [] => .isFalse (by simp [lxl])
  | x :: r, y :: s => by
    have := lxlDec r s
    unfold lxl
    infer_instance
theorem lxl_irrefl : ∀ r, ¬ lxl r r
  | [] => by simp [lxl]
  | x :: r => by
    have := lxl_irrefl r
    unfold lxl
    intro h
    rcases h with h | h
    · omega
    · exact this h.2
theorem lxl_trans : ∀ {r s t : List Int}, lxl r s → lxl s t → lxl r t
  | [], _, _, h, _ => by simp [lxl] at h
  | _ :: _, [], _, h, _ => by simp [lxl] at h
  | _ :: _, _ :: _, [], _, h => by simp [lxl] at h
  | x :: r, y :: s, z :: t, h, k => by
    unfold lxl at h k ⊢
    rcases h with h | ⟨h, h'⟩
    · rcases k with k | ⟨k, _⟩ <;> (left; omega)
    · rcases k with k | ⟨k, k'⟩
      · left; omega
      · right; exact ⟨by omega, lxl_trans h' k'⟩
theorem lxl_total : ∀ {r s : List Int}, r.length = s.length → lxl r s ∨ r = s ∨ lxl s r
  | [], [], _ => .inr (.inl rfl)
  | [], _ :: _, h => by simp at h
  | _ :: _, [], h => by simp at h
  | x :: r, y :: s, h => by
    unfold lxl
    have ih := lxl_total (r := r) (s := s) (by simpa using h)
    rcases Int.lt_trichotomy x y with h1 | h1 | h1
    · exact .inl (.inl h1)
    · subst h1
      rcases ih with ih | ih | ih
      · exact .inl (.inr ⟨rfl, ih⟩)
      · exact .inr (.inl (by rw [ih]))
      · exact .inr (.inr (.inr ⟨rfl, ih⟩))
    · exact .inr (.inr (.inl h1))
theorem lxl_append : ∀ {r s : List Int}, lxl r s → ∀ (u v : List Int), lxl (r ++ u) (s ++ v)
  | [], _, h, _, _ => by simp [lxl] at h
  | _ :: _, [], h, _, _ => by simp [lxl] at h
  | x :: r, y :: s, h, u, v => by
    rw [List.cons_append, List.cons_append]
    unfold lxl at h ⊢
    rcases h with h | ⟨h, h'⟩
    · exact .inl h
    · exact .inr ⟨h, lxl_append h' u v⟩

/-- A route, as what it costs and its nodes, is better than another one. -/
def bet (p q : Int × List Int) : Prop := p.1 < q.1 ∨ (p.1 = q.1 ∧ (p.2.length < q.2.length ∨ (p.2.length = q.2.length ∧ lxl p.2 q.2)))
instance (p q : Int × List Int) : Decidable (bet p q) := by unfold bet; infer_instance
theorem bet_irrefl (p : Int × List Int) : ¬ bet p p := by
  unfold bet
  have := lxl_irrefl p.2
  rintro (h | ⟨_, h | ⟨_, h⟩⟩)
  · omega
  · omega
  · exact this h
theorem bet_trans {p q r : Int × List Int} (h : bet p q) (k : bet q r) : bet p r := by
  unfold bet at *
  rcases h with h | ⟨h1, h | ⟨h2, h⟩⟩ <;> rcases k with k | ⟨k1, k | ⟨k2, k⟩⟩
  · left; omega
  · left; omega
  · left; omega
  · left; omega
  · right; exact ⟨by omega, .inl (by omega)⟩
  · right; exact ⟨by omega, .inl (by omega)⟩
  · left; omega
  · right; exact ⟨by omega, .inl (by omega)⟩
  · right; exact ⟨by omega, .inr ⟨by omega, lxl_trans h k⟩⟩
theorem bet_asymm {p q : Int × List Int} (h : bet p q) : ¬ bet q p := fun k => bet_irrefl _ (bet_trans h k)
theorem bet_total (p q : Int × List Int) : bet p q ∨ p = q ∨ bet q p := by
  unfold bet
  rcases Int.lt_trichotomy p.1 q.1 with h | h | h
  · exact .inl (.inl h)
  · rcases Nat.lt_trichotomy p.2.length q.2.length with k | k | k
    · exact .inl (.inr ⟨h, .inl k⟩)
    · rcases lxl_total k with e | e | e
      · exact .inl (.inr ⟨h, .inr ⟨k, e⟩⟩)
      · exact .inr (.inl (Prod.ext h e))
      · exact .inr (.inr (.inr ⟨h.symm, .inr ⟨k.symm, e⟩⟩))
    · exact .inr (.inr (.inr ⟨h.symm, .inl k⟩))
  · exact .inr (.inr (.inl h))
/-- Not better, and not better: one route. -/
theorem bet_same {p q : Int × List Int} (h : ¬ bet p q) (k : ¬ bet q p) : p = q := by
  rcases bet_total p q with e | e | e
  · exact absurd e h
  · exact e
  · exact absurd e k
/-- What is not worse than something not worse is not worse. -/
theorem nbet_trans {p q r : Int × List Int} (h : ¬ bet q p) (k : ¬ bet r q) : ¬ bet r p := by
  intro e
  rcases bet_total p q with h1 | h1 | h1
  · exact k (bet_trans e h1)
  · subst h1; exact k e
  · exact h h1
/-- A node more behind both. -/
theorem bet_snoc {p q : Int × List Int} (h : bet p q) (m t : Int) : bet (p.1 + m, p.2 ++ [t]) (q.1 + m, q.2 ++ [t]) := by
  unfold bet at *
  simp only [List.length_append, List.length_singleton]
  rcases h with h | ⟨h1, h | ⟨h2, h⟩⟩
  · left; omega
  · right; exact ⟨by omega, .inl (by omega)⟩
  · right; exact ⟨by omega, .inr ⟨by omega, lxl_append h _ _⟩⟩
theorem bet_cost {p q : Int × List Int} (h : ¬ bet p q) : q.1 ≤ p.1 := by
  unfold bet at h
  omega

/-- Lists of one length by a number: smaller lists have smaller ones. -/
def lxv : List Int → Nat
  | [] => 0
  | x :: r => x.toNat * 16 ^ r.length + lxv r
theorem lxv_lt : ∀ {r : List Int}, (∀ x ∈ r, 0 ≤ x ∧ x < 16) → lxv r < 16 ^ r.length
  | [], _ => by simp [lxv]
  | x :: r, h => by
    have ih := lxv_lt (r := r) (fun y hy => h y (List.mem_cons_of_mem _ hy))
    have hx := h x (List.mem_cons_self ..)
    unfold lxv
    rw [List.length_cons, Nat.pow_succ]
    have h1 : x.toNat ≤ 15 := by omega
    have h2 : x.toNat * 16 ^ r.length ≤ 15 * 16 ^ r.length := Nat.mul_le_mul_right _ h1
    omega
theorem lxv_mono : ∀ {r s : List Int}, r.length = s.length → (∀ x ∈ r, 0 ≤ x ∧ x < 16) → (∀ x ∈ s, 0 ≤ x ∧ x < 16) → lxl r s → lxv r < lxv s
  | [], _, _, _, _, h => by simp [lxl] at h
  | _ :: _, [], _, _, _, h => by simp [lxl] at h
  | x :: r, y :: s, hl, h1, h2, h => by
    have hl' : r.length = s.length := by simpa using hl
    have hx := h1 x (List.mem_cons_self ..)
    have hy := h2 y (List.mem_cons_self ..)
    have hr := lxv_lt (r := r) (fun z hz => h1 z (List.mem_cons_of_mem _ hz))
    unfold lxl at h
    unfold lxv
    rw [← hl']
    rcases h with h | ⟨rfl, h⟩
    · have h3 : x.toNat + 1 ≤ y.toNat := by omega
      have h4 : (x.toNat + 1) * 16 ^ r.length ≤ y.toNat * 16 ^ r.length := Nat.mul_le_mul_right _ h3
      rw [Nat.add_mul, Nat.one_mul] at h4
      omega
    · have ih := lxv_mono hl' (fun z hz => h1 z (List.mem_cons_of_mem _ hz)) (fun z hz => h2 z (List.mem_cons_of_mem _ hz)) h
      omega
/-- Routes by a number: better ones have smaller ones, if they have at most 16 nodes, of at most 16. -/
def bkey (p : Int × List Int) : Nat := p.1.toNat * (17 * 16 ^ 16) + (p.2.length * 16 ^ 16 + lxv p.2)
theorem bkey_mono {p q : Int × List Int} (hp : 0 ≤ p.1 ∧ p.2.length ≤ 16 ∧ ∀ x ∈ p.2, 0 ≤ x ∧ x < 16) (hq : 0 ≤ q.1 ∧ q.2.length ≤ 16 ∧ ∀ x ∈ q.2, 0 ≤ x ∧ x < 16) (h : bet p q) : bkey p < bkey q := by
  have v1 := lxv_lt hp.2.2
  have v2 := lxv_lt hq.2.2
  have e1 : 16 ^ p.2.length ≤ 16 ^ 16 := Nat.pow_le_pow_right (by omega) hp.2.1
  have e2 : 16 ^ q.2.length ≤ 16 ^ 16 := Nat.pow_le_pow_right (by omega) hq.2.1
  have v1' : lxv p.2 < 16 ^ 16 := by omega
  unfold bkey
  generalize 16 ^ 16 = K at *
  unfold bet at h
  have hp1 := hp.2.1
  have hq1 := hq.2.1
  rcases h with h | ⟨h1, h | ⟨h2, h⟩⟩
  · have h3 : p.1.toNat + 1 ≤ q.1.toNat := by omega
    have h4 : (p.1.toNat + 1) * (17 * K) ≤ q.1.toNat * (17 * K) := Nat.mul_le_mul_right _ h3
    rw [Nat.add_mul, Nat.one_mul] at h4
    have h5 : p.2.length * K ≤ 16 * K := Nat.mul_le_mul_right _ hp1
    omega
  · have h4 : (p.2.length + 1) * K ≤ q.2.length * K := Nat.mul_le_mul_right _ h
    rw [Nat.add_mul, Nat.one_mul] at h4
    rw [h1]
    omega
  · have := lxv_mono h2 hp.2.2 hq.2.2 h
    rw [h1, h2]
    omega
end Go.Proofs.YtjflbfianncpfaaGreat

namespace Go.Proofs.YtjflbfianncpfaaGreat
set_option maxRecDepth 100000

/-- A route from a node: where it ends, what it costs, and its nodes. -/
inductive Wy (L : List Lk) (a : Int) : Int → Int → List Int → Prop where
  | one : Wy L a a 0 [a]
  | ext {x c : Int} {r : List Int} (z : Lk) : Wy L a x c r → z ∈ L → z.f = x → z.t ∉ r → Wy L a z.t (c + z.m) (r ++ [z.t])
/-- Links between nodes that there are, which cost something. -/
def NetOk (n : Int) (L : List Lk) : Prop := ∀ z ∈ L, 0 ≤ z.f ∧ z.f < n ∧ 0 ≤ z.t ∧ z.t < n ∧ 1 ≤ z.m ∧ z.m ≤ 65535
section
variable {n : Int} {L : List Lk} {a x c : Int} {r : List Int}
theorem Wy.first (h : Wy L a x c r) : ∃ s, r = a :: s := by
  induction h with
  | one => exact ⟨[], rfl⟩
  | ext z _ _ _ _ ih => obtain ⟨s, rfl⟩ := ih; exact ⟨s ++ [z.t], rfl⟩
theorem Wy.last (h : Wy L a x c r) : ∃ s, r = s ++ [x] := by
  cases h with
  | one => exact ⟨[], rfl⟩
  | ext z _ _ _ _ => exact ⟨_, rfl⟩
theorem Wy.mem (h : Wy L a x c r) : x ∈ r := by obtain ⟨s, rfl⟩ := h.last; simp
theorem Wy.start (h : Wy L a x c r) : a ∈ r := by obtain ⟨s, rfl⟩ := h.first; simp
theorem Wy.nodup (h : Wy L a x c r) : r.Nodup := by
  induction h with
  | one => simp
  | ext z _ _ _ hn ih => exact List.nodup_append.2 ⟨ih, by simp, fun u hu v hv => by simp at hv; subst hv; intro e; subst e; exact hn hu⟩
theorem Wy.inn (hL : NetOk n L) (ha : 0 ≤ a ∧ a < n) (h : Wy L a x c r) : ∀ y ∈ r, 0 ≤ y ∧ y < n := by
  induction h with
  | one => intro y hy; simp at hy; subst hy; exact ha
  | ext z _ hz _ _ ih =>
    intro y hy
    rcases List.mem_append.1 hy with hy | hy
    · exact ih y hy
    · simp at hy; subst hy; have := hL z hz; omega
theorem Wy.cost (hL : NetOk n L) (h : Wy L a x c r) : (r.length : Int) - 1 ≤ c ∧ c ≤ ((r.length : Int) - 1) * 65535 := by
  induction h with
  | one => simp
  | ext z _ hz _ _ ih =>
    have := hL z hz
    simp only [List.length_append, List.length_singleton]
    omega
theorem Wy.len (h : Wy L a x c r) : 1 ≤ r.length := by obtain ⟨s, rfl⟩ := h.first; simp
theorem Wy.cost0 (hL : NetOk n L) (h : Wy L a x c r) : 0 ≤ c := by have := h.cost hL; have := h.len; omega
/-- A node ahead of the end: what leads to it costs less. -/
theorem Wy.front (hL : NetOk n L) (h : Wy L a x c r) : ∀ t ∈ r, t ≠ x → ∃ c' r', Wy L a t c' r' ∧ c' < c := by
  induction h with
  | one => intro t ht hne; simp at ht; exact absurd ht hne
  | ext z hw hz hf hn ih =>
    intro t ht hne
    have hm := hL z hz
    rcases List.mem_append.1 ht with ht | ht
    · by_cases he : t = z.f
      · subst he
        exact ⟨_, _, hf ▸ hw, by omega⟩
      · obtain ⟨c', r', h1, h2⟩ := ih t ht (by rw [← hf]; exact he)
        exact ⟨c', r', h1, by omega⟩
    · simp at ht; exact absurd ht hne
/-- At most as many different numbers as there are. -/
theorem few_nodes : ∀ (k : Nat) (r : List Int), r.Nodup → (∀ y ∈ r, 0 ≤ y ∧ y < (k : Int)) → r.length ≤ k
  | 0, [], _, _ => by simp
  | 0, y :: r, _, h => by have := h y (List.mem_cons_self ..); omega
  | k + 1, r, hn, h => by
    by_cases hm : (k : Int) ∈ r
    · have h1 := few_nodes k (r.erase (k : Int)) (hn.erase _) (fun y hy => by
        have h2 := (hn.mem_erase_iff).1 hy
        have h3 := h y h2.2
        have := h2.1
        omega)
      rw [List.length_erase_of_mem hm] at h1
      omega
    · have h1 := few_nodes k r hn (fun y hy => by
        have h3 := h y hy
        have : y ≠ (k : Int) := fun e => hm (e ▸ hy)
        omega)
      omega
theorem Wy.short (hL : NetOk n L) (ha : 0 ≤ a ∧ a < n) (h : Wy L a x c r) : (r.length : Int) ≤ n := by
  obtain ⟨k, rfl⟩ : ∃ k : Nat, n = (k : Int) := ⟨n.toNat, by omega⟩
  have := few_nodes k r h.nodup (h.inn hL ha)
  omega

/-- No route to the same node is better. -/
def BestW (L : List Lk) (a x c : Int) (r : List Int) : Prop := Wy L a x c r ∧ ∀ c' r', Wy L a x c' r' → ¬ bet (c', r') (c, r)
theorem best_unique {c' : Int} {r' : List Int} (h : BestW L a x c r) (k : BestW L a x c' r') : c = c' ∧ r = r' := by
  have := bet_same (k.2 _ _ h.1) (h.2 _ _ k.1)
  injection this with h1 h2
  exact ⟨h1, h2⟩
theorem Wy.keyed (hL : NetOk n L) (ha : 0 ≤ a ∧ a < n) (hn : n ≤ 16) (h : Wy L a x c r) : 0 ≤ c ∧ r.length ≤ 16 ∧ ∀ y ∈ r, 0 ≤ y ∧ y < 16 := by
  refine ⟨h.cost0 hL, by have := h.short hL ha; omega, fun y hy => ?_⟩
  have := h.inn hL ha y hy
  omega
theorem best_exists (hL : NetOk n L) (ha : 0 ≤ a ∧ a < n) (hn : n ≤ 16) : ∀ (k : Nat) (c : Int) (r : List Int), bkey (c, r) = k → Wy L a x c r → ∃ c' r', BestW L a x c' r' := by
  intro k
  induction k using Nat.strongRecOn with
  | ind k ih =>
    intro c r hk h
    by_cases hb : BestW L a x c r
    · exact ⟨c, r, hb⟩
    · have : ∃ c' r', Wy L a x c' r' ∧ bet (c', r') (c, r) := by
        apply Classical.byContradiction
        intro hno
        exact hb ⟨h, fun c' r' hw hbt => hno ⟨c', r', hw, hbt⟩⟩
      obtain ⟨c', r', hw, hbt⟩ := this
      have := bkey_mono (hw.keyed hL ha hn) (h.keyed hL ha hn) hbt
      exact ih (bkey (c', r')) (by omega) c' r' rfl hw
/-- The beginning of a best route is a best one. -/
theorem best_front (hL : NetOk n L) {z : Lk} (hz : z ∈ L) (hf : z.f = x) (hw : Wy L a x c r) (hn : z.t ∉ r) (h : BestW L a z.t (c + z.m) (r ++ [z.t])) : BestW L a x c r := by
  refine ⟨hw, fun c' r' hw' hb => ?_⟩
  have hm := hL z hz
  by_cases ht : z.t ∈ r'
  · have hne : z.t ≠ x := fun e => hn (by rw [e]; exact hw.mem)
    obtain ⟨c2, r2, h2, h3⟩ := hw'.front hL z.t ht hne
    refine h.2 c2 r2 h2 (.inl ?_)
    have hcc : c' ≤ c := by
      rcases hb with hb | hb
      · exact Int.le_of_lt hb
      · exact Int.le_of_eq hb.1
    show c2 < c + z.m
    omega
  · exact h.2 _ _ (.ext z hw' hz hf ht) (bet_snoc hb z.m z.t)
/-- A best route is one node alone, or has a best one ahead of its end. -/
theorem best_cases (hL : NetOk n L) (h : BestW L a x c r) : (x = a ∧ c = 0 ∧ r = [a]) ∨ ∃ z c0 r0, z ∈ L ∧ z.t = x ∧ c = c0 + z.m ∧ r = r0 ++ [x] ∧ x ∉ r0 ∧ BestW L a z.f c0 r0 := by
  have hw := h.1
  cases hw with
  | one => exact .inl ⟨rfl, rfl, rfl⟩
  | ext z hw hz hf hn =>
    subst hf
    exact .inr ⟨z, _, _, hz, rfl, rfl, rfl, hn, best_front hL hz rfl hw hn h⟩
theorem best_self (hL : NetOk n L) : BestW L a a 0 [a] := by
  refine ⟨.one, fun c' r' hw hb => ?_⟩
  have h1 := hw.cost0 hL
  have h2 := hw.cost hL
  have h3 := hw.len
  rcases hb with hb | ⟨hb, hb2 | ⟨hb2, hb3⟩⟩
  · simp only at hb; omega
  · have hb3 : r'.length < 1 := hb2
    omega
  · obtain ⟨s, rfl⟩ := hw.first
    simp at hb2
    subst hb2
    simp [lxl] at hb3

/-- What is noted of each node is not worse than any route, if no link makes it better. -/
theorem stable_best (hL : NetOk n L) {out : Int → Option (Int × List Int)} (hW : ∀ x c r, out x = some (c, r) → Wy L a x c r) (ha : out a = some (0, [a]))
    (hs : ∀ z ∈ L, ∀ c r, out z.f = some (c, r) → z.t ∉ r → ∃ p, out z.t = some p ∧ ¬ bet (c + z.m, r ++ [z.t]) p) :
    ∀ (N : Nat) (x c : Int) (r : List Int), c.toNat = N → Wy L a x c r → ∃ p, out x = some p ∧ ¬ bet (c, r) p := by
  intro N
  induction N using Nat.strongRecOn with
  | ind N ih =>
    intro x c r hN hw
    cases hw with
    | one => exact ⟨_, ha, bet_irrefl _⟩
    | ext z hw hz hf hn =>
      subst hf
      rename_i c0 r0
      have hm := hL z hz
      have h0 := hw.cost0 hL
      obtain ⟨⟨c1, r1⟩, h1, h2⟩ := ih c0.toNat (by omega) z.f c0 r0 rfl hw
      have hc1 := bet_cost h2
      simp only at hc1
      by_cases ht : z.t ∈ r1
      · have hne : z.t ≠ z.f := fun e => hn (by rw [e]; exact hw.mem)
        obtain ⟨c2, r2, h3, h4⟩ := (hW _ _ _ h1).front hL z.t ht hne
        have h5 := h3.cost0 hL
        obtain ⟨p, hp, hb⟩ := ih c2.toNat (by omega) z.t c2 r2 rfl h3
        refine ⟨p, hp, fun hbt => ?_⟩
        have h6 := bet_cost hb
        simp only at h6
        have h7 : c0 + z.m ≤ p.1 := by
          rcases hbt with h | h
          · exact Int.le_of_lt h
          · exact Int.le_of_eq h.1
        omega
      · obtain ⟨p, hp, hb⟩ := hs z hz c1 r1 h1 ht
        refine ⟨p, hp, nbet_trans hb ?_⟩
        rcases bet_total (c0, r0) (c1, r1) with h | h | h
        · exact absurd h h2
        · injection h with e1 e2
          subst e1
          subst e2
          exact bet_irrefl _
        · exact bet_asymm (bet_snoc h z.m z.t)
/-- .. so it is the best one, or there is none. -/
theorem stable_all (hL : NetOk n L) {out : Int → Option (Int × List Int)} (hW : ∀ x c r, out x = some (c, r) → Wy L a x c r) (ha : out a = some (0, [a]))
    (hs : ∀ z ∈ L, ∀ c r, out z.f = some (c, r) → z.t ∉ r → ∃ p, out z.t = some p ∧ ¬ bet (c + z.m, r ++ [z.t]) p) (x : Int) :
    (∀ c r, out x = some (c, r) → BestW L a x c r) ∧ (out x = none → ∀ c r, ¬ Wy L a x c r) := by
  refine ⟨fun c r h => ⟨hW x c r h, fun c' r' hw => ?_⟩, fun h c r hw => ?_⟩
  · obtain ⟨p, hp, hb⟩ := stable_best hL hW ha hs _ x c' r' rfl hw
    rw [h] at hp
    injection hp with hp
    subst hp
    exact hb
  · obtain ⟨p, hp, _⟩ := stable_best hL hW ha hs _ x c r rfl hw
    rw [h] at hp
    cases hp
end
end Go.Proofs.YtjflbfianncpfaaGreat

namespace Go.Proofs.YtjflbfianncpfaaGreat
set_option maxRecDepth 100000

/-- What is noted of a node. -/
def sat (S : List (Option (Int × List Int))) (x : Int) : Option (Int × List Int) := S.getD x.toNat none
theorem sat_set {S : List (Option (Int × List Int))} {t : Int} (p : Option (Int × List Int)) (x : Int) (ht : 0 ≤ t ∧ t < (S.length : Int)) (hx : 0 ≤ x) : sat (S.set t.toNat p) x = if x = t then p else sat S x := by
  unfold sat
  by_cases h : x = t
  · subst h
    rw [if_pos rfl]
    have : x.toNat < S.length := by omega
    simp [List.getD_eq_getElem?_getD, this]
  · rw [if_neg h]
    have : t.toNat ≠ x.toNat := by omega
    simp [List.getD_eq_getElem?_getD, List.getElem?_set_ne this]
/-- A link makes what is noted better, or not. -/
def rlx (S : List (Option (Int × List Int))) (z : Lk) : List (Option (Int × List Int)) :=
  match sat S z.f with
  | none => S
  | some (c, r) => if z.t ∈ r then S else
    match sat S z.t with
    | none => S.set z.t.toNat (some (c + z.m, r ++ [z.t]))
    | some q => if bet (c + z.m, r ++ [z.t]) q then S.set z.t.toNat (some (c + z.m, r ++ [z.t])) else S
/-- All links, so often. -/
def rnds (L : List Lk) : Nat → List (Option (Int × List Int)) → List (Option (Int × List Int))
  | 0, S => S
  | k + 1, S => L.foldl rlx (rnds L k S)
/-- What is noted at first. -/
def st0 (n a : Int) : List (Option (Int × List Int)) := (List.replicate n.toNat none).set a.toNat (some (0, [a]))

section
variable {n : Int} {L : List Lk} {a : Int} {S : List (Option (Int × List Int))}
theorem rlx_cases (S : List (Option (Int × List Int))) (z : Lk) : rlx S z = S ∨ ∃ c r, sat S z.f = some (c, r) ∧ z.t ∉ r ∧ (∀ q, sat S z.t = some q → bet (c + z.m, r ++ [z.t]) q) ∧ rlx S z = S.set z.t.toNat (some (c + z.m, r ++ [z.t])) := by
  unfold rlx
  cases h : sat S z.f with
  | none => exact .inl rfl
  | some p =>
    obtain ⟨c, r⟩ := p
    by_cases ht : z.t ∈ r
    · left; simp [ht]
    · simp only [ht, if_false]
      cases h2 : sat S z.t with
      | none => exact .inr ⟨c, r, rfl, ht, fun q hq => (by cases hq), rfl⟩
      | some q =>
        by_cases hb : bet (c + z.m, r ++ [z.t]) q
        · right
          simp only [hb, if_true]
          exact ⟨c, r, rfl, ht, fun q' hq => by injection hq with hq; subst hq; exact hb, rfl⟩
        · left; simp [hb]
/-- What is noted is a route. -/
structure Ntd (n : Int) (L : List Lk) (a : Int) (S : List (Option (Int × List Int))) : Prop where
  len : (S.length : Int) = n
  way : ∀ x c r, 0 ≤ x → x < n → sat S x = some (c, r) → Wy L a x c r
theorem rlx_len (S : List (Option (Int × List Int))) (z : Lk) : (rlx S z).length = S.length := by
  rcases rlx_cases S z with h | ⟨c, r, _, _, _, h⟩ <;> rw [h]
  simp
theorem Ntd.rlx (hL : NetOk n L) (h : Ntd n L a S) {z : Lk} (hz : z ∈ L) : Ntd n L a (rlx S z) := by
  have hm := hL z hz
  refine ⟨by rw [rlx_len]; exact h.len, fun x c r h0 h1 hx => ?_⟩
  rcases rlx_cases S z with e | ⟨c1, r1, h2, h3, _, e⟩ <;> rw [e] at hx
  · exact h.way x c r h0 h1 hx
  · rw [sat_set _ x (by have := h.len; omega) h0] at hx
    by_cases he : x = z.t
    · rw [if_pos he] at hx
      injection hx with hx
      injection hx with e1 e2
      subst e1
      subst e2
      subst he
      exact .ext z (h.way z.f c1 r1 (by omega) (by omega) h2) hz rfl h3
    · rw [if_neg he] at hx
      exact h.way x c r h0 h1 hx
/-- What is the best stays. -/
theorem rlx_keeps (hL : NetOk n L) (h : Ntd n L a S) {z : Lk} (hz : z ∈ L) {x c : Int} {r : List Int} (hx : 0 ≤ x) (hb : BestW L a x c r) (hs : sat S x = some (c, r)) : sat (rlx S z) x = some (c, r) := by
  have hm := hL z hz
  rcases rlx_cases S z with e | ⟨c1, r1, h2, h3, h4, e⟩ <;> rw [e]
  · exact hs
  · rw [sat_set _ x (by have := h.len; omega) hx]
    by_cases he : x = z.t
    · subst he
      exact absurd (h4 _ hs) (hb.2 _ _ (.ext z (h.way z.f c1 r1 (by omega) (by omega) h2) hz rfl h3))
    · rw [if_neg he]; exact hs
/-- A link hands the best on. -/
theorem rlx_hands (hL : NetOk n L) (h : Ntd n L a S) {z : Lk} (hz : z ∈ L) {c : Int} {r : List Int} (hs : sat S z.f = some (c, r)) (hn : z.t ∉ r) (hb : BestW L a z.t (c + z.m) (r ++ [z.t])) : sat (rlx S z) z.t = some (c + z.m, r ++ [z.t]) := by
  have hm := hL z hz
  have hset : sat (S.set z.t.toNat (some (c + z.m, r ++ [z.t]))) z.t = some (c + z.m, r ++ [z.t]) := by
    rw [sat_set _ z.t (by have := h.len; omega) (by omega), if_pos rfl]
  unfold rlx
  rw [hs]
  simp only [hn, if_false]
  cases h2 : sat S z.t with
  | none => exact hset
  | some q =>
    by_cases hbt : bet (c + z.m, r ++ [z.t]) q
    · simp only [hbt, if_true]; exact hset
    · simp only [hbt, if_false]
      rw [h2]
      obtain ⟨c2, r2⟩ := q
      have hw := h.way z.t c2 r2 (by omega) (by omega) h2
      rw [bet_same hbt (hb.2 _ _ hw)]
theorem fold_ntd (hL : NetOk n L) : ∀ (K : List Lk) (S : List (Option (Int × List Int))), (∀ z ∈ K, z ∈ L) → Ntd n L a S → Ntd n L a (K.foldl rlx S)
  | [], _, _, h => h
  | z :: K, S, hK, h => fold_ntd hL K (rlx S z) (fun y hy => hK y (List.mem_cons_of_mem _ hy)) (h.rlx hL (hK z (List.mem_cons_self ..)))
theorem fold_keeps (hL : NetOk n L) {x c : Int} {r : List Int} (hx : 0 ≤ x) (hb : BestW L a x c r) : ∀ (K : List Lk) (S : List (Option (Int × List Int))), (∀ z ∈ K, z ∈ L) → Ntd n L a S → sat S x = some (c, r) → sat (K.foldl rlx S) x = some (c, r)
  | [], _, _, _, hs => hs
  | z :: K, S, hK, h, hs => fold_keeps hL hx hb K (rlx S z) (fun y hy => hK y (List.mem_cons_of_mem _ hy)) (h.rlx hL (hK z (List.mem_cons_self ..))) (rlx_keeps hL h (hK z (List.mem_cons_self ..)) hx hb hs)
theorem fold_hands (hL : NetOk n L) {z : Lk} {c : Int} {r : List Int} (hf : BestW L a z.f c r) (hn : z.t ∉ r) (hb : BestW L a z.t (c + z.m) (r ++ [z.t])) : ∀ (K : List Lk) (S : List (Option (Int × List Int))), (∀ y ∈ K, y ∈ L) → z ∈ K → Ntd n L a S → sat S z.f = some (c, r) → sat (K.foldl rlx S) z.t = some (c + z.m, r ++ [z.t])
  | [], _, _, hz, _, _ => by cases hz
  | y :: K, S, hK, hz, h, hs => by
    have hy := hK y (List.mem_cons_self ..)
    have hK' : ∀ u ∈ K, u ∈ L := fun u hu => hK u (List.mem_cons_of_mem _ hu)
    have hm := hL z (hK z hz)
    show sat (K.foldl rlx (rlx S y)) z.t = _
    by_cases e : z = y
    · subst e
      exact fold_keeps hL (by omega) hb K _ hK' (h.rlx hL hy) (rlx_hands hL h hy hs hn hb)
    · rcases List.mem_cons.1 hz with e2 | hz
      · exact absurd e2 e
      · exact fold_hands hL hf hn hb K _ hK' hz (h.rlx hL hy) (rlx_keeps hL h hy (by omega) hf hs)
theorem rnds_ntd (hL : NetOk n L) (h : Ntd n L a S) : ∀ k, Ntd n L a (rnds L k S)
  | 0 => h
  | k + 1 => fold_ntd hL L _ (fun _ hz => hz) (rnds_ntd hL h k)
/-- Behind so many rounds the best routes with so many nodes are noted. -/
theorem rnds_best (hL : NetOk n L) (ha : 0 ≤ a ∧ a < n) (h : Ntd n L a S) (h0 : sat S a = some (0, [a])) : ∀ (k : Nat) (x c : Int) (r : List Int), 0 ≤ x → BestW L a x c r → r.length ≤ k + 1 → sat (rnds L k S) x = some (c, r) := by
  intro k
  induction k with
  | zero =>
    intro x c r hx hb hl
    rcases best_cases hL hb with ⟨rfl, rfl, rfl⟩ | ⟨z, c0, r0, hz, rfl, rfl, rfl, hn, hf⟩
    · exact h0
    · have h1 := hf.1.len
      have h2 : (r0 ++ [z.t]).length = r0.length + 1 := by simp
      omega
  | succ k ih =>
    intro x c r hx hb hl
    have hN := rnds_ntd hL h k
    rcases best_cases hL hb with ⟨rfl, rfl, rfl⟩ | ⟨z, c0, r0, hz, rfl, rfl, rfl, hn, hf⟩
    · exact fold_keeps hL hx hb L _ (fun _ hz => hz) hN (ih _ _ _ hx hb (by simp))
    · have hm := hL z hz
      simp at hl
      exact fold_hands hL hf hn hb L _ (fun _ hz => hz) hz hN (ih z.f c0 r0 (by omega) hf (by omega))
theorem st0_len (n a : Int) : (st0 n a).length = n.toNat := by simp [st0]
theorem st0_sat (ha : 0 ≤ a ∧ a < n) (x : Int) (hx : 0 ≤ x) : sat (st0 n a) x = if x = a then some (0, [a]) else none := by
  unfold st0
  rw [sat_set _ x (by simp; omega) hx]
  by_cases e : x = a
  · rw [if_pos e, if_pos e]
  · rw [if_neg e, if_neg e]
    unfold sat
    simp only [List.getD_eq_getElem?_getD, List.getElem?_replicate]
    split <;> rfl
theorem st0_ntd (ha : 0 ≤ a ∧ a < n) : Ntd n L a (st0 n a) := by
  refine ⟨by rw [st0_len]; omega, fun x c r h0 _ h => ?_⟩
  rw [st0_sat ha x h0] at h
  by_cases e : x = a
  · rw [if_pos e] at h
    injection h with h
    injection h with h1 h2
    subst h1
    subst h2
    subst e
    exact .one
  · rw [if_neg e] at h; cases h
/-- All best routes of a network from a node. -/
structure AllW (n : Int) (L : List Lk) (a : Int) (S : List (Option (Int × List Int))) : Prop where
  len : (S.length : Int) = n
  best : ∀ x c r, 0 ≤ x → x < n → sat S x = some (c, r) → BestW L a x c r
  none : ∀ x, 0 ≤ x → x < n → sat S x = Option.none → ∀ c r, ¬ Wy L a x c r
theorem rnds_all (hL : NetOk n L) (ha : 0 ≤ a ∧ a < n) (hn : n ≤ 16) : AllW n L a (rnds L n.toNat (st0 n a)) := by
  have h := st0_ntd (L := L) ha
  have hN := rnds_ntd hL h n.toNat
  have h0 : sat (st0 n a) a = some (0, [a]) := by rw [st0_sat ha a ha.1, if_pos rfl]
  have hall : ∀ x c r, 0 ≤ x → BestW L a x c r → sat (rnds L n.toNat (st0 n a)) x = some (c, r) := fun x c r hx hb => rnds_best hL ha h h0 n.toNat x c r hx hb (by have := hb.1.short hL ha; omega)
  refine ⟨hN.len, fun x c r hx hxn hs => ?_, fun x hx hxn hs c r hw => ?_⟩
  · obtain ⟨c', r', hb⟩ := best_exists hL ha hn _ c r rfl (hN.way x c r hx hxn hs)
    have := hall x c' r' hx hb
    rw [hs] at this
    injection this with this
    injection this with e1 e2
    subst e1
    subst e2
    exact hb
  · obtain ⟨c', r', hb⟩ := best_exists hL ha hn _ c r rfl hw
    have := hall x c' r' hx hb
    rw [hs] at this
    cases this
/-- They are what they are. -/
theorem all_unique {S' : List (Option (Int × List Int))} (h : AllW n L a S) (k : AllW n L a S') : S = S' := by
  apply List.ext_getElem?
  intro i
  by_cases hi : (i : Int) < n
  · have hi1 : i < S.length := by have := h.len; omega
    have hi2 : i < S'.length := by have := k.len; omega
    have e1 : S[i]? = some (sat S (i : Int)) := by simp [sat, List.getD_eq_getElem?_getD, hi1]
    have e2 : S'[i]? = some (sat S' (i : Int)) := by simp [sat, List.getD_eq_getElem?_getD, hi2]
    rw [e1, e2]
    congr 1
    cases h1 : sat S (i : Int) with
    | none =>
      cases h2 : sat S' (i : Int) with
      | none => rfl
      | some q => exact absurd (k.best i q.1 q.2 (by omega) hi h2).1 (h.none i (by omega) hi h1 _ _)
    | some p =>
      cases h2 : sat S' (i : Int) with
      | none => exact absurd (h.best i p.1 p.2 (by omega) hi h1).1 (k.none i (by omega) hi h2 _ _)
      | some q =>
        have := best_unique (h.best i p.1 p.2 (by omega) hi h1) (k.best i q.1 q.2 (by omega) hi h2)
        congr 1
        exact Prod.ext this.1 this.2
  · rw [List.getElem?_eq_none (by have := h.len; omega), List.getElem?_eq_none (by have := k.len; omega)]
end
end Go.Proofs.YtjflbfianncpfaaGreat
