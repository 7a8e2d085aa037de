/-
  What the code of layer 17 (cspf) must keep (FindOk17), and the laws' find under it. Condition: FindOk17; numbers as large as their types allow; fewer than 2^30 elements in each list.
-/
import Derived.Test.YtjflbfianncpfaaGreatCspM
import Derived.Test.YtjflbfianncpfaaGreatPruU
import Derived.Test.YtjflbfianncpfaaGreatGraphAC
namespace Go.Proofs.YtjflbfianncpfaaGreat
set_option maxRecDepth 100000
set_option linter.unusedVariables false
open Go.RowKit

/-- May a route be asked for? -/
def ok17 (n : Int) (l : List Ad) (a : Ak) (H f t : Int) : Prop := chk n (l.map (·.k)) = 0 ∧ (0 ≤ f ∧ f < n) ∧ (0 ≤ t ∧ t < n) ∧ f ≠ t ∧ wRight a.w = true ∧ 0 ≤ H
/-- What is found, in memory of its own. -/
def Fnd17 (n : Int) (l : List Ad) (a : Ak) (H f t : Int) (w : World) (e : Ending) (w' : World) : Prop :=
  ∃ (A : Option Addr) (c : Nat) (r : List Int) (co er : Int), e = .returned (.tuple #[.slice A r.length c, .int .i64 co, .int .i64 er]) ∧ AccI w' w.heap.size A c r ∧ Below w.heap.size w w' ∧ Csp17 (ok17 n l a H f t) (lks16 l a) H f t r co er
/-- What the code must keep. -/
def FindOk17 : Prop := ∀ (n f t : Int) (b : Option Addr) (m c : Nat) (l : List Ad) (a : Ak) (p : Pl) (w : World), (∀ x ∈ l, AdOk x) → AkOk a → AkIn w w.heap.size a p → Row adc w w.heap.size b m l → m ≤ 1073741824 → I15 n → I15 f → I15 t → I15 p.h →
  Calls Tryz.prog 11 #[.int .i64 n, .slice b m c, .agg (akc a.w p).toArray, .int .i64 f, .int .i64 t] w (Fnd17 n l a p.h f t w)
/-- The cells of a case. -/
def csc (n : Int) (b : Option Addr) (m c : Nat) (f t : Int) : List Value := [.int .i64 n, .slice b m c, .int .i64 f, .int .i64 t]
theorem csc_one (n : Int) (b : Option Addr) (m c : Nat) (f t : Int) : ∀ u ∈ csc n b m c f t, u.oneCell' = true := by
  intro u hu
  simp only [csc, List.mem_cons, List.not_mem_nil, or_false] at hu
  rcases hu with rfl | rfl | rfl | rfl <;> rfl
theorem chk17 {n : Int} {L : List Lk} (h : chk n L = 0) : 1 ≤ n ∧ n ≤ 16 ∧ NetOk n L := by
  unfold chk at h
  split at h
  · split at h
    · omega
    · split at h
      · rename_i h1 h2 h3
        refine ⟨h1.1, h1.2, fun z hz => ?_⟩
        simp only [netB, Bool.and_eq_true, List.all_eq_true] at h3
        have := h3.1 z hz
        simp only [vld, gwn, Bool.and_eq_true, decide_eq_true_eq] at this
        omega
      · omega
  · omega
theorem lks_sub {l : List Ad} {a : Ak} {z : Lk} (h : z ∈ lks16 l a) : ∃ x ∈ l, fit16 a x = true ∧ x.k = z := by
  unfold lks16 at h
  obtain ⟨x, hx, rfl⟩ := List.mem_map.1 h
  obtain ⟨h1, h2⟩ := List.mem_filter.1 hx
  exact ⟨x, h1, h2, rfl⟩
theorem ok17_net {n H f t : Int} {l : List Ad} {a : Ak} (h : ok17 n l a H f t) : NetOk n (lks16 l a) ∧ n ≤ 16 := by
  have hc := chk17 h.1
  refine ⟨fun z hz => ?_, hc.2.1⟩
  obtain ⟨x, hx, _, rfl⟩ := lks_sub hz
  exact hc.2.2 _ (List.mem_map.2 ⟨x, hx, rfl⟩)
/-- What is found has two nodes at least, and sixteen at most. -/
theorem ok17_len {n H f t c : Int} {l : List Ad} {a : Ak} {r : List Int} (h : ok17 n l a H f t) (hw : Wy (lks16 l a) f t c r) : 2 ≤ r.length ∧ r.length ≤ 16 := by
  have hn := ok17_net h
  refine ⟨?_, by have := hw.short hn.1 h.2.1; have := hn.2; omega⟩
  cases hw with
  | one => exact absurd rfl h.2.2.2.1
  | ext z hw hz hf hnt =>
    have := hw.len
    simp only [List.length_append, List.length_singleton]
    omega
theorem ok17_hops {n H H' f t : Int} {l : List Ad} {a : Ak} (h : ok17 n l a H f t) (hh : 0 ≤ H') : ok17 n l a H' f t := ⟨h.1, h.2.1, h.2.2.1, h.2.2.2.1, h.2.2.2.2.1, hh⟩
theorem csp17_ok {ok : Prop} {L : List Lk} {H f t : Int} {r : List Int} {c : Int} (h : Csp17 ok L H f t r c 0) : ok ∧ Best17 L H f t c r := by
  by_cases hk : ok
  · rcases h.good hk with ⟨_, h2⟩ | ⟨h1, _⟩
    · exact ⟨hk, h2⟩
    · cases h1
  · have := (h.bad hk).2.2
    cases this
/-- The laws' first question. -/
def al17 : List Ad := [⟨⟨0, 1, 0, 1, 0⟩, 0, true, [0, 0, 0, 0, 0, 0, 0, 0]⟩, ⟨⟨1, 2, 0, 1, 0⟩, 0, true, [0, 0, 0, 0, 0, 0, 0, 0]⟩, ⟨⟨2, 3, 0, 1, 0⟩, 0, true, [0, 0, 0, 0, 0, 0, 0, 0]⟩, ⟨⟨0, 3, 0, 5, 0⟩, 0, true, [0, 0, 0, 0, 0, 0, 0, 0]⟩]
def ll17 : List Lk := [⟨0, 1, 0, 1, 0⟩, ⟨1, 2, 0, 1, 0⟩, ⟨2, 3, 0, 1, 0⟩, ⟨0, 3, 0, 5, 0⟩]
def ak17 : Ak := ⟨w016, [], [], []⟩
theorem al17_ok : ∀ x ∈ al17, AdOk x := by
  intro x hx
  simp only [al17, List.mem_cons, List.not_mem_nil, or_false] at hx
  rcases hx with rfl | rfl | rfl | rfl <;> exact ⟨rfl, by decide, by decide, by decide, by decide, by decide⟩
theorem al17_lks : lks16 al17 ak17 = ll17 := by decide
theorem ll17_net : NetOk 4 ll17 := by
  intro z hz
  simp only [ll17, List.mem_cons, List.not_mem_nil, or_false] at hz
  rcases hz with rfl | rfl | rfl | rfl <;> decide
theorem al17_yes (H : Int) (hH : 0 ≤ H) : ok17 4 al17 ak17 H 0 3 := ⟨by decide, by decide, by decide, by decide, by decide, hH⟩
theorem al17_one {r : List Int} {c e : Int} (h : Csp17 (ok17 4 al17 ak17 0 0 3) (lks16 al17 ak17) 0 0 3 r c e) : r = [0, 1, 2, 3] ∧ c = 3 ∧ e = 0 := by
  have hb : Best17 (lks16 al17 ak17) 0 0 3 3 [0, 1, 2, 3] := by
    rw [al17_lks]
    exact (best17_k ll17_net (by decide) (by decide)).2 ((grws_all ll17_net (by decide) (by decide) (hop17 4 0)).best 3 3 [0, 1, 2, 3] (by decide) (by decide) (by decide))
  exact csp17_unique h ⟨fun hn => absurd (al17_yes 0 (by decide)) hn, fun _ => .inl ⟨rfl, hb⟩⟩
theorem al17_two {r : List Int} {c e : Int} (h : Csp17 (ok17 4 al17 ak17 2 0 3) (lks16 al17 ak17) 2 0 3 r c e) : r = [0, 3] ∧ c = 5 ∧ e = 0 := by
  have hb : Best17 (lks16 al17 ak17) 2 0 3 5 [0, 3] := by
    rw [al17_lks]
    exact (best17_k ll17_net (by decide) (by decide)).2 ((grws_all ll17_net (by decide) (by decide) (hop17 4 2)).best 3 5 [0, 3] (by decide) (by decide) (by decide))
  exact csp17_unique h ⟨fun hn => absurd (al17_yes 2 (by decide)) hn, fun _ => .inl ⟨rfl, hb⟩⟩
end Go.Proofs.YtjflbfianncpfaaGreat
