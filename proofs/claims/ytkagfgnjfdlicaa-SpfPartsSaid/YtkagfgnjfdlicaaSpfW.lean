/-
  The document's routes (viaductref11): ways as they lie in memory. No condition.
-/
import Derived.Test.YtkagfgnjfdlicaaSpfF
namespace Go.Proofs.Ytkagfgnjfdlicaa
set_option maxRecDepth 100000
open Go.RowKit

/-- A way's cells. -/
structure Wc where
  a : Option Addr
  n : Nat
  c : Nat
  cost : Int
def wenc (x : Wc) : List Value := [.slice x.a x.n x.c, .int .i64 x.cost]
theorem wenc_length (x : Wc) : (wenc x).length = 2 := rfl
theorem wenc_one (x : Wc) : ∀ u ∈ wenc x, u.oneCell' = true := by intro u hu; simp [wenc] at hu; rcases hu with rfl | rfl <;> rfl
theorem infoWay3 : (Try.prog.info? 37).map (fun i => (i.zero, i.size, i.bytes)) = some (some (.agg #[.slice none 0 0, .int .i64 0]), 2, 32) := by kernel_rfl
/-- What a way tells. -/
def WayOk (W : World) (B g : Nat) (x : Wc) : Option (Int × List Int) → Prop
  | none => x.n = 0 ∧ x.cost = -1
  | some (c, r) => x.cost = c ∧ 0 ≤ c ∧ x.n = r.length ∧ Row ei W W.heap.size x.a x.n r ∧ ∀ b o, x.a = some ⟨b, o, none⟩ → b ≠ g ∧ B ≤ b
/-- Ways in a block, and what they tell. -/
structure Wys (w W : World) (g c : Nat) (S : List (Option (Int × List Int))) (xs : List Wc) : Prop where
  row : AccR wenc 2 W w.heap.size 37 (some ⟨g, 0, none⟩) c xs
  len : xs.length = S.length
  ok : ∀ (i : Nat) (x : Wc) (p : Option (Int × List Int)), xs[i]? = some x → S[i]? = some p → WayOk W w.heap.size g x p
  bel : Below w.heap.size w W
section
variable {w W W' : World} {g c : Nat} {S : List (Option (Int × List Int))} {xs : List Wc}
theorem WayOk.below {B : Nat} {x : Wc} {p : Option (Int × List Int)} (h : WayOk W B g x p) (hb : Below W.heap.size W W') : WayOk W' B g x p := by
  cases p with
  | none => exact h
  | some q => exact ⟨h.1, h.2.1, h.2.2.1, (h.2.2.2.1.below hb).more hb.size, h.2.2.2.2⟩
theorem Wys.below (h : Wys w W g c S xs) (hb : Below W.heap.size W W') : Wys w W' g c S xs :=
  ⟨h.row.bel hb, h.len, fun i x p h1 h2 => (h.ok i x p h1 h2).below hb, h.bel.trans (hb.mono h.bel.size)⟩
theorem Wys.lt (h : Wys w W g c S xs) : w.heap.size ≤ g ∧ g < W.heap.size := AccR.ge h.row rfl
theorem Wys.range (h : Wys w W g c S xs) {i : Nat} {x : Wc} (hi : xs[i]? = some x) : W.rangeAt g (i * 2) (wenc x) := by
  have hlt : i < xs.length := (List.getElem?_eq_some_iff.1 hi).1
  intro j v hv
  have hj : j < 2 := by have := (List.getElem?_eq_some_iff.1 hv).1; simpa [wenc] using this
  have h1 := World.ownsRow.cellAt h.row (i * 2 + j) (by omega)
  have h2 := flat_get wenc_length xs i hlt j hj
  have h3 : xs[i] = x := by rw [List.getElem?_eq_getElem hlt] at hi; injection hi
  rw [h3] at h2
  rw [h1, h2]; exact hv
theorem Wys.free (h : Wys w W g c S xs) (j : Nat) : W.frozen? ⟨g, j, none⟩ = false := World.ownsRow.frozenAt h.row j
theorem flat_set2 (a : Value) (b : Value) (y : Wc) (hy : wenc y = [a, b]) : ∀ (L : List Wc) (i : Nat), ((L.flatMap wenc).set (i * 2) a).set (i * 2 + 1) b = (L.set i y).flatMap wenc
  | [], i => by simp
  | x :: L, 0 => by simp [hy]; simp [wenc]
  | x :: L, i + 1 => by
    have e : (i + 1) * 2 = i * 2 + 2 := by omega
    rw [e, List.set_cons_succ, List.flatMap_cons, List.flatMap_cons, ← flat_set2 a b y hy L i]
    simp [wenc]
/-- A way is laid over another one. -/
theorem Wys.store (h : Wys w W g c S xs) {i : Nat} (y : Wc) (q : Option (Int × List Int)) (hq : WayOk W w.heap.size g y q) :
    Wys w ((W.setCell ⟨g, i * 2, none⟩ (.slice y.a y.n y.c)).setCell ⟨g, i * 2 + 1, none⟩ (.int .i64 y.cost)) g c (S.set i q) (xs.set i y) := by
  have s1 := World.ownsRow.stored h.row (i * 2) (.slice y.a y.n y.c)
  have s2 := World.ownsRow.stored s1.1 (i * 2 + 1) (.int .i64 y.cost)
  have hg := s1.2.trans s2.2
  have t := s2.1
  rw [flat_set2 _ _ y rfl] at t
  have hgb : Below w.heap.size w ((W.setCell ⟨g, i * 2, none⟩ (.slice y.a y.n y.c)).setCell ⟨g, i * 2 + 1, none⟩ (.int .i64 y.cost)) := h.bel.grown hg h.bel.size (fun k hk => by injection hk with hk; have := h.lt; omega)
  have keep : ∀ (x : Wc) (p : Option (Int × List Int)), WayOk W w.heap.size g x p → WayOk ((W.setCell ⟨g, i * 2, none⟩ (.slice y.a y.n y.c)).setCell ⟨g, i * 2 + 1, none⟩ (.int .i64 y.cost)) w.heap.size g x p := by
    intro x p hp
    cases p with
    | none => exact hp
    | some q =>
      refine ⟨hp.1, hp.2.1, hp.2.2.1, ?_, hp.2.2.2.2⟩
      have hr := hp.2.2.2.1
      refine ⟨hr.1, fun hn => ?_⟩
      obtain ⟨b, o, e, hb, hc⟩ := hr.2 hn
      have hne := (hp.2.2.2.2 b o e).1
      exact ⟨b, o, e, Nat.lt_of_lt_of_le hb hg.size, fun k hk => (World.cell?_of_block (w := W) (hg.block b hb (by simp; exact hne))).trans (hc k hk)⟩
  refine ⟨?_, by rw [List.length_set, List.length_set]; exact h.len, fun k x p hx hp => ?_, hgb⟩
  · unfold AccR
    rw [List.length_set]
    exact t
  · rw [List.getElem?_set] at hx hp
    by_cases hk : i = k
    · subst hk
      have hlen := h.len
      by_cases hl : i < xs.length
      · rw [if_pos rfl, if_pos hl] at hx
        rw [if_pos rfl, if_pos (by omega)] at hp
        injection hx with hx
        injection hp with hp
        subst hx
        subst hp
        exact keep y q hq
      · rw [if_pos rfl, if_neg hl] at hx; cases hx
    · rw [if_neg hk] at hx hp
      exact keep x p (h.ok k x p hx hp)
/-- A block of another type is another block. -/
theorem accr_ne {α : Type} {enc : α → List Value} {k base q : Nat} {T T' : TypeId} {A : Option Addr} {cc : Nat} {l : List α} {vs : List Value} (h : AccR enc k W base T A cc l) (hb : Blk W q T' vs) (hne : T ≠ T') : ∀ x, blk A = some x → x ≠ q := by
  intro x hx e
  subst e
  rcases h.2 with ⟨hv, _⟩ | ⟨g', cap, cur, hv, _, hh, _⟩
  · injection hv with e1 _ _
    subst e1
    simp [blk] at hx
  · injection hv with e1 _ _
    subst e1
    simp [blk] at hx
    subst hx
    unfold Blk at hb
    rw [hb] at hh
    injection hh with hh
    injection hh with _ hh _
    exact hne hh.symm
end
end Go.Proofs.Ytkagfgnjfdlicaa
