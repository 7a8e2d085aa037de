/-
  The document's routes (viaductref11): Better. Condition: the lists read as whole numbers, at most 2^40 of them.
  The document's routes (viaductref11): further. Condition: the list reads as whole numbers, at most 2^30 of them; costs of at most 2^40.
  The document's routes (viaductref11): ways as they lie in memory. No condition.
  The document's routes (viaductref11): All. Condition: the links read as links, at most 2^30 of them.
  The document's routes (viaductref11): Best. Condition: the links read as links, at most 2^30 of them.
-/
import Derived.Test.YtjflbfianncpfaaGreatSpfMO
import Derived.Test.YtjflbfianncpfaaGreatGraphDL
import Derived.Deep.CutBlock
namespace Go.Proofs.YtjflbfianncpfaaGreat
set_option maxRecDepth 100000
open Go.RowKit

theorem lxl_at : ∀ (i : Nat) {r s : List Int} {x y : Int}, r.take i = s.take i → r[i]? = some x → s[i]? = some y → x ≠ y → (lxl r s ↔ x < y)
  | 0, [], _, _, _, _, h, _, _ => by simp at h
  | 0, _ :: _, [], _, _, _, _, h, _ => by simp at h
  | 0, u :: r, v :: s, x, y, _, h1, h2, hne => by
    simp at h1 h2
    subst h1
    subst h2
    unfold lxl
    constructor
    · rintro (h | ⟨h, _⟩)
      · exact h
      · exact absurd h hne
    · exact fun h => .inl h
  | i + 1, [], _, _, _, _, h, _, _ => by simp at h
  | i + 1, _ :: _, [], _, _, _, _, h, _ => by simp at h
  | i + 1, u :: r, v :: s, x, y, ht, h1, h2, hne => by
    simp at ht h1 h2
    obtain ⟨rfl, ht⟩ := ht
    have ih := lxl_at i ht h1 h2 hne
    unfold lxl
    rw [ih]
    constructor
    · rintro (h | ⟨_, h⟩)
      · omega
      · exact h
    · exact fun h => .inr ⟨rfl, h⟩

def BetPost (p q : Int × List Int) (w : World) (e : Ending) (w' : World) : Prop := e = .returned (.bool (decide (bet p q))) ∧ ∃ k, w' = w.drewN k
end Go.Proofs.YtjflbfianncpfaaGreat

namespace Go.Proofs.YtjflbfianncpfaaGreat
set_option maxRecDepth 100000
open Go.RowKit

theorem put2 {w : World} {q : Nat} {T : TypeId} {u0 u1 : Value} (h : Blk w q T [u0, u1]) (v0 v1 : Value) : Blk ((w.setCell ⟨q, 0, none⟩ v0).setCell ⟨q, 1, none⟩ v1) q T [v0, v1] ∧ w.grownBy ((w.setCell ⟨q, 0, none⟩ v0).setCell ⟨q, 1, none⟩ v1) (some q) := by
  have g : ∀ (w : World) (i : Nat) (v : Value), w.grownBy (w.setCell ⟨q, i, none⟩ v) (some q) := fun w i v => ⟨rfl, rfl, rfl, by simp, fun k _ hk => heap_setCell_other w ⟨q, i, none⟩ k _ (fun e => hk (by simp [e]))⟩
  exact ⟨(h.set 0 v0).set 1 v1, (g _ _ _).trans (g _ _ _)⟩
/-- A way with a node behind it. -/
def FurPost (w : World) (r : List Int) (c t m : Int) (e : Ending) (w' : World) : Prop :=
  Below w.heap.size w w' ∧ ∃ A c', e = .returned (.agg #[.slice A (r.length + 1) c', .int .i64 (c + m)]) ∧ AccI w' w.heap.size A c' (r ++ [t])
end Go.Proofs.YtjflbfianncpfaaGreat

namespace Go.Proofs.YtjflbfianncpfaaGreat
set_option maxRecDepth 100000
open Go.RowKit

/-- A way's cells. -/
structure Wc where
  a : Option Addr
  n : Nat
  c : Nat
  cost : Int
def wenc (x : Wc) : List Value := [.slice x.a x.n x.c, .int .i64 x.cost]
theorem wenc_length (x : Wc) : (wenc x).length = 2 := rfl
theorem wenc_one (x : Wc) : ∀ u ∈ wenc x, u.oneCell' = true := by intro u hu; simp [wenc] at hu; rcases hu with rfl | rfl <;> rfl
/-- What a way tells. -/
def WayOk (W : World) (B g : Nat) (x : Wc) : Option (Int × List Int) → Prop
  | none => x.n = 0 ∧ x.cost = -1
  | some (c, r) => x.cost = c ∧ 0 ≤ c ∧ x.n = r.length ∧ Row ei W W.heap.size x.a x.n r ∧ ∀ b o, x.a = some ⟨b, o, none⟩ → b ≠ g ∧ B ≤ b
section
variable {w W W' : World} {g c : Nat} {S : List (Option (Int × List Int))} {xs : List Wc}
theorem WayOk.below {B : Nat} {x : Wc} {p : Option (Int × List Int)} (h : WayOk W B g x p) (hb : Below W.heap.size W W') : WayOk W' B g x p := by
  cases p with
  | none => exact h
  | some q => exact ⟨h.1, h.2.1, h.2.2.1, (h.2.2.2.1.below hb).more hb.size, h.2.2.2.2⟩
theorem flat_set2 (a : Value) (b : Value) (y : Wc) (hy : wenc y = [a, b]) : ∀ (L : List Wc) (i : Nat), ((L.flatMap wenc).set (i * 2) a).set (i * 2 + 1) b = (L.set i y).flatMap wenc
  | [], i => by simp
  | x :: L, 0 => by simp [hy]; simp [wenc]
  | x :: L, i + 1 => by
    have e : (i + 1) * 2 = i * 2 + 2 := by omega
    rw [e, List.set_cons_succ, List.flatMap_cons, List.flatMap_cons, ← flat_set2 a b y hy L i]
    simp [wenc]
/-- A block of another type is another block. -/
theorem accr_ne {α : Type} {enc : α → List Value} {k base q : Nat} {T T' : TypeId} {A : Option Addr} {cc : Nat} {l : List α} {vs : List Value} (h : AccR enc k W base T A cc l) (hb : Blk W q T' vs) (hne : T ≠ T') : ∀ x, blk A = some x → x ≠ q := by
  intro x hx e
  subst e
  rcases h.2 with ⟨hv, _⟩ | ⟨g', cap, cur, hv, _, hh, _⟩
  · injection hv with e1 _ _
    subst e1
    simp [blk] at hx
  · injection hv with e1 _ _
    subst e1
    simp [blk] at hx
    subst hx
    unfold Blk at hb
    rw [hb] at hh
    injection hh with hh
    injection hh with _ hh _
    exact hne hh.symm
end
end Go.Proofs.YtjflbfianncpfaaGreat

namespace Go.Proofs.YtjflbfianncpfaaGreat
set_option maxRecDepth 100000
open Go.RowKit

theorem net_of_chk {n : Int} {L : List Lk} (h : chk n L = 0) : 1 ≤ n ∧ n ≤ 16 ∧ L.length ≤ 64 ∧ NetOk n L := by
  unfold chk at h
  split at h
  · split at h
    · omega
    · split at h
      · rename_i h1 h2 h3
        refine ⟨h1.1, h1.2, by omega, fun z hz => ?_⟩
        simp only [netB, Bool.and_eq_true, List.all_eq_true] at h3
        have := h3.1 z hz
        simp only [vld, gwn, Bool.and_eq_true, decide_eq_true_eq] at this
        omega
      · omega
  · omega
/-- An operation behind a guard that does not hold is not carried out. -/
theorem seq_unmakeS {P : Program} {ops : Array Oper} {Q : Exit → Act → World → Prop} {S : World → Prop} {i : Nat} {r : List (Nat × Bool)} {a : Act} {w : World} {o : Oper} (ho : ops.toList[i]? = some o) (hw : Region.wanted o (yielded ops a.tmps) = false) (hS : S w)
    (h : wpSeq P ops Q S r (a.put o.dst undef) w) : wpSeq P ops Q S ((i, false) :: r) a w := by
  refine wpOp_step (o := o) (by rw [← Array.getElem?_toList]; exact ho) (fun K hK => ?_)
  rw [if_neg (by rw [hw]; exact Bool.false_ne_true)]
  exact hK _ _ ⟨S, fun _ h => h, hS, h⟩
theorem fold_take {L : List Lk} {u : Nat} (hu : u < L.length) (S : List (Option (Int × List Int))) : (L.take (u + 1)).foldl rlx S = rlx ((L.take u).foldl rlx S) L[u] := by
  rw [List.take_succ_eq_append_getElem hu, List.foldl_append]; rfl
theorem rlx_none {S : List (Option (Int × List Int))} {z : Lk} (h : sat S z.f = none) : rlx S z = S := by unfold rlx; rw [h]
theorem rlx_in {S : List (Option (Int × List Int))} {z : Lk} {c : Int} {r : List Int} (h : sat S z.f = some (c, r)) (ht : z.t ∈ r) : rlx S z = S := by unfold rlx; rw [h]; simp [ht]
theorem rlx_set {S : List (Option (Int × List Int))} {z : Lk} {c : Int} {r : List Int} (h : sat S z.f = some (c, r)) (ht : z.t ∉ r) (hb : ∀ q, sat S z.t = some q → bet (c + z.m, r ++ [z.t]) q) : rlx S z = S.set z.t.toNat (some (c + z.m, r ++ [z.t])) := by
  unfold rlx
  rw [h]
  simp only [ht, if_false]
  cases h2 : sat S z.t with
  | none => rfl
  | some q => simp only [hb q h2, if_true]
theorem rlx_not {S : List (Option (Int × List Int))} {z : Lk} {c : Int} {r : List Int} {q : Int × List Int} (h : sat S z.f = some (c, r)) (ht : z.t ∉ r) (h2 : sat S z.t = some q) (hb : ¬ bet (c + z.m, r ++ [z.t]) q) : rlx S z = S := by
  unfold rlx
  rw [h]
  simp only [ht, if_false]
  rw [h2]
  simp [hb]
theorem sat_get {S : List (Option (Int × List Int))} {i : Nat} (h : i < S.length) : S[i]? = some (sat S (i : Int)) := by
  simp [sat, List.getD_eq_getElem?_getD, h]
end Go.Proofs.YtjflbfianncpfaaGreat

namespace Go.Proofs.YtjflbfianncpfaaGreat
set_option maxRecDepth 100000
open Go.RowKit

/-- What the document's Best answers. -/
def RBestPost (w : World) (n : Int) (L : List Lk) (a b : Int) (e : Ending) (w' : World) : Prop :=
  Below w.heap.size w w' ∧ ((¬ (chk n L = 0 ∧ 0 ≤ a ∧ a < n ∧ 0 ≤ b ∧ b < n ∧ b ≠ a) ∧ e = .returned (.tuple #[.agg #[.slice none 0 0, .int .i64 0], .int .i64 2])) ∨
    (chk n L = 0 ∧ 0 ≤ a ∧ a < n ∧ 0 ≤ b ∧ b < n ∧ b ≠ a ∧ (∀ c r, ¬ Wy L a b c r) ∧ e = .returned (.tuple #[.agg #[.slice none 0 0, .int .i64 0], .int .i64 8])) ∨
    (chk n L = 0 ∧ 0 ≤ a ∧ a < n ∧ 0 ≤ b ∧ b < n ∧ b ≠ a ∧ ∃ A c' c r, BestW L a b c r ∧ e = .returned (.tuple #[.agg #[.slice A r.length c', .int .i64 c], .int .i64 0]) ∧ Row ei w' w'.heap.size A r.length r))

end Go.Proofs.YtjflbfianncpfaaGreat
