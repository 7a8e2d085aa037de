/-
  A region of operations whose order is drawn may be walked in ONE order of the prover's choice, if each operation either yields the same value in every world that meets a condition S, or is the only one that can come up when it does. S may grow behind such an operation. No condition: laws over any program.
-/
import Derived.Test.YtmffmoflelnmoaaRows
import Derived.OrdersHeld
import Derived.RegionTactic
import Derived.WalkKit
namespace Go.Proofs.Ytmffmoflelnmoaa

section
variable {P : Program} {ops : Array Oper} {Q : Exit → Act → World → Prop} {md : Region.Mode}

/-- What holds with more known of the world holds with less known. -/
theorem held_weaken {S S' : World → Prop} (hS : ∀ w, S' w → S w) : ∀ (fuel : Nat) (listed : Array Bool) (a : Act) (w : World), wpAnyH P md ops Q S' fuel listed a w → wpAnyH P md ops Q S fuel listed a w
  | 0, _, _, _, h => h
  | fuel + 1, _, _, _, h => ⟨h.1, fun i hi => wpOp_mono (fun a' w' h' => ⟨hS _ h'.1, held_weaken hS fuel _ a' w' h'.2⟩) (h.2 i hi)⟩

/-- An order in which the operations may be walked: 'true': the operation yields its value in every world that meets S; 'false': it is carried out, and nothing else can come up then. -/
def okOrd (md : Region.Mode) (ops : Array Oper) : List (Nat × Bool) → Array Bool → Bool
  | [], listed => Region.ready md ops listed == []
  | (i, true) :: r, listed => Region.free md ops listed i && ((Region.ready md ops listed).contains i && okOrd md ops r (listed.setIfInBounds i true))
  | (i, false) :: r, listed => Region.ready md ops listed == [i] && okOrd md ops r (listed.setIfInBounds i true)

def wpSeq (P : Program) (ops : Array Oper) (Q : Exit → Act → World → Prop) : (World → Prop) → List (Nat × Bool) → Act → World → Prop
  | _, [], a, w => Q .normal a w
  | S, (i, true) :: r, a, w => ∃ o v, ops[i]? = some o ∧ YieldsIf P ops S o v a ∧ wpSeq P ops Q S r (a.put o.dst v) w
  | S, (i, false) :: r, a, w => wpOp P ops Q i (fun a' w' => ∃ S' : World → Prop, (∀ x, S' x → S x) ∧ S' w' ∧ wpSeq P ops Q S' r a' w') a w

/-- What is asked behind a panic hangs on no slot. -/
def Calm (Q : Exit → Act → World → Prop) : Prop := ∀ c (t t' : Array Value) d w, Q (.panic c) { tmps := t, defers := d } w → Q (.panic c) { tmps := t', defers := d } w
theorem Calm.put (h : Calm Q) (c) (a : Act) (d : Option Tmp) (v : Value) (w : World) (hq : Q (.panic c) (a.put d v) w) : Q (.panic c) a w := by
  cases a; cases d <;> exact h _ _ _ _ _ hq

theorem held_of_seq (hs : Region.noSelect ops = true) (hQ : Calm Q) :
    ∀ (ord : List (Nat × Bool)) (S : World → Prop) (listed : Array Bool) (a : Act) (w : World) (fuel : Nat), ord.length ≤ fuel → okOrd md ops ord listed = true → S w → wpSeq P ops Q S ord a w → wpAnyH P md ops Q S fuel listed a w
  | [], S, listed, a, w, fuel, _, hB, _, h => wpAnyH_done (by simpa [okOrd] using hB) h fuel
  | (i, true) :: r, S, listed, a, w, 0, hf, _, _, _ => absurd hf (by simp)
  | (i, false) :: r, S, listed, a, w, 0, hf, _, _, _ => absurd hf (by simp)
  | (i, true) :: r, S, listed, a, w, fuel + 1, hf, hB, hS, h => by
    obtain ⟨o, v, ho, hy, hr⟩ := h
    simp only [okOrd, Bool.and_eq_true] at hB
    exact wpAnyH_take ho hs hB.1 hB.2.1 (fun c a w => hQ.put c a _ _ w) hy hS (held_of_seq hs hQ r S _ _ _ fuel (by simpa using hf) hB.2.2 hS hr)
  | (i, false) :: r, S, listed, a, w, fuel + 1, hf, hB, hS, h => by
    simp only [okOrd, Bool.and_eq_true, beq_iff_eq] at hB
    refine wpAnyH_all hB.1 (by simp) (fun j hj => ?_)
    obtain rfl : j = i := by simpa using hj
    refine wpOp_mono (fun a' w' h' => ?_) h
    obtain ⟨S', hSS, hS', hr⟩ := h'
    exact ⟨hSS _ hS', held_weaken hSS _ _ _ _ (held_of_seq hs hQ r S' _ a' w' fuel (by simpa using hf) hB.2 hS' hr)⟩

theorem region_seq {id : Nat} {a : Act} {w : World} (S : World → Prop) (ord : List (Nat × Bool)) (hm : P.follows .mixedOrders = true) (hs : Region.noSelect ops = true)
    (hl : decide (ord.length ≤ ops.size) = true) (hB : okOrd .any ops ord (Array.replicate ops.size false) = true) (hQ : Calm Q)
    (hS : S w.drew) (h : wpSeq P ops Q S ord a w.drew) : (Code.region id ops true).wp P Q a w :=
  wp_region_held hm (held_of_seq hs hQ ord S _ a _ ops.size (of_decide_eq_true hl) hB hS h)

variable {S : World → Prop} {i : Nat} {r : List (Nat × Bool)} {a : Act} {w : World} {o : Oper}

/-- An operation that yields. -/
theorem seq_pure {v : Value} (ho : ops.toList[i]? = some o) (hw : Region.wanted o (yielded ops a.tmps) = true) (hy : ∀ W, S W → (execOp a.eval o).run P W = .ok (.value v) W)
    (h : wpSeq P ops Q S r (a.put o.dst v) w) : wpSeq P ops Q S ((i, true) :: r) a w := ⟨o, v, by rw [← Array.getElem?_toList]; exact ho, .inl ⟨hw, hy⟩, h⟩
/-- An operation that its guard leaves out. -/
theorem seq_skip (ho : ops.toList[i]? = some o) (hw : Region.wanted o (yielded ops a.tmps) = false) (h : wpSeq P ops Q S r (a.put o.dst undef) w) : wpSeq P ops Q S ((i, true) :: r) a w :=
  ⟨o, undef, by rw [← Array.getElem?_toList]; exact ho, .inr ⟨hw, rfl⟩, h⟩
/-- What is known behind an operation that is carried out. -/
def Behind (P : Program) (ops : Array Oper) (Q : Exit → Act → World → Prop) (S : World → Prop) (r : List (Nat × Bool)) (K : Act → World → Prop) : Prop :=
  ∀ (a : Act) (w : World) (S' : World → Prop), (∀ x, S' x → S x) → S' w → wpSeq P ops Q S' r a w → K a w
/-- An operation that is carried out. -/
theorem seq_make (ho : ops.toList[i]? = some o) (hw : Region.wanted o (yielded ops a.tmps) = true) (h : ∀ K : Act → World → Prop, Behind P ops Q S r K → Oper.wp P o a w K Q) : wpSeq P ops Q S ((i, false) :: r) a w := by
  refine wpOp_step (o := o) (by rw [← Array.getElem?_toList]; exact ho) (fun K hK => ?_)
  rw [if_pos hw]
  exact h K (fun a w S' h1 h2 h3 => hK _ _ ⟨S', h1, h2, h3⟩)
theorem seq_done (h : Q .normal a w) : wpSeq P ops Q S [] a w := h
end

/-- An order that parts where either of two operations may come up. -/
inductive Way where
  | done : Way
  | step (i : Nat) (b : Bool) (r : Way) : Way
  | both (i j : Nat) (x y : Way) : Way
  | three (i j k : Nat) (x y z : Way) : Way

def Way.size : Way → Nat
  | .done => 0
  | .step _ _ r => r.size + 1
  | .both _ _ x y => max x.size y.size + 1
  | .three _ _ _ x y z => max x.size (max y.size z.size) + 1

/-- A row of operations, and what comes behind them. -/
def Way.row : List (Nat × Bool) → Way → Way
  | [], r => r
  | (i, b) :: l, r => .step i b (Way.row l r)

section
variable {P : Program} {ops : Array Oper} {Q : Exit → Act → World → Prop} {md : Region.Mode}

def okWay (md : Region.Mode) (ops : Array Oper) : Way → Array Bool → Bool
  | .done, listed => Region.ready md ops listed == []
  | .step i true r, listed => Region.free md ops listed i && ((Region.ready md ops listed).contains i && okWay md ops r (listed.setIfInBounds i true))
  | .step i false r, listed => Region.ready md ops listed == [i] && okWay md ops r (listed.setIfInBounds i true)
  | .both i j x y, listed => Region.ready md ops listed == [i, j] && (okWay md ops x (listed.setIfInBounds i true) && okWay md ops y (listed.setIfInBounds j true))
  | .three i j k x y z, listed => Region.ready md ops listed == [i, j, k] && (okWay md ops x (listed.setIfInBounds i true) && (okWay md ops y (listed.setIfInBounds j true) && okWay md ops z (listed.setIfInBounds k true)))

def wpWay (P : Program) (ops : Array Oper) (Q : Exit → Act → World → Prop) : (World → Prop) → Way → Act → World → Prop
  | _, .done, a, w => Q .normal a w
  | S, .step i true r, a, w => ∃ o v, ops[i]? = some o ∧ YieldsIf P ops S o v a ∧ wpWay P ops Q S r (a.put o.dst v) w
  | S, .step i false r, a, w => wpOp P ops Q i (fun a' w' => ∃ S' : World → Prop, (∀ x, S' x → S x) ∧ S' w' ∧ wpWay P ops Q S' r a' w') a w
  | S, .both i j x y, a, w => wpOp P ops Q i (fun a' w' => ∃ S' : World → Prop, (∀ x, S' x → S x) ∧ S' w' ∧ wpWay P ops Q S' x a' w') a w ∧ wpOp P ops Q j (fun a' w' => ∃ S' : World → Prop, (∀ x, S' x → S x) ∧ S' w' ∧ wpWay P ops Q S' y a' w') a w
  | S, .three i j k x y z, a, w => wpOp P ops Q i (fun a' w' => ∃ S' : World → Prop, (∀ x, S' x → S x) ∧ S' w' ∧ wpWay P ops Q S' x a' w') a w ∧ wpOp P ops Q j (fun a' w' => ∃ S' : World → Prop, (∀ x, S' x → S x) ∧ S' w' ∧ wpWay P ops Q S' y a' w') a w ∧ wpOp P ops Q k (fun a' w' => ∃ S' : World → Prop, (∀ x, S' x → S x) ∧ S' w' ∧ wpWay P ops Q S' z a' w') a w

theorem held_of_way (hs : Region.noSelect ops = true) (hQ : Calm Q) :
    ∀ (r : Way) (S : World → Prop) (listed : Array Bool) (a : Act) (w : World) (fuel : Nat), r.size ≤ fuel → okWay md ops r listed = true → S w → wpWay P ops Q S r a w → wpAnyH P md ops Q S fuel listed a w
  | .done, S, listed, a, w, fuel, _, hB, _, h => wpAnyH_done (by simpa [okWay] using hB) h fuel
  | .step i b r, S, listed, a, w, 0, hf, _, _, _ => absurd hf (by simp [Way.size])
  | .both i j x y, S, listed, a, w, 0, hf, _, _, _ => absurd hf (by simp [Way.size])
  | .three i j k x y z, S, listed, a, w, 0, hf, _, _, _ => absurd hf (by simp [Way.size])
  | .step i true r, S, listed, a, w, fuel + 1, hf, hB, hS, h => by
    obtain ⟨o, v, ho, hy, hr⟩ := h
    simp only [okWay, Bool.and_eq_true] at hB
    exact wpAnyH_take ho hs hB.1 hB.2.1 (fun c a w => hQ.put c a _ _ w) hy hS (held_of_way hs hQ r S _ _ _ fuel (by simpa [Way.size] using hf) hB.2.2 hS hr)
  | .step i false r, S, listed, a, w, fuel + 1, hf, hB, hS, h => by
    simp only [okWay, Bool.and_eq_true, beq_iff_eq] at hB
    refine wpAnyH_all hB.1 (by simp) (fun j hj => ?_)
    obtain rfl : j = i := by simpa using hj
    refine wpOp_mono (fun a' w' h' => ?_) h
    obtain ⟨S', hSS, hS', hr⟩ := h'
    exact ⟨hSS _ hS', held_weaken hSS _ _ _ _ (held_of_way hs hQ r S' _ a' w' fuel (by simpa [Way.size] using hf) hB.2 hS' hr)⟩
  | .both i j x y, S, listed, a, w, fuel + 1, hf, hB, hS, h => by
    simp only [okWay, Bool.and_eq_true, beq_iff_eq] at hB
    have hx : x.size ≤ fuel := by simp [Way.size] at hf; omega
    have hy : y.size ≤ fuel := by simp [Way.size] at hf; omega
    refine wpAnyH_all hB.1 (by simp) (fun k hk => ?_)
    rcases (by simpa using hk : k = i ∨ k = j) with rfl | rfl
    · refine wpOp_mono (fun a' w' h' => ?_) h.1
      obtain ⟨S', hSS, hS', hr⟩ := h'
      exact ⟨hSS _ hS', held_weaken hSS _ _ _ _ (held_of_way hs hQ x S' _ a' w' fuel hx hB.2.1 hS' hr)⟩
    · refine wpOp_mono (fun a' w' h' => ?_) h.2
      obtain ⟨S', hSS, hS', hr⟩ := h'
      exact ⟨hSS _ hS', held_weaken hSS _ _ _ _ (held_of_way hs hQ y S' _ a' w' fuel hy hB.2.2 hS' hr)⟩
  | .three i j k x y z, S, listed, a, w, fuel + 1, hf, hB, hS, h => by
    simp only [okWay, Bool.and_eq_true, beq_iff_eq] at hB
    have hx : x.size ≤ fuel := by simp [Way.size] at hf; omega
    have hy : y.size ≤ fuel := by simp [Way.size] at hf; omega
    have hz : z.size ≤ fuel := by simp [Way.size] at hf; omega
    refine wpAnyH_all hB.1 (by simp) (fun m hm => ?_)
    rcases (by simpa using hm : m = i ∨ m = j ∨ m = k) with rfl | rfl | rfl
    · refine wpOp_mono (fun a' w' h' => ?_) h.1
      obtain ⟨S', hSS, hS', hr⟩ := h'
      exact ⟨hSS _ hS', held_weaken hSS _ _ _ _ (held_of_way hs hQ x S' _ a' w' fuel hx hB.2.1 hS' hr)⟩
    · refine wpOp_mono (fun a' w' h' => ?_) h.2.1
      obtain ⟨S', hSS, hS', hr⟩ := h'
      exact ⟨hSS _ hS', held_weaken hSS _ _ _ _ (held_of_way hs hQ y S' _ a' w' fuel hy hB.2.2.1 hS' hr)⟩
    · refine wpOp_mono (fun a' w' h' => ?_) h.2.2
      obtain ⟨S', hSS, hS', hr⟩ := h'
      exact ⟨hSS _ hS', held_weaken hSS _ _ _ _ (held_of_way hs hQ z S' _ a' w' fuel hz hB.2.2.2 hS' hr)⟩

theorem region_way {id : Nat} {a : Act} {w : World} (S : World → Prop) (r : Way) (hm : P.follows .mixedOrders = true) (hs : Region.noSelect ops = true)
    (hl : decide (r.size ≤ ops.size) = true) (hB : okWay .any ops r (Array.replicate ops.size false) = true) (hQ : Calm Q)
    (hS : S w.drew) (h : wpWay P ops Q S r a w.drew) : (Code.region id ops true).wp P Q a w :=
  wp_region_held hm (held_of_way hs hQ r S _ a _ ops.size (of_decide_eq_true hl) hB hS h)

variable {S : World → Prop} {i : Nat} {r : Way} {a : Act} {w : World} {o : Oper}

theorem way_pure {v : Value} (ho : ops.toList[i]? = some o) (hw : Region.wanted o (yielded ops a.tmps) = true) (hy : ∀ W, S W → (execOp a.eval o).run P W = .ok (.value v) W)
    (h : wpWay P ops Q S r (a.put o.dst v) w) : wpWay P ops Q S (.step i true r) a w := ⟨o, v, by rw [← Array.getElem?_toList]; exact ho, .inl ⟨hw, hy⟩, h⟩
theorem way_skip (ho : ops.toList[i]? = some o) (hw : Region.wanted o (yielded ops a.tmps) = false) (h : wpWay P ops Q S r (a.put o.dst undef) w) : wpWay P ops Q S (.step i true r) a w :=
  ⟨o, undef, by rw [← Array.getElem?_toList]; exact ho, .inr ⟨hw, rfl⟩, h⟩
/-- What is known behind an operation that is carried out. -/
def Beyond (P : Program) (ops : Array Oper) (Q : Exit → Act → World → Prop) (S : World → Prop) (r : Way) (K : Act → World → Prop) : Prop :=
  ∀ (a : Act) (w : World) (S' : World → Prop), (∀ x, S' x → S x) → S' w → wpWay P ops Q S' r a w → K a w
theorem way_op (ho : ops.toList[i]? = some o) (hw : Region.wanted o (yielded ops a.tmps) = true) (h : ∀ K : Act → World → Prop, Beyond P ops Q S r K → Oper.wp P o a w K Q) :
    wpOp P ops Q i (fun a' w' => ∃ S' : World → Prop, (∀ x, S' x → S x) ∧ S' w' ∧ wpWay P ops Q S' r a' w') a w := by
  refine wpOp_step (o := o) (by rw [← Array.getElem?_toList]; exact ho) (fun K hK => ?_)
  rw [if_pos hw]
  exact h K (fun a w S' h1 h2 h3 => hK _ _ ⟨S', h1, h2, h3⟩)
theorem way_make (ho : ops.toList[i]? = some o) (hw : Region.wanted o (yielded ops a.tmps) = true) (h : ∀ K : Act → World → Prop, Beyond P ops Q S r K → Oper.wp P o a w K Q) : wpWay P ops Q S (.step i false r) a w :=
  way_op ho hw h
theorem way_both {j : Nat} {x y : Way} {o2 : Oper} (ho : ops.toList[i]? = some o) (hw : Region.wanted o (yielded ops a.tmps) = true) (ho2 : ops.toList[j]? = some o2) (hw2 : Region.wanted o2 (yielded ops a.tmps) = true)
    (h : ∀ K : Act → World → Prop, Beyond P ops Q S x K → Oper.wp P o a w K Q) (h2 : ∀ K : Act → World → Prop, Beyond P ops Q S y K → Oper.wp P o2 a w K Q) : wpWay P ops Q S (.both i j x y) a w :=
  ⟨way_op ho hw h, way_op ho2 hw2 h2⟩
theorem way_three {j k : Nat} {x y z : Way} {o2 o3 : Oper} (ho : ops.toList[i]? = some o) (hw : Region.wanted o (yielded ops a.tmps) = true) (ho2 : ops.toList[j]? = some o2) (hw2 : Region.wanted o2 (yielded ops a.tmps) = true) (ho3 : ops.toList[k]? = some o3) (hw3 : Region.wanted o3 (yielded ops a.tmps) = true)
    (h : ∀ K : Act → World → Prop, Beyond P ops Q S x K → Oper.wp P o a w K Q) (h2 : ∀ K : Act → World → Prop, Beyond P ops Q S y K → Oper.wp P o2 a w K Q) (h3 : ∀ K : Act → World → Prop, Beyond P ops Q S z K → Oper.wp P o3 a w K Q) : wpWay P ops Q S (.three i j k x y z) a w :=
  ⟨way_op ho hw h, way_op ho2 hw2 h2, way_op ho3 hw3 h3⟩
theorem way_done (h : Q .normal a w) : wpWay P ops Q S .done a w := h
end

/-- An append whose outcome is known, inside a region whose order is drawn. -/
theorem op_append {P : Program} {w w' : World} {o : Oper} {a : Act} {K : Act → World → Prop} {Q : Exit → Act → World → Prop} {s x : Operand} {t : TypeId} {u v v' : Value}
    (ho : o.op = .call { callee := .builtin .append, args := #[s, x], argTypes := #[t, t] }) (hs : a.eval s = u) (hx : a.eval x = v)
    (hrun : (Builtin.append_ #[t, t] o.type #[u, v]).run P w = .ok v' w') (h : K (a.put o.dst v') w') : o.wp P a w K Q := by
  unfold Oper.wp execOp
  simp only [ho, resolve, invoke, builtin, Sem.run_bind, Sem.run_pure, Result.andThen_ok, List.map_toArray, List.map_cons, List.map_nil, hs, hx, hrun]
  exact h
end Go.Proofs.Ytmffmoflelnmoaa
