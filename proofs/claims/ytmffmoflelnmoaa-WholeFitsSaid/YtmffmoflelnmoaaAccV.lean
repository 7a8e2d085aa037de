/-
  A slice of one-cell values that a call itself gathers by append: what it reads, and what an append of one value leaves. Condition of an append: at most 2^40 values of at most eight bytes.
-/
import Derived.Test.YtmffmoflelnmoaaAcc
namespace Go.Proofs.Ytmffmoflelnmoaa
open Go.RowKit

/-- The slice value '.slice A vs.length c' reads as the cells 'vs' (of type 'T', one a value), and lies at the head of a block from 'base' on that nothing else has a slice of (or is nil). -/
def AccV (w : World) (base : Nat) (T : TypeId) (A : Option Addr) (c : Nat) (vs : List Value) : Prop := w.ownsRow base T 1 (.slice A vs.length c) vs.length vs

section
variable {w w' : World} {base c : Nat} {T : TypeId} {A : Option Addr} {vs : List Value}

theorem AccV.nil (w : World) (base : Nat) (T : TypeId) : AccV w base T none 0 [] := World.ownsRow_nil w base _ 1
theorem AccV.ge (h : AccV w base T A c vs) {k : Nat} (hk : blk A = some k) : base ≤ k ∧ k < w.heap.size := World.ownsRow.lt h k (by rw [ownBlock_slice]; exact hk)
theorem AccV.kept (h : AccV w base T A c vs) {row : Option Nat} (hg : w.grownBy w' row) (hne : ∀ k, blk A = some k → row ≠ some k) : AccV w' base T A c vs :=
  World.ownsRow.kept h hg (by
    rw [ownBlock_slice]
    cases hb : blk A with
    | none => exact .inl rfl
    | some k => exact .inr (Ne.symm (hne k hb)))
theorem AccV.bel (h : AccV w base T A c vs) (hb : Below w.heap.size w w') : AccV w' base T A c vs :=
  h.kept (row := none) ⟨hb.os, hb.tape, hb.output, hb.size, fun i hi _ => hb.block i hi⟩ (fun _ _ => by simp)
theorem AccV.alloc (h : AccV w base T A c vs) (o : Obj) : AccV (w.alloc o) base T A c vs := World.ownsRow.alloc h o
theorem AccV.drew (h : AccV w base T A c vs) : AccV w.drew base T A c vs := h
theorem AccV.drewN (h : AccV w base T A c vs) (n : Nat) : AccV (w.drewN n) base T A c vs := h
/-- The type of the cells of its block. -/
theorem AccV.row (h : AccV w base T A c vs) {k : Nat} (hk : blk A = some k) : ∃ cs, w.heap[k]? = some (.cells cs T (0, 0)) := by
  rcases h.2 with ⟨hv, _⟩ | ⟨g, cap, cur, hv, _, hh, _⟩
  · injection hv with e; subst e; cases hk
  · injection hv with e; subst e
    have : g = k := by injection hk
    subst this
    exact ⟨cur, hh⟩
theorem AccV.cell (h : AccV w base T A c vs) {i : Nat} (hi : i < vs.length) : ∃ g, A = some ⟨g, 0, none⟩ ∧ g < w.heap.size ∧ w.cell? ⟨g, i, none⟩ = some vs[i] := by
  rcases h.2 with ⟨_, h0⟩ | ⟨g, cap, cur, hv, hg, hh, hnc, _, hcs, hx⟩
  · omega
  · have hA : A = some ⟨g, 0, none⟩ := by injection hv
    subst hA
    refine ⟨g, rfl, (AccV.ge h rfl).2, ?_⟩
    have := World.ownsRow.cells h (g := g) rfl i vs[i] (by simp [hi])
    rwa [add_plain, Nat.zero_add] at this

/-- An append of one value, which lies somewhere. -/
theorem accv_push {P : Program} (h : AccV w base T A c vs) {ST ty : TypeId} {z x : Value} (ht : P.underlying ST = some (.slice T)) (hinfo : (P.info? T).map (fun i => (i.zero, i.size, i.bytes)) = some (some z, 1, 8)) (hz1 : z.cells.size = 1)
    {q : Nat} (hq : w.cell? ⟨q, 0, none⟩ = some x) (hx : x.oneCell' = true) (hbase : base ≤ w.heap.size) (hlen : vs.length + 1 ≤ 1099511627776) :
    ∃ A' c' w', (Builtin.append_ #[ST, ST] ty #[.slice A vs.length c, .slice (some ⟨q, 0, none⟩) 1 1]).run P w = .ok (.slice A' (vs.length + 1) c') w' ∧ AccV w' base T A' c' (vs ++ [x]) ∧ w.grownBy w' (blk A) := by
  obtain ⟨i, hi, hzz⟩ := Option.map_eq_some_iff.1 hinfo
  simp only [Prod.mk.injEq] at hzz
  obtain ⟨hz, hsz, hby⟩ := hzz
  obtain ⟨v', w', hrun, h2, h3, _, _⟩ := run_append_own_at (P := P) w base ST ty T i z 1 8 ht hi hz hsz hby hz1 (by omega) _ vs.length vs h ⟨q, 0, none⟩ 1 1 [x] (by simp)
    (by
      intro j u hu
      match j, hu with
      | 0, hu => rw [add_plain]; simp at hu; subst hu; exact hq
      | j + 1, hu => simp at hu)
    (by simpa using hx) (by unfold maxLen; omega) (by omega) hbase
  rw [ownBlock_slice] at h3
  have fin : ∃ A' c', v' = .slice A' (vs.length + 1) c' ∧ AccV w' base T A' c' (vs ++ [x]) := by
    have ho' : w'.ownsRow base T 1 v' (vs ++ [x]).length (vs ++ [x]) := by rw [List.length_append]; exact h2
    rcases h2.2 with ⟨_, h0⟩ | ⟨g, cap, cur, rfl, _⟩
    · omega
    · refine ⟨_, cap, rfl, ?_⟩
      unfold AccV
      rw [List.length_append] at ho' ⊢; exact ho'
  obtain ⟨A', c', rfl, hacc⟩ := fin
  exact ⟨A', c', w', hrun, hacc, h3⟩

/-- Two such slices of unlike types lie in two blocks. -/
theorem accv_apart {T2 : TypeId} {base2 c2 : Nat} {A2 : Option Addr} {vs2 : List Value} (h : AccV w base T A c vs) (h2 : AccV w base2 T2 A2 c2 vs2) (hne : T ≠ T2) : ∀ k, blk A = some k → blk A2 ≠ some k := by
  intro k hk hk2
  obtain ⟨cs, e1⟩ := h.row hk
  obtain ⟨cs2, e2⟩ := h2.row hk2
  rw [e1] at e2
  injection e2 with e2
  injection e2 with _ e3
  exact hne e3
end
end Go.Proofs.Ytmffmoflelnmoaa
