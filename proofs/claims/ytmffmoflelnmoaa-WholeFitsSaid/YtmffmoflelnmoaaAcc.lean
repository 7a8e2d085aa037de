/-
  A slice of bytes that a call itself gathers by append: what it reads, and what an append leaves. Condition of an append: what comes out has at most 2^47 bytes.
-/
import Derived.Test.YtmffmoflelnmoaaMem
import Derived.Maps.AppendAt
import Derived.OwnWalk
import Derived.Laws.OwnMore
namespace Go.Proofs.Ytmffmoflelnmoaa
open Go.RowKit

/-- The slice value '.slice A l.length c' reads as 'l', and lies at the head of a block from 'base' on that nothing else has a slice of (or is nil). -/
def Acc (w : World) (base : Nat) (A : Option Addr) (c : Nat) (l : List UInt8) : Prop := w.ownsRow base 5 1 (.slice A l.length c) l.length (l.map bv)

/-- The block of an address. -/
def blk (A : Option Addr) : Option Nat := A.map (·.block)
theorem ownBlock_slice (A : Option Addr) (n c : Nat) : (Value.slice A n c).ownBlock = blk A := by cases A <;> rfl

section
variable {w w' : World} {base c : Nat} {A : Option Addr} {l : List UInt8}

theorem Acc.nil (w : World) (base : Nat) : Acc w base none 0 [] := World.ownsRow_nil w base _ 1
theorem Acc.ge (h : Acc w base A c l) {k : Nat} (hk : blk A = some k) : base ≤ k ∧ k < w.heap.size := World.ownsRow.lt h k (by rw [ownBlock_slice]; exact hk)
theorem Acc.kept (h : Acc w base A c l) {row : Option Nat} (hg : w.grownBy w' row) (hne : blk A = none ∨ blk A ≠ row) : Acc w' base A c l :=
  World.ownsRow.kept h hg (by rw [ownBlock_slice]; exact hne)
theorem Acc.bel (h : Acc w base A c l) (hb : Below w.heap.size w w') : Acc w' base A c l :=
  World.ownsRow.kept (row := none) h ⟨hb.os, hb.tape, hb.output, hb.size, fun i hi _ => hb.block i hi⟩ (by cases hv : (Value.slice A l.length c).ownBlock <;> simp)
theorem Acc.alloc (h : Acc w base A c l) (o : Obj) : Acc (w.alloc o) base A c l := World.ownsRow.alloc h o
theorem Acc.drewN (h : Acc w base A c l) (n : Nat) : Acc (w.drewN n) base A c l := h
theorem Acc.lower (h : Acc w base A c l) {base' : Nat} (hb : base' ≤ base) : Acc w base' A c l := by
  obtain ⟨h1, h2⟩ := h
  refine ⟨h1, ?_⟩
  rcases h2 with h2 | ⟨g, cap, cur, hv, hg, r⟩
  · exact .inl h2
  · exact .inr ⟨g, cap, cur, hv, by omega, r⟩
theorem Acc.bts (h : Acc w base A c l) : Bts w w.heap.size A l.length l := by
  refine ⟨rfl, fun hn => ?_⟩
  rcases h.2 with ⟨_, h0⟩ | ⟨g, cap, cur, hv, hg, hh, hnc, _, hcs, hx⟩
  · omega
  · have hA : A = some ⟨g, 0, none⟩ := by injection hv
    subst hA
    refine ⟨g, 0, rfl, (Acc.ge h rfl).2, fun i hi => ?_⟩
    have := World.ownsRow.cells h (g := g) rfl i (bv l[i]) (by simp [hi])
    rwa [add_plain] at this

end

/-- A block that holds just these bytes is a row of its own. -/
theorem Own.acc {w : World} {g base : Nat} {l : List UInt8} (h : Own w g l) (hb : base ≤ g) (hl : l.length ≤ 140737488355328) : Acc w base (some ⟨g, 0, none⟩) l.length l :=
  ⟨by simp, .inr ⟨g, l.length, (l.map bv).toArray, rfl, hb, h, Nat.le_refl _, by unfold maxLen; omega, by simp, List.take_of_length_le (by simp)⟩⟩
theorem Acc.cap {w : World} {base c : Nat} {A : Option Addr} {l : List UInt8} (h : Acc w base A c l) : l.length ≤ c := by
  rcases h.2 with ⟨hv, h0⟩ | ⟨g, cap, cur, hv, _, _, hnc, _⟩
  · injection hv with _ _ e; omega
  · injection hv with _ _ e; omega
theorem Acc.some {w : World} {base c : Nat} {A : Option Addr} {l : List UInt8} (h : Acc w base A c l) (h0 : 0 < l.length) : ∃ g, A = .some ⟨g, 0, none⟩ ∧ base ≤ g := by
  rcases h.2 with ⟨_, hn⟩ | ⟨g, cap, cur, hv, hg, _⟩
  · omega
  · injection hv with e; exact ⟨g, e, hg⟩
section
variable {w : World} {base c g : Nat} {l : List UInt8}
theorem Acc.cell (h : Acc w base (.some ⟨g, 0, none⟩) c l) (i : Nat) (hi : i < l.length) : w.cell? ⟨g, i, none⟩ = .some (bv l[i]) := by
  rw [World.ownsRow.cellAt h i (by omega)]; simp [hi]
theorem Acc.free (h : Acc w base (.some ⟨g, 0, none⟩) c l) (i : Nat) : w.frozen? ⟨g, i, none⟩ = false := World.ownsRow.frozenAt h i
theorem Acc.set_ (h : Acc w base (.some ⟨g, 0, none⟩) c l) (i : Nat) (x : UInt8) : Acc (w.setCell ⟨g, i, none⟩ (.int .u8 (x.toNat : Int))) base (.some ⟨g, 0, none⟩) c (l.set i x) ∧ w.grownBy (w.setCell ⟨g, i, none⟩ (.int .u8 (x.toNat : Int))) (.some g) := by
  have := World.ownsRow.stored h i (bv x)
  refine ⟨?_, this.2⟩
  unfold Acc
  rw [List.length_set, List.map_set]
  exact this.1
end

/-- A call's own memory is from its beginning on. -/
theorem bel_acc {w W W' : World} {A : Option Addr} {c : Nat} {l : List UInt8} (hb : Below w.heap.size w W) (ha : Acc W w.heap.size A c l) (hg : W.grownBy W' (blk A)) : Below w.heap.size w W' :=
  hb.grown hg hb.size (fun _ hk => (ha.ge hk).1)

section
variable {w w' : World} {base c : Nat} {A : Option Addr} {l : List UInt8}

end

/-- An append whose outcome is known, as a step of the walk. -/
theorem step_append {P : Program} {w w' : World} {ops : Array Oper} {rest : List Oper} {o : Oper} {a : Act} {Q : Exit → Act → World → Prop} {s x : Operand} {t : TypeId} {u v v' : Value} (hgd : o.guard = none)
    (ho : o.op = .call { callee := .builtin .append, args := #[s, x], argTypes := #[t, t] }) (hs : a.eval s = u) (hx : a.eval x = v)
    (hrun : (Builtin.append_ #[t, t] o.type #[u, v]).run P w = .ok v' w') (h : wpList P ops Q rest (a.put o.dst v') w') : wpList P ops Q (o :: rest) a w := by
  refine wpList_plain hgd fun K hK => ?_
  unfold Oper.wp execOp
  simp only [ho, resolve, invoke, builtin, Sem.run_bind, Sem.run_pure, Result.andThen_ok, List.map_toArray, List.map_cons, List.map_nil, hs, hx, hrun]
  exact hK _ _ h
end Go.Proofs.Ytmffmoflelnmoaa
