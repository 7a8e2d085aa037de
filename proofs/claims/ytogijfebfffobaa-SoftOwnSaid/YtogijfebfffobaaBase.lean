/-
  What memory reads, in words of this text's own: a slice of bytes that reads as a list, and a block that holds just a list of bytes. No condition: these are definitions and their simplest consequences.
  A slice of bytes that a call itself gathers by append: what it reads, and what an append leaves. Condition of an append: what comes out has at most 2^47 bytes.
  Slices of values of several cells each: what such a slice reads as, and a slice that a call itself gathers by append. 'enc' tells a value's cells, of which there are 'k'. Condition of an append: what comes out has at most 2^47 bytes.
  A block of cells whose values are known one by one, and stores into it. No condition: definitions and their simplest consequences.
  A region of operations whose order is drawn may be walked in ONE order of the prover's choice, if each operation either yields the same value in every world that meets a condition S, or is the only one that can come up when it does. S may grow behind such an operation. No condition: laws over any program.
  Steps of a walk: a whole struct is loaded out of a block of known cells, or stored into it. No condition beside what is said.
  Slices of whole numbers, and such that a call itself gathers. Condition of an append: at most 2^40 numbers.
  A slice of one-cell values that a call itself gathers by append: what it reads, and what an append of one value leaves. Condition of an append: at most 2^40 values of at most eight bytes.
  Lists that rise, the keys of a map that are whole numbers, and worlds that part in some blocks. No condition: definitions and their simplest consequences.
  Arrays and structs of whole numbers, truths and texts, to any depth, are compared: the answer is whether their cells are the same. No condition.
  One value of a slice that a call itself gathered is laid anew. No condition: laws over any encoding.
-/
import Derived.Test.YtogijfebfffobaaRows
import Derived.WalkKit
import Derived.ProofKit
import Derived.Below
import Derived.Lib.Hide
import Derived.Laws.CopyOwn
import Derived.Laws.BytesArg
import Derived.Deep.Draws
import Derived.Deep.QuietTactic
import Derived.BigQuiet
import Derived.RegionTactic
import Derived.LoopTactic
import Derived.IntWalk
import Derived.Deep.OwnRows
import Derived.Maps.AppendAt
import Derived.OwnWalk
import Derived.Laws.OwnMore
import Derived.OrdersHeld
import Derived.Deep.MidRow
import Derived.Laws.ResultCell
import Derived.Maps.OwnSet
import Derived.Maps.RangeWalk
import Derived.Sort.KeysCollected
import Derived.DeepKeys
namespace Go.Proofs.Ytogijfebfffobaa
open Go.RowKit

/-- A byte as the model's cell. -/
def bv (b : UInt8) : Value := .int .u8 (b.toNat : Int)

/-- Block 'g' holds just these bytes (no spare room), and may be written. -/
def Own (w : World) (g : Nat) (l : List UInt8) : Prop := w.heap[g]? = some (.cells (l.map bv).toArray 5 (0, 0))

/-- The slice value '.slice a n _' reads as the bytes 'l'; where it has any, they lie in a block below 'B'. -/
def Bts (w : World) (B : Nat) (a : Option Addr) (n : Nat) (l : List UInt8) : Prop :=
  l.length = n ∧ (0 < n → ∃ b o : Nat, a = some ⟨b, o, none⟩ ∧ b < B ∧ ∀ (i : Nat) (h : i < l.length), w.cell? ⟨b, o + i, none⟩ = some (bv l[i]))

theorem add_plain (b o i : Nat) : (⟨b, o, none⟩ : Addr).add i = ⟨b, o + i, none⟩ := by
  unfold Addr.add; split <;> simp_all

theorem Own.lt {w : World} {g : Nat} {l : List UInt8} (h : Own w g l) : g < w.heap.size := by
  rcases Nat.lt_or_ge g w.heap.size with hlt | hge
  · exact hlt
  · unfold Own at h; rw [Array.getElem?_eq_none hge] at h; cases h

theorem Own.cell {w : World} {g : Nat} {l : List UInt8} (h : Own w g l) (i : Nat) (hi : i < l.length) : w.cell? ⟨g, i, none⟩ = some (bv l[i]) := by
  have := cell_of_row w g i _ _ _ h
  rw [this]; simp [hi]

theorem Own.frozen {w : World} {g : Nat} {l : List UInt8} (h : Own w g l) (i : Nat) : w.frozen? ⟨g, i, none⟩ = false := by
  unfold Own at h; simp [World.frozen?, h]

theorem Own.same {w w' : World} {g : Nat} {l : List UInt8} (h : Own w g l) (hh : w'.heap[g]? = w.heap[g]?) : Own w' g l := hh.trans h

theorem Own.below {w w' : World} {B g : Nat} {l : List UInt8} (h : Own w g l) (hb : Below B w w') (hg : g < B) : Own w' g l := h.same (hb.block g hg)

theorem Own.bts {w : World} {B g : Nat} {l : List UInt8} (h : Own w g l) (hg : g < B) : Bts w B (some ⟨g, 0, none⟩) l.length l :=
  ⟨rfl, fun _ => ⟨g, 0, rfl, hg, fun i hi => by simpa using h.cell i hi⟩⟩

/-- A part of such a block. -/
theorem Own.part {w : World} {B g : Nat} {l : List UInt8} (h : Own w g l) (hg : g < B) (i j : Nat) (hij : i ≤ j) (hj : j ≤ l.length) :
    Bts w B (some ⟨g, i, none⟩) (j - i) ((l.drop i).take (j - i)) := by
  refine ⟨by simp; omega, fun _ => ⟨g, i, rfl, hg, fun k hk => ?_⟩⟩
  have hk' : k < j - i := by simp at hk; omega
  rw [h.cell (i + k) (by omega)]
  simp

theorem Bts.nil {w : World} {B : Nat} {a : Option Addr} : Bts w B a 0 [] := ⟨rfl, fun h => absurd h (by omega)⟩

theorem Bts.zero {w : World} {B : Nat} {a : Option Addr} {l : List UInt8} (h : Bts w B a 0 l) : l = [] := List.eq_nil_of_length_eq_zero h.1

theorem Bts.keep {w w' : World} {B n : Nat} {a : Option Addr} {l : List UInt8} (h : Bts w B a n l) (hk : ∀ b, b < B → w'.heap[b]? = w.heap[b]?) : Bts w' B a n l :=
  ⟨h.1, fun hn => by
    obtain ⟨b, o, e, hb, hc⟩ := h.2 hn
    exact ⟨b, o, e, hb, fun i hi => (World.cell?_of_block (w := w) (hk b hb)).trans (hc i hi)⟩⟩

theorem Bts.below {w w' : World} {B n : Nat} {a : Option Addr} {l : List UInt8} (h : Bts w B a n l) (hb : Below B w w') : Bts w' B a n l := h.keep hb.block

theorem Bts.more {w : World} {B B' n : Nat} {a : Option Addr} {l : List UInt8} (h : Bts w B a n l) (hB : B ≤ B') : Bts w B' a n l :=
  ⟨h.1, fun hn => by
    obtain ⟨b, o, e, hb, hc⟩ := h.2 hn
    exact ⟨b, o, e, by omega, hc⟩⟩

/-- The front of bytes. -/
theorem Bts.front {w : World} {B n b o : Nat} {l : List UInt8} (h : Bts w B (some ⟨b, o, none⟩) n l) (i : Nat) (hi : i ≤ n) : Bts w B (some ⟨b, o, none⟩) i (l.take i) := by
  have hn := h.1
  refine ⟨by simp; omega, fun h0 => ?_⟩
  obtain ⟨b', o', e, hb, hc⟩ := h.2 (by omega)
  injection e with e; injection e with e1 e2; subst e1; subst e2
  refine ⟨b, o, rfl, hb, fun k hk => ?_⟩
  have hk' : k < i ∧ k < l.length := Nat.lt_min.1 (by simpa using hk)
  rw [hc k hk'.2]; simp
/-- The rest of bytes. -/
theorem Bts.rest {w : World} {B n b o : Nat} {l : List UInt8} (h : Bts w B (some ⟨b, o, none⟩) n l) (i : Nat) (hi : i ≤ n) : Bts w B (some ⟨b, o + i, none⟩) (n - i) (l.drop i) := by
  have hn := h.1
  refine ⟨by simp; omega, fun h0 => ?_⟩
  obtain ⟨b', o', e, hb, hc⟩ := h.2 (by omega)
  injection e with e; injection e with e1 e2; subst e1; subst e2
  refine ⟨b, o + i, rfl, hb, fun k hk => ?_⟩
  have hk' : k < l.length - i := by simpa using hk
  rw [Nat.add_assoc, hc (i + k) (by omega)]; simp

theorem Bts.drew {w : World} {B n : Nat} {a : Option Addr} {l : List UInt8} (h : Bts w B a n l) : Bts w.drew B a n l := h
theorem Bts.drewS {w : World} {n : Nat} {a : Option Addr} {l : List UInt8} (h : Bts w w.heap.size a n l) : Bts w.drew w.drew.heap.size a n l := h
theorem below_of_drew {w w' : World} (h : Below w.drew.heap.size w.drew w') : Below w.heap.size w w' := ⟨h.os, h.tape, h.output, h.size, h.block⟩

/-- What the walk asks of 'string(b)': the conversion of such a slice. -/
theorem Bts.text {P : Program} {w : World} {B n c : Nat} {a : Option Addr} {l : List UInt8} (h : Bts w B a n l) (src e dst : TypeId)
    (hs : P.underlying src = some (.slice e)) (he : P.underlying e = some (.int .u8)) (hd : P.underlying dst = some .string) :
    (convert src dst (.slice a n c)).run P w = .ok (.string ⟨l.toArray⟩) w := by
  rcases Nat.eq_zero_or_pos n with rfl | hn
  · obtain rfl := h.zero
    cases a with
    | none => exact run_convert_bytes_nil w src e hs he _ _ dst hd
    | some ad =>
      rw [run_convert_bytes_string w src dst e _ _ c hs he hd, run_bytesToString w ad 0 c [] (by simp [loadCells, loadCellsFrom])]
      rfl
  · obtain ⟨b, o, rfl, _, hc⟩ := h.2 hn
    have hx := run_convert_bytes_arg (P := P) w src e hs he b o n c (l.map fun x => (x.toNat : Int)) (by simpa using h.1) (fun i hi => by
      have hil : i < l.length := by rw [h.1]; exact hi
      rw [hc i hil]
      simp [bv, List.getD, hil]) dst hd
    rw [hx]
    have he : strOfNums (l.map fun x => (x.toNat : Int)) = ⟨l.toArray⟩ := by
      unfold strOfNums
      rw [List.map_map]
      have : ((fun n : Int => UInt8.ofNat n.toNat) ∘ fun x : UInt8 => (x.toNat : Int)) = id := by
        funext x; simp
      rw [this, List.map_id]
    rw [he]

/-- What a copy of such a slice into the front of a block leaves behind: the bytes, and behind them what was there; nothing else has turned. -/
theorem copy_front {P : Program} {W : World} {B n c : Nat} {a : Option Addr} {l : List UInt8} (h : Bts W B a n l) (dT sT ty elem : TypeId) (hu : P.underlying dT = some (.slice elem)) (hsz : (P.info? elem).map (·.size) = some 1)
    (g dLen dCap : Nat) (cur : List Value) (t : TypeId) (hg : W.heap[g]? = some (.cells cur.toArray t (0, 0))) (hd : n ≤ dLen) (hfit : n ≤ cur.length) :
    ∃ W2, (Builtin.copy_ #[dT, sT] ty #[.slice (some ⟨g, 0, none⟩) dLen dCap, .slice a n c]).run P W = .ok (.int .i64 (n : Int)) W2 ∧
      W2.heap[g]? = some (.cells (l.map bv ++ cur.drop n).toArray t (0, 0)) ∧ W2.heap.size = W.heap.size ∧ Below g W W2 := by
  have hn := h.1
  subst hn
  rcases Nat.eq_zero_or_pos l.length with h0 | h0
  · obtain rfl := List.eq_nil_of_length_eq_zero h0
    exact ⟨W, run_copy_none (P := P) W dT sT ty elem _ _ _ _ _ _ hu hsz (by simp), by simpa using hg, rfl, Below.refl _ _⟩
  · obtain ⟨b, o, rfl, _, hc⟩ := h.2 h0
    have hrun := run_copy_row (P := P) W dT sT ty elem g 0 dLen dCap ⟨b, o, none⟩ l.length c cur.toArray t (l.map bv) hu hsz hg (by simp [Nat.min_eq_left hd])
      (fun j v hj => by
        have hjl : j < l.length := by
          rcases Nat.lt_or_ge j l.length with h | h
          · exact h
          · rw [List.getElem?_eq_none (by simpa using h)] at hj; cases hj
        rw [add_plain, hc j hjl]
        simpa [hjl] using hj) (by simpa using hfit) (by intro v hv; obtain ⟨x, _, rfl⟩ := List.mem_map.1 hv; rfl)
    simp only [List.length_map] at hrun
    refine ⟨_, hrun, ?_, ?_, ?_⟩
    · rw [setRow_heap W g _ _ t _ hg]; simp
    · simp [World.setRow]
    · exact below_setRow (Below.refl _ _) (Nat.le_refl _) _

theorem own_alloc (w : World) (l : List UInt8) (cs : Array Value) (h : cs = (l.map bv).toArray) : Own (w.alloc (.cells cs 5)) w.heap.size l := by
  subst h; exact heap_alloc_new w _

theorem bel_drewN {B : Nat} {a w : World} (h : Below B a w) (n : Nat) : Below B a (w.drewN n) := ⟨h.os, h.tape, h.output, h.size, h.block⟩
/-- A call of a reader's method turns the reader alone. -/
theorem bel_upd {B r : Nat} {a w w' : World} (h : Below B a w) (hg : w.grownBy w' (some r)) (hB : B ≤ a.heap.size) (hr : B ≤ r) : Below B a w' :=
  h.grown hg (Nat.le_trans hB h.size) (fun k hk => by injection hk with hk; omega)
/-- A call that makes memory alone. -/
theorem bel_more {B : Nat} {a w w' : World} (h : Below B a w) (hB : B ≤ a.heap.size) (hb : Below w.heap.size w w') : Below B a w' := h.trans (hb.mono (Nat.le_trans hB h.size))
end Go.Proofs.Ytogijfebfffobaa

namespace Go.Proofs.Ytogijfebfffobaa
open Go.RowKit

/-- The slice value '.slice A l.length c' reads as 'l', and lies at the head of a block from 'base' on that nothing else has a slice of (or is nil). -/
def Acc (w : World) (base : Nat) (A : Option Addr) (c : Nat) (l : List UInt8) : Prop := w.ownsRow base 5 1 (.slice A l.length c) l.length (l.map bv)

/-- The block of an address. -/
def blk (A : Option Addr) : Option Nat := A.map (·.block)
theorem ownBlock_slice (A : Option Addr) (n c : Nat) : (Value.slice A n c).ownBlock = blk A := by cases A <;> rfl

section
variable {w w' : World} {base c : Nat} {A : Option Addr} {l : List UInt8}

theorem Acc.nil (w : World) (base : Nat) : Acc w base none 0 [] := World.ownsRow_nil w base _ 1
theorem Acc.ge (h : Acc w base A c l) {k : Nat} (hk : blk A = some k) : base ≤ k ∧ k < w.heap.size := World.ownsRow.lt h k (by rw [ownBlock_slice]; exact hk)
theorem Acc.kept (h : Acc w base A c l) {row : Option Nat} (hg : w.grownBy w' row) (hne : blk A = none ∨ blk A ≠ row) : Acc w' base A c l :=
  World.ownsRow.kept h hg (by rw [ownBlock_slice]; exact hne)
theorem Acc.bel (h : Acc w base A c l) (hb : Below w.heap.size w w') : Acc w' base A c l :=
  World.ownsRow.kept (row := none) h ⟨hb.os, hb.tape, hb.output, hb.size, fun i hi _ => hb.block i hi⟩ (by cases hv : (Value.slice A l.length c).ownBlock <;> simp)
theorem Acc.alloc (h : Acc w base A c l) (o : Obj) : Acc (w.alloc o) base A c l := World.ownsRow.alloc h o
theorem Acc.drewN (h : Acc w base A c l) (n : Nat) : Acc (w.drewN n) base A c l := h
theorem Acc.lower (h : Acc w base A c l) {base' : Nat} (hb : base' ≤ base) : Acc w base' A c l := by
  obtain ⟨h1, h2⟩ := h
  refine ⟨h1, ?_⟩
  rcases h2 with h2 | ⟨g, cap, cur, hv, hg, r⟩
  · exact .inl h2
  · exact .inr ⟨g, cap, cur, hv, by omega, r⟩
theorem Acc.bts (h : Acc w base A c l) : Bts w w.heap.size A l.length l := by
  refine ⟨rfl, fun hn => ?_⟩
  rcases h.2 with ⟨_, h0⟩ | ⟨g, cap, cur, hv, hg, hh, hnc, _, hcs, hx⟩
  · omega
  · have hA : A = some ⟨g, 0, none⟩ := by injection hv
    subst hA
    refine ⟨g, 0, rfl, (Acc.ge h rfl).2, fun i hi => ?_⟩
    have := World.ownsRow.cells h (g := g) rfl i (bv l[i]) (by simp [hi])
    rwa [add_plain] at this

end

/-- A block that holds just these bytes is a row of its own. -/
theorem Own.acc {w : World} {g base : Nat} {l : List UInt8} (h : Own w g l) (hb : base ≤ g) (hl : l.length ≤ 140737488355328) : Acc w base (some ⟨g, 0, none⟩) l.length l :=
  ⟨by simp, .inr ⟨g, l.length, (l.map bv).toArray, rfl, hb, h, Nat.le_refl _, by unfold maxLen; omega, by simp, List.take_of_length_le (by simp)⟩⟩
theorem Acc.cap {w : World} {base c : Nat} {A : Option Addr} {l : List UInt8} (h : Acc w base A c l) : l.length ≤ c := by
  rcases h.2 with ⟨hv, h0⟩ | ⟨g, cap, cur, hv, _, _, hnc, _⟩
  · injection hv with _ _ e; omega
  · injection hv with _ _ e; omega
theorem Acc.some {w : World} {base c : Nat} {A : Option Addr} {l : List UInt8} (h : Acc w base A c l) (h0 : 0 < l.length) : ∃ g, A = .some ⟨g, 0, none⟩ ∧ base ≤ g := by
  rcases h.2 with ⟨_, hn⟩ | ⟨g, cap, cur, hv, hg, _⟩
  · omega
  · injection hv with e; exact ⟨g, e, hg⟩
section
variable {w : World} {base c g : Nat} {l : List UInt8}
theorem Acc.cell (h : Acc w base (.some ⟨g, 0, none⟩) c l) (i : Nat) (hi : i < l.length) : w.cell? ⟨g, i, none⟩ = .some (bv l[i]) := by
  rw [World.ownsRow.cellAt h i (by omega)]; simp [hi]
theorem Acc.free (h : Acc w base (.some ⟨g, 0, none⟩) c l) (i : Nat) : w.frozen? ⟨g, i, none⟩ = false := World.ownsRow.frozenAt h i
theorem Acc.set_ (h : Acc w base (.some ⟨g, 0, none⟩) c l) (i : Nat) (x : UInt8) : Acc (w.setCell ⟨g, i, none⟩ (.int .u8 (x.toNat : Int))) base (.some ⟨g, 0, none⟩) c (l.set i x) ∧ w.grownBy (w.setCell ⟨g, i, none⟩ (.int .u8 (x.toNat : Int))) (.some g) := by
  have := World.ownsRow.stored h i (bv x)
  refine ⟨?_, this.2⟩
  unfold Acc
  rw [List.length_set, List.map_set]
  exact this.1
end

/-- A call's own memory is from its beginning on. -/
theorem bel_acc {w W W' : World} {A : Option Addr} {c : Nat} {l : List UInt8} (hb : Below w.heap.size w W) (ha : Acc W w.heap.size A c l) (hg : W.grownBy W' (blk A)) : Below w.heap.size w W' :=
  hb.grown hg hb.size (fun _ hk => (ha.ge hk).1)

section
variable {w w' : World} {base c : Nat} {A : Option Addr} {l : List UInt8}

end

/-- An append whose outcome is known, as a step of the walk. -/
theorem step_append {P : Program} {w w' : World} {ops : Array Oper} {rest : List Oper} {o : Oper} {a : Act} {Q : Exit → Act → World → Prop} {s x : Operand} {t : TypeId} {u v v' : Value} (hgd : o.guard = none)
    (ho : o.op = .call { callee := .builtin .append, args := #[s, x], argTypes := #[t, t] }) (hs : a.eval s = u) (hx : a.eval x = v)
    (hrun : (Builtin.append_ #[t, t] o.type #[u, v]).run P w = .ok v' w') (h : wpList P ops Q rest (a.put o.dst v') w') : wpList P ops Q (o :: rest) a w := by
  refine wpList_plain hgd fun K hK => ?_
  unfold Oper.wp execOp
  simp only [ho, resolve, invoke, builtin, Sem.run_bind, Sem.run_pure, Result.andThen_ok, List.map_toArray, List.map_cons, List.map_nil, hs, hx, hrun]
  exact hK _ _ h
end Go.Proofs.Ytogijfebfffobaa

namespace Go.Proofs.Ytogijfebfffobaa
open Go.RowKit

/-- One more block. -/
theorem bel_alloc {B : Nat} {a w : World} (h : Below B a w) (hB : B ≤ a.heap.size) (o : Obj) : Below B a (w.alloc o) := h.alloc (Nat.le_trans hB h.size) o
theorem bel_new {a w : World} (h : Below a.heap.size a w) (o : Obj) : Below a.heap.size a (w.alloc o) := bel_alloc h (Nat.le_refl _) o

section
variable {α : Type} {enc : α → List Value} {k : Nat}

/-- The slice value '.slice a n _' reads as the values 'l'; where it has any, they lie in a block below 'B'. -/
def Row (enc : α → List Value) (w : World) (B : Nat) (a : Option Addr) (n : Nat) (l : List α) : Prop :=
  l.length = n ∧ (0 < n → ∃ b o : Nat, a = some ⟨b, o, none⟩ ∧ b < B ∧ ∀ (i : Nat) (h : i < (l.flatMap enc).length), w.cell? ⟨b, o + i, none⟩ = some (l.flatMap enc)[i])

theorem flat_length (hk : ∀ x, (enc x).length = k) (l : List α) : (l.flatMap enc).length = l.length * k := by
  induction l with
  | nil => simp
  | cons x l ih => simp [ih, hk, Nat.succ_mul]; omega
theorem flat_get (hk : ∀ x, (enc x).length = k) : ∀ (l : List α) (i : Nat) (hi : i < l.length) (j : Nat), j < k → (l.flatMap enc)[i * k + j]? = (enc l[i])[j]?
  | x :: l, 0, _, j, hj => by
    rw [List.flatMap_cons, Nat.zero_mul, Nat.zero_add, List.getElem?_append_left (by rw [hk]; exact hj)]; rfl
  | x :: l, i + 1, hi, j, hj => by
    have hi' : i < l.length := by simpa using hi
    rw [List.flatMap_cons, List.getElem?_append_right (by rw [hk, Nat.succ_mul]; omega), hk]
    have e : (i + 1) * k + j - k = i * k + j := by rw [Nat.succ_mul]; omega
    rw [e, flat_get hk l i hi' j hj]; rfl

section
variable {w w' : World} {B n : Nat} {a : Option Addr} {l : List α}
theorem Row.nil : Row enc w B a 0 [] := ⟨rfl, fun h => absurd h (by omega)⟩
theorem Row.zero (h : Row enc w B a 0 l) : l = [] := List.eq_nil_of_length_eq_zero h.1
theorem Row.keep (h : Row enc w B a n l) (hk : ∀ b, b < B → w'.heap[b]? = w.heap[b]?) : Row enc w' B a n l :=
  ⟨h.1, fun hn => by
    obtain ⟨b, o, e, hb, hc⟩ := h.2 hn
    exact ⟨b, o, e, hb, fun i hi => (World.cell?_of_block (w := w) (hk b hb)).trans (hc i hi)⟩⟩
theorem Row.below (h : Row enc w B a n l) (hb : Below B w w') : Row enc w' B a n l := h.keep hb.block
theorem Row.more (h : Row enc w B a n l) {B' : Nat} (hB : B ≤ B') : Row enc w B' a n l :=
  ⟨h.1, fun hn => by
    obtain ⟨b, o, e, hb, hc⟩ := h.2 hn
    exact ⟨b, o, e, by omega, hc⟩⟩
theorem Row.drewN (h : Row enc w B a n l) (m : Nat) : Row enc (w.drewN m) B a n l := h
theorem Row.drew (h : Row enc w B a n l) : Row enc w.drew B a n l := h
/-- The cells, value by value. -/
theorem Row.cells (hk : ∀ x, (enc x).length = k) (h : Row enc w B a n l) (hn : 0 < n) : ∃ b o : Nat, a = some ⟨b, o, none⟩ ∧ b < B ∧ ∀ (i : Nat) (hi : i < l.length) (j : Nat), j < k → w.cell? ⟨b, o + i * k + j, none⟩ = (enc l[i])[j]? := by
  obtain ⟨b, o, e, hb, hc⟩ := h.2 hn
  refine ⟨b, o, e, hb, fun i hi j hj => ?_⟩
  have hlt : i * k + j < (l.flatMap enc).length := by
    rw [flat_length hk]
    have : (i + 1) * k ≤ l.length * k := Nat.mul_le_mul_right _ hi
    rw [Nat.succ_mul] at this; omega
  rw [Nat.add_assoc, hc _ hlt, ← flat_get hk l i hi j hj, List.getElem?_eq_getElem hlt]
/-- The other way round. -/
theorem Row.mk (hk : ∀ x, (enc x).length = k) (hl : l.length = n) (h : 0 < n → ∃ b o : Nat, a = some ⟨b, o, none⟩ ∧ b < B ∧ ∀ (i : Nat) (hi : i < l.length) (j : Nat), j < k → w.cell? ⟨b, o + i * k + j, none⟩ = (enc l[i])[j]?) : Row enc w B a n l := by
  refine ⟨hl, fun hn => ?_⟩
  obtain ⟨b, o, e, hb, hc⟩ := h hn
  refine ⟨b, o, e, hb, fun i hi => ?_⟩
  have hi' : i < l.length * k := by rw [flat_length hk] at hi; exact hi
  have hk0 : 0 < k := by
    rcases Nat.eq_zero_or_pos k with h0 | h0
    · rw [h0] at hi'; omega
    · exact h0
  have hd : i / k < l.length := Nat.div_lt_of_lt_mul (by rw [Nat.mul_comm]; exact hi')
  have hm := Nat.mod_lt i hk0
  have e1 : i / k * k + i % k = i := by rw [Nat.mul_comm]; exact Nat.div_add_mod i k
  have h1 := hc (i / k) hd (i % k) hm
  rw [Nat.add_assoc, e1] at h1
  rw [h1, ← flat_get hk l (i / k) hd (i % k) hm, e1, List.getElem?_eq_getElem hi]
/-- The rest of such a slice. -/
theorem Row.rest (hk : ∀ x, (enc x).length = k) {b o : Nat} (h : Row enc w B (some ⟨b, o, none⟩) n l) (i : Nat) (hi : i ≤ n) : Row enc w B (some ⟨b, o + i * k, none⟩) (n - i) (l.drop i) := by
  have hn := h.1
  refine Row.mk hk (by simp; omega) fun h0 => ?_
  obtain ⟨b', o', e, hb, hc⟩ := h.cells hk (by omega)
  injection e with e; injection e with e1 e2; subst e1; subst e2
  refine ⟨b, o + i * k, rfl, hb, fun j hj t ht => ?_⟩
  have hj' : j < l.length - i := by simpa using hj
  have h1 := hc (i + j) (by omega) t ht
  have e : o + i * k + j * k + t = o + (i + j) * k + t := by rw [Nat.add_mul]; omega
  rw [e, h1]; simp
end

/-- The slice value '.slice A l.length c' reads as 'l' (values of type 'T'), and lies at the head of a block from 'base' on that nothing else has a slice of (or is nil). -/
def AccR (enc : α → List Value) (k : Nat) (w : World) (base : Nat) (T : TypeId) (A : Option Addr) (c : Nat) (l : List α) : Prop := w.ownsRow base T k (.slice A l.length c) l.length (l.flatMap enc)

section
variable {w w' : World} {base c : Nat} {T : TypeId} {A : Option Addr} {l : List α}
theorem AccR.nil (w : World) (base : Nat) (T : TypeId) : AccR enc k w base T none 0 [] := World.ownsRow_nil w base _ k
theorem AccR.ge (h : AccR enc k w base T A c l) {x : Nat} (hx : blk A = some x) : base ≤ x ∧ x < w.heap.size := World.ownsRow.lt h x (by rw [ownBlock_slice]; exact hx)
theorem AccR.kept (h : AccR enc k w base T A c l) {row : Option Nat} (hg : w.grownBy w' row) (hne : ∀ x, blk A = some x → row ≠ some x) : AccR enc k w' base T A c l :=
  World.ownsRow.kept h hg (by
    rw [ownBlock_slice]
    cases hb : blk A with
    | none => exact .inl rfl
    | some x => exact .inr (Ne.symm (hne x hb)))
theorem AccR.bel (h : AccR enc k w base T A c l) (hb : Below w.heap.size w w') : AccR enc k w' base T A c l :=
  h.kept (row := none) ⟨hb.os, hb.tape, hb.output, hb.size, fun i hi _ => hb.block i hi⟩ (fun _ _ => by simp)
theorem AccR.alloc (h : AccR enc k w base T A c l) (o : Obj) : AccR enc k (w.alloc o) base T A c l := World.ownsRow.alloc h o
theorem AccR.drew (h : AccR enc k w base T A c l) : AccR enc k w.drew base T A c l := h
theorem AccR.drewN (h : AccR enc k w base T A c l) (n : Nat) : AccR enc k (w.drewN n) base T A c l := h
theorem AccR.lower (h : AccR enc k w base T A c l) {base' : Nat} (hb : base' ≤ base) : AccR enc k w base' T A c l := by
  obtain ⟨h1, h2⟩ := h
  refine ⟨h1, ?_⟩
  rcases h2 with h2 | ⟨g, cap, cur, hv, hg, r⟩
  · exact .inl h2
  · exact .inr ⟨g, cap, cur, hv, by omega, r⟩
theorem AccR.cap (h : AccR enc k w base T A c l) : l.length ≤ c ∧ c ≤ maxLen := by
  rcases h.2 with ⟨hv, h0⟩ | ⟨g, cap, cur, hv, _, _, hnc, hm, _⟩
  · injection hv with _ _ e; subst e; exact ⟨by omega, Nat.zero_le _⟩
  · injection hv with _ _ e; subst e; exact ⟨hnc, hm⟩
theorem AccR.row (h : AccR enc k w base T A c l) : Row enc w w.heap.size A l.length l := by
  refine ⟨rfl, fun hn => ?_⟩
  rcases h.2 with ⟨_, h0⟩ | ⟨g, cap, cur, hv, hg, hh, hnc, _, hcs, hx⟩
  · omega
  · have hA : A = some ⟨g, 0, none⟩ := by injection hv
    subst hA
    refine ⟨g, 0, rfl, (AccR.ge h rfl).2, fun i hi => ?_⟩
    have := World.ownsRow.cells h (g := g) rfl i (l.flatMap enc)[i] (by simp)
    rwa [add_plain] at this
theorem belr_acc {w W W' : World} (hb : Below w.heap.size w W) (ha : AccR enc k W w.heap.size T A c l) (hg : W.grownBy W' (blk A)) : Below w.heap.size w W' :=
  hb.grown hg hb.size (fun _ hk => (ha.ge hk).1)

/-- An append of values that such a slice reads as. -/
theorem accr_append {P : Program} (hk : ∀ x, (enc x).length = k) (h1 : ∀ x, ∀ u ∈ enc x, u.oneCell' = true) (hk0 : 0 < k) (h : AccR enc k w base T A c l) {B m cc : Nat} {a : Option Addr} {l2 : List α} (hs : Row enc w B a m l2)
    {ST ty : TypeId} {z : Value} {bytes : Nat} (ht : P.underlying ST = some (.slice T)) (hinfo : (P.info? T).map (fun i => (i.zero, i.size, i.bytes)) = some (some z, k, bytes)) (hzs : z.cells.size = k)
    (hbase : base ≤ w.heap.size) (hlen : (l.length + m) * bytes ≤ 140737488355328) (hml : l.length + m ≤ 140737488355328) :
    ∃ A' c' w', (Builtin.append_ #[ST, ST] ty #[.slice A l.length c, .slice a m cc]).run P w = .ok (.slice A' (l.length + m) c') w' ∧ AccR enc k w' base T A' c' (l ++ l2) ∧ w.grownBy w' (blk A) ∧
      (blk A' = blk A ∨ blk A' = some w.heap.size) := by
  have hm := hs.1
  subst hm
  obtain ⟨i, hi, hzz⟩ := Option.map_eq_some_iff.1 hinfo
  simp only [Prod.mk.injEq] at hzz
  obtain ⟨hz, hsz, hby⟩ := hzz
  have fin : ∀ v' w2, w2.ownsRow base T k v' (l.length + l2.length) (l.flatMap enc ++ l2.flatMap enc) → ∃ A' c', v' = .slice A' (l.length + l2.length) c' ∧ AccR enc k w2 base T A' c' (l ++ l2) := by
    intro v' w2 ho
    have ho' : w2.ownsRow base T k v' (l ++ l2).length ((l ++ l2).flatMap enc) := by rw [List.flatMap_append, List.length_append]; exact ho
    rcases ho.2 with ⟨rfl, h0⟩ | ⟨g, cap, cur, rfl, _⟩
    · refine ⟨none, 0, by rw [h0], ?_⟩
      unfold AccR
      rw [List.length_append, h0]; rw [List.length_append, h0] at ho'; exact ho'
    · refine ⟨_, cap, rfl, ?_⟩
      unfold AccR
      rw [List.length_append]; rw [List.length_append] at ho'; exact ho'
  cases a with
  | none =>
    have h0 : l2.length = 0 := by
      rcases Nat.eq_zero_or_pos l2.length with h0 | h0
      · exact h0
      · obtain ⟨b, o, e, _⟩ := hs.2 h0; cases e
    obtain rfl := List.eq_nil_of_length_eq_zero h0
    refine ⟨A, c, w, ?_, by simpa using h, World.grownBy.refl w _, .inl rfl⟩
    rcases h.2 with ⟨hv, hn⟩ | ⟨g, cap, cur, hv, _, _, hnc, _⟩
    · rw [hv, List.length_nil, Nat.add_zero, hn]
      injection hv with e1 e2 e3
      simp [Builtin.append_, run_underlying ht, sizeOf, typeInfo, hi, Builtin.lenOf, Builtin.firstCells, e1, e3]
    · injection hv with e1 e2 e3
      simp [Builtin.append_, run_underlying ht, sizeOf, typeInfo, hi, Builtin.lenOf, Builtin.firstCells, e1, e3, hnc, storeCells]
  | some ad =>
    have hcells : ∀ j u, (l2.flatMap enc)[j]? = some u → w.cell? (ad.add j) = some u := by
      intro j u hu
      have hj : j < (l2.flatMap enc).length := by
        rcases Nat.lt_or_ge j (l2.flatMap enc).length with h | h
        · exact h
        · rw [List.getElem?_eq_none h] at hu; cases hu
      have hpos : 0 < l2.length := by
        rcases Nat.eq_zero_or_pos l2.length with h0 | h0
        · rw [flat_length hk, h0] at hj; omega
        · exact h0
      obtain ⟨b, o, e, _, hc⟩ := hs.2 hpos
      injection e with e
      subst e
      rw [add_plain, hc j hj]
      rw [List.getElem?_eq_getElem hj] at hu; exact hu
    obtain ⟨v', w', hrun, h2, h3, _, h5⟩ := run_append_own_at (P := P) w base ST ty T i z k bytes ht hi hz hsz hby hzs hk0 _ l.length (l.flatMap enc) h ad l2.length cc (l2.flatMap enc) (flat_length hk l2) hcells
      (by intro v hv; obtain ⟨x, _, hx⟩ := List.mem_flatMap.1 hv; exact h1 x v hx) (by unfold maxLen; omega) hlen hbase
    obtain ⟨A', c', rfl, hacc⟩ := fin v' w' h2
    rw [ownBlock_slice, ownBlock_slice] at h5
    rw [ownBlock_slice] at h3
    exact ⟨A', c', w', hrun, hacc, h3, h5⟩

/-- An append of one value, which the program lays into a block of its own first. -/
theorem accr_push {P : Program} (hk : ∀ x, (enc x).length = k) (h1 : ∀ x, ∀ u ∈ enc x, u.oneCell' = true) (hk0 : 0 < k) (h : AccR enc k w base T A c l) (x : α)
    {ST ty : TypeId} {z : Value} {bytes : Nat} (ht : P.underlying ST = some (.slice T)) (hinfo : (P.info? T).map (fun i => (i.zero, i.size, i.bytes)) = some (some z, k, bytes)) (hzs : z.cells.size = k)
    (hbase : base ≤ w.heap.size) (hlen : (l.length + 1) * bytes ≤ 140737488355328) (hml : l.length + 1 ≤ 140737488355328) :
    ∃ A' c' w', (Builtin.append_ #[ST, ST] ty #[.slice A l.length c, .slice (some ⟨w.heap.size, 0, none⟩) 1 1]).run P (w.alloc (.cells (enc x).toArray T)) = .ok (.slice A' (l.length + 1) c') w' ∧
      AccR enc k w' base T A' c' (l ++ [x]) ∧ w.grownBy w' (blk A) := by
  have hs : Row enc (w.alloc (.cells (enc x).toArray T)) (w.heap.size + 1) (some ⟨w.heap.size, 0, none⟩) 1 [x] := by
    refine ⟨rfl, fun _ => ⟨w.heap.size, 0, rfl, by omega, fun i hi => ?_⟩⟩
    have hi' : i < (enc x).length := by simpa using hi
    rw [cell_of_row _ _ _ _ _ _ (heap_alloc_new w _)]
    simp [hi']
  obtain ⟨A', c', w', r1, r2, r3, _⟩ := accr_append (P := P) hk h1 hk0 (h.alloc _) (cc := 1) hs (ty := ty) ht hinfo hzs (by simp; omega) hlen hml
  refine ⟨A', c', w', r1, r2, ⟨r3.os, r3.tape, r3.output, Nat.le_trans (by simp) r3.size, fun i hi hne => (r3.block i (by simp; omega) hne).trans (Below.heap_alloc _ _ _ hi)⟩⟩
end
end
end Go.Proofs.Ytogijfebfffobaa

namespace Go.Proofs.Ytogijfebfffobaa
open Go.RowKit

/-- Block 'q' holds just these values, and may be written. -/
def Blk (w : World) (q : Nat) (T : TypeId) (vs : List Value) : Prop := w.heap[q]? = some (.cells vs.toArray T (0, 0))
section
variable {w w' : World} {q : Nat} {T : TypeId} {vs : List Value}
theorem Blk.cell (h : Blk w q T vs) (i : Nat) : w.cell? ⟨q, i, none⟩ = vs[i]? := by
  have := cell_of_row w q i _ _ _ h
  rw [this]; simp
theorem Blk.free (h : Blk w q T vs) (i : Nat) : w.frozen? ⟨q, i, none⟩ = false := by unfold Blk at h; simp [World.frozen?, h]
theorem Blk.lt (h : Blk w q T vs) : q < w.heap.size := (Array.getElem?_eq_some_iff.1 h).1
theorem Blk.same (h : Blk w q T vs) (hb : w'.heap[q]? = w.heap[q]?) : Blk w' q T vs := hb.trans h
theorem Blk.below (h : Blk w q T vs) (hb : Below w.heap.size w w') : Blk w' q T vs := h.same (hb.block _ h.lt)
theorem Blk.alloc (h : Blk w q T vs) (o : Obj) : Blk (w.alloc o) q T vs := h.same (Below.heap_alloc _ _ _ h.lt)
theorem Blk.drewN (h : Blk w q T vs) (n : Nat) : Blk (w.drewN n) q T vs := h
theorem Blk.drew (h : Blk w q T vs) : Blk w.drew q T vs := h
theorem Blk.new (w : World) (T : TypeId) (vs : List Value) : Blk (w.alloc (.cells vs.toArray T)) w.heap.size T vs := heap_alloc_new w _
theorem Blk.set (h : Blk w q T vs) (i : Nat) (v : Value) : Blk (w.setCell ⟨q, i, none⟩ v) q T (vs.set i v) := by
  unfold Blk at h ⊢
  simp [World.setCell, Array.getElem?_modify, h]
theorem Blk.other (h : Blk w q T vs) {p : Addr} (hne : p.block ≠ q) (v : Value) : Blk (w.setCell p v) q T vs :=
  h.same (Below.heap_setCell _ _ _ _ (Ne.symm hne))
theorem Blk.set4 {u0 u1 u2 u3 : Value} (h : Blk w q T [u0, u1, u2, u3]) (v0 v1 v2 v3 : Value) : Blk ((((w.setCell ⟨q, 0, none⟩ v0).setCell ⟨q, 1, none⟩ v1).setCell ⟨q, 2, none⟩ v2).setCell ⟨q, 3, none⟩ v3) q T [v0, v1, v2, v3] := (((h.set 0 v0).set 1 v1).set 2 v2).set 3 v3
theorem bel_set4 {B : Nat} {a : World} (h : Below B a w) (hq : B ≤ q) (v0 v1 v2 v3 : Value) : Below B a ((((w.setCell ⟨q, 0, none⟩ v0).setCell ⟨q, 1, none⟩ v1).setCell ⟨q, 2, none⟩ v2).setCell ⟨q, 3, none⟩ v3) :=
  (((h.setCell (p := ⟨q, 0, none⟩) hq v0).setCell (p := ⟨q, 1, none⟩) hq v1).setCell (p := ⟨q, 2, none⟩) hq v2).setCell (p := ⟨q, 3, none⟩) hq v3
theorem Blk.other4 (h : Blk w q T vs) {p : Nat} (hne : p ≠ q) (v0 v1 v2 v3 : Value) : Blk ((((w.setCell ⟨p, 0, none⟩ v0).setCell ⟨p, 1, none⟩ v1).setCell ⟨p, 2, none⟩ v2).setCell ⟨p, 3, none⟩ v3) q T vs :=
  (((h.other (p := ⟨p, 0, none⟩) hne v0).other (p := ⟨p, 1, none⟩) hne v1).other (p := ⟨p, 2, none⟩) hne v2).other (p := ⟨p, 3, none⟩) hne v3
theorem Row.drewS {α : Type} {enc : α → List Value} {n : Nat} {a : Option Addr} {l : List α} (h : Row enc w w.heap.size a n l) : Row enc w.drew w.drew.heap.size a n l := h
end
end Go.Proofs.Ytogijfebfffobaa

namespace Go.Proofs.Ytogijfebfffobaa

section
variable {P : Program} {ops : Array Oper} {Q : Exit → Act → World → Prop} {md : Region.Mode}

/-- What holds with more known of the world holds with less known. -/
theorem held_weaken {S S' : World → Prop} (hS : ∀ w, S' w → S w) : ∀ (fuel : Nat) (listed : Array Bool) (a : Act) (w : World), wpAnyH P md ops Q S' fuel listed a w → wpAnyH P md ops Q S fuel listed a w
  | 0, _, _, _, h => h
  | fuel + 1, _, _, _, h => ⟨h.1, fun i hi => wpOp_mono (fun a' w' h' => ⟨hS _ h'.1, held_weaken hS fuel _ a' w' h'.2⟩) (h.2 i hi)⟩

/-- An order in which the operations may be walked: 'true': the operation yields its value in every world that meets S; 'false': it is carried out, and nothing else can come up then. -/
def okOrd (md : Region.Mode) (ops : Array Oper) : List (Nat × Bool) → Array Bool → Bool
  | [], listed => Region.ready md ops listed == []
  | (i, true) :: r, listed => Region.free md ops listed i && ((Region.ready md ops listed).contains i && okOrd md ops r (listed.setIfInBounds i true))
  | (i, false) :: r, listed => Region.ready md ops listed == [i] && okOrd md ops r (listed.setIfInBounds i true)

def wpSeq (P : Program) (ops : Array Oper) (Q : Exit → Act → World → Prop) : (World → Prop) → List (Nat × Bool) → Act → World → Prop
  | _, [], a, w => Q .normal a w
  | S, (i, true) :: r, a, w => ∃ o v, ops[i]? = some o ∧ YieldsIf P ops S o v a ∧ wpSeq P ops Q S r (a.put o.dst v) w
  | S, (i, false) :: r, a, w => wpOp P ops Q i (fun a' w' => ∃ S' : World → Prop, (∀ x, S' x → S x) ∧ S' w' ∧ wpSeq P ops Q S' r a' w') a w

/-- What is asked behind a panic hangs on no slot. -/
def Calm (Q : Exit → Act → World → Prop) : Prop := ∀ c (t t' : Array Value) d w, Q (.panic c) { tmps := t, defers := d } w → Q (.panic c) { tmps := t', defers := d } w
theorem Calm.put (h : Calm Q) (c) (a : Act) (d : Option Tmp) (v : Value) (w : World) (hq : Q (.panic c) (a.put d v) w) : Q (.panic c) a w := by
  cases a; cases d <;> exact h _ _ _ _ _ hq

theorem held_of_seq (hs : Region.noSelect ops = true) (hQ : Calm Q) :
    ∀ (ord : List (Nat × Bool)) (S : World → Prop) (listed : Array Bool) (a : Act) (w : World) (fuel : Nat), ord.length ≤ fuel → okOrd md ops ord listed = true → S w → wpSeq P ops Q S ord a w → wpAnyH P md ops Q S fuel listed a w
  | [], S, listed, a, w, fuel, _, hB, _, h => wpAnyH_done (by simpa [okOrd] using hB) h fuel
  | (i, true) :: r, S, listed, a, w, 0, hf, _, _, _ => absurd hf (by simp)
  | (i, false) :: r, S, listed, a, w, 0, hf, _, _, _ => absurd hf (by simp)
  | (i, true) :: r, S, listed, a, w, fuel + 1, hf, hB, hS, h => by
    obtain ⟨o, v, ho, hy, hr⟩ := h
    simp only [okOrd, Bool.and_eq_true] at hB
    exact wpAnyH_take ho hs hB.1 hB.2.1 (fun c a w => hQ.put c a _ _ w) hy hS (held_of_seq hs hQ r S _ _ _ fuel (by simpa using hf) hB.2.2 hS hr)
  | (i, false) :: r, S, listed, a, w, fuel + 1, hf, hB, hS, h => by
    simp only [okOrd, Bool.and_eq_true, beq_iff_eq] at hB
    refine wpAnyH_all hB.1 (by simp) (fun j hj => ?_)
    obtain rfl : j = i := by simpa using hj
    refine wpOp_mono (fun a' w' h' => ?_) h
    obtain ⟨S', hSS, hS', hr⟩ := h'
    exact ⟨hSS _ hS', held_weaken hSS _ _ _ _ (held_of_seq hs hQ r S' _ a' w' fuel (by simpa using hf) hB.2 hS' hr)⟩

theorem region_seq {id : Nat} {a : Act} {w : World} (S : World → Prop) (ord : List (Nat × Bool)) (hm : P.follows .mixedOrders = true) (hs : Region.noSelect ops = true)
    (hl : decide (ord.length ≤ ops.size) = true) (hB : okOrd .any ops ord (Array.replicate ops.size false) = true) (hQ : Calm Q)
    (hS : S w.drew) (h : wpSeq P ops Q S ord a w.drew) : (Code.region id ops true).wp P Q a w :=
  wp_region_held hm (held_of_seq hs hQ ord S _ a _ ops.size (of_decide_eq_true hl) hB hS h)

variable {S : World → Prop} {i : Nat} {r : List (Nat × Bool)} {a : Act} {w : World} {o : Oper}

/-- An operation that yields. -/
theorem seq_pure {v : Value} (ho : ops.toList[i]? = some o) (hw : Region.wanted o (yielded ops a.tmps) = true) (hy : ∀ W, S W → (execOp a.eval o).run P W = .ok (.value v) W)
    (h : wpSeq P ops Q S r (a.put o.dst v) w) : wpSeq P ops Q S ((i, true) :: r) a w := ⟨o, v, by rw [← Array.getElem?_toList]; exact ho, .inl ⟨hw, hy⟩, h⟩
/-- An operation that its guard leaves out. -/
theorem seq_skip (ho : ops.toList[i]? = some o) (hw : Region.wanted o (yielded ops a.tmps) = false) (h : wpSeq P ops Q S r (a.put o.dst undef) w) : wpSeq P ops Q S ((i, true) :: r) a w :=
  ⟨o, undef, by rw [← Array.getElem?_toList]; exact ho, .inr ⟨hw, rfl⟩, h⟩
/-- What is known behind an operation that is carried out. -/
def Behind (P : Program) (ops : Array Oper) (Q : Exit → Act → World → Prop) (S : World → Prop) (r : List (Nat × Bool)) (K : Act → World → Prop) : Prop :=
  ∀ (a : Act) (w : World) (S' : World → Prop), (∀ x, S' x → S x) → S' w → wpSeq P ops Q S' r a w → K a w
/-- An operation that is carried out. -/
theorem seq_make (ho : ops.toList[i]? = some o) (hw : Region.wanted o (yielded ops a.tmps) = true) (h : ∀ K : Act → World → Prop, Behind P ops Q S r K → Oper.wp P o a w K Q) : wpSeq P ops Q S ((i, false) :: r) a w := by
  refine wpOp_step (o := o) (by rw [← Array.getElem?_toList]; exact ho) (fun K hK => ?_)
  rw [if_pos hw]
  exact h K (fun a w S' h1 h2 h3 => hK _ _ ⟨S', h1, h2, h3⟩)
theorem seq_done (h : Q .normal a w) : wpSeq P ops Q S [] a w := h
end

/-- An order that parts where either of two operations may come up. -/
inductive Way where
  | done : Way
  | step (i : Nat) (b : Bool) (r : Way) : Way
  | both (i j : Nat) (x y : Way) : Way
  | three (i j k : Nat) (x y z : Way) : Way

def Way.size : Way → Nat
  | .done => 0
  | .step _ _ r => r.size + 1
  | .both _ _ x y => max x.size y.size + 1
  | .three _ _ _ x y z => max x.size (max y.size z.size) + 1

/-- A row of operations, and what comes behind them. -/
def Way.row : List (Nat × Bool) → Way → Way
  | [], r => r
  | (i, b) :: l, r => .step i b (Way.row l r)

section
variable {P : Program} {ops : Array Oper} {Q : Exit → Act → World → Prop} {md : Region.Mode}

def okWay (md : Region.Mode) (ops : Array Oper) : Way → Array Bool → Bool
  | .done, listed => Region.ready md ops listed == []
  | .step i true r, listed => Region.free md ops listed i && ((Region.ready md ops listed).contains i && okWay md ops r (listed.setIfInBounds i true))
  | .step i false r, listed => Region.ready md ops listed == [i] && okWay md ops r (listed.setIfInBounds i true)
  | .both i j x y, listed => Region.ready md ops listed == [i, j] && (okWay md ops x (listed.setIfInBounds i true) && okWay md ops y (listed.setIfInBounds j true))
  | .three i j k x y z, listed => Region.ready md ops listed == [i, j, k] && (okWay md ops x (listed.setIfInBounds i true) && (okWay md ops y (listed.setIfInBounds j true) && okWay md ops z (listed.setIfInBounds k true)))

def wpWay (P : Program) (ops : Array Oper) (Q : Exit → Act → World → Prop) : (World → Prop) → Way → Act → World → Prop
  | _, .done, a, w => Q .normal a w
  | S, .step i true r, a, w => ∃ o v, ops[i]? = some o ∧ YieldsIf P ops S o v a ∧ wpWay P ops Q S r (a.put o.dst v) w
  | S, .step i false r, a, w => wpOp P ops Q i (fun a' w' => ∃ S' : World → Prop, (∀ x, S' x → S x) ∧ S' w' ∧ wpWay P ops Q S' r a' w') a w
  | S, .both i j x y, a, w => wpOp P ops Q i (fun a' w' => ∃ S' : World → Prop, (∀ x, S' x → S x) ∧ S' w' ∧ wpWay P ops Q S' x a' w') a w ∧ wpOp P ops Q j (fun a' w' => ∃ S' : World → Prop, (∀ x, S' x → S x) ∧ S' w' ∧ wpWay P ops Q S' y a' w') a w
  | S, .three i j k x y z, a, w => wpOp P ops Q i (fun a' w' => ∃ S' : World → Prop, (∀ x, S' x → S x) ∧ S' w' ∧ wpWay P ops Q S' x a' w') a w ∧ wpOp P ops Q j (fun a' w' => ∃ S' : World → Prop, (∀ x, S' x → S x) ∧ S' w' ∧ wpWay P ops Q S' y a' w') a w ∧ wpOp P ops Q k (fun a' w' => ∃ S' : World → Prop, (∀ x, S' x → S x) ∧ S' w' ∧ wpWay P ops Q S' z a' w') a w

theorem held_of_way (hs : Region.noSelect ops = true) (hQ : Calm Q) :
    ∀ (r : Way) (S : World → Prop) (listed : Array Bool) (a : Act) (w : World) (fuel : Nat), r.size ≤ fuel → okWay md ops r listed = true → S w → wpWay P ops Q S r a w → wpAnyH P md ops Q S fuel listed a w
  | .done, S, listed, a, w, fuel, _, hB, _, h => wpAnyH_done (by simpa [okWay] using hB) h fuel
  | .step i b r, S, listed, a, w, 0, hf, _, _, _ => absurd hf (by simp [Way.size])
  | .both i j x y, S, listed, a, w, 0, hf, _, _, _ => absurd hf (by simp [Way.size])
  | .three i j k x y z, S, listed, a, w, 0, hf, _, _, _ => absurd hf (by simp [Way.size])
  | .step i true r, S, listed, a, w, fuel + 1, hf, hB, hS, h => by
    obtain ⟨o, v, ho, hy, hr⟩ := h
    simp only [okWay, Bool.and_eq_true] at hB
    exact wpAnyH_take ho hs hB.1 hB.2.1 (fun c a w => hQ.put c a _ _ w) hy hS (held_of_way hs hQ r S _ _ _ fuel (by simpa [Way.size] using hf) hB.2.2 hS hr)
  | .step i false r, S, listed, a, w, fuel + 1, hf, hB, hS, h => by
    simp only [okWay, Bool.and_eq_true, beq_iff_eq] at hB
    refine wpAnyH_all hB.1 (by simp) (fun j hj => ?_)
    obtain rfl : j = i := by simpa using hj
    refine wpOp_mono (fun a' w' h' => ?_) h
    obtain ⟨S', hSS, hS', hr⟩ := h'
    exact ⟨hSS _ hS', held_weaken hSS _ _ _ _ (held_of_way hs hQ r S' _ a' w' fuel (by simpa [Way.size] using hf) hB.2 hS' hr)⟩
  | .both i j x y, S, listed, a, w, fuel + 1, hf, hB, hS, h => by
    simp only [okWay, Bool.and_eq_true, beq_iff_eq] at hB
    have hx : x.size ≤ fuel := by simp [Way.size] at hf; omega
    have hy : y.size ≤ fuel := by simp [Way.size] at hf; omega
    refine wpAnyH_all hB.1 (by simp) (fun k hk => ?_)
    rcases (by simpa using hk : k = i ∨ k = j) with rfl | rfl
    · refine wpOp_mono (fun a' w' h' => ?_) h.1
      obtain ⟨S', hSS, hS', hr⟩ := h'
      exact ⟨hSS _ hS', held_weaken hSS _ _ _ _ (held_of_way hs hQ x S' _ a' w' fuel hx hB.2.1 hS' hr)⟩
    · refine wpOp_mono (fun a' w' h' => ?_) h.2
      obtain ⟨S', hSS, hS', hr⟩ := h'
      exact ⟨hSS _ hS', held_weaken hSS _ _ _ _ (held_of_way hs hQ y S' _ a' w' fuel hy hB.2.2 hS' hr)⟩
  | .three i j k x y z, S, listed, a, w, fuel + 1, hf, hB, hS, h => by
    simp only [okWay, Bool.and_eq_true, beq_iff_eq] at hB
    have hx : x.size ≤ fuel := by simp [Way.size] at hf; omega
    have hy : y.size ≤ fuel := by simp [Way.size] at hf; omega
    have hz : z.size ≤ fuel := by simp [Way.size] at hf; omega
    refine wpAnyH_all hB.1 (by simp) (fun m hm => ?_)
    rcases (by simpa using hm : m = i ∨ m = j ∨ m = k) with rfl | rfl | rfl
    · refine wpOp_mono (fun a' w' h' => ?_) h.1
      obtain ⟨S', hSS, hS', hr⟩ := h'
      exact ⟨hSS _ hS', held_weaken hSS _ _ _ _ (held_of_way hs hQ x S' _ a' w' fuel hx hB.2.1 hS' hr)⟩
    · refine wpOp_mono (fun a' w' h' => ?_) h.2.1
      obtain ⟨S', hSS, hS', hr⟩ := h'
      exact ⟨hSS _ hS', held_weaken hSS _ _ _ _ (held_of_way hs hQ y S' _ a' w' fuel hy hB.2.2.1 hS' hr)⟩
    · refine wpOp_mono (fun a' w' h' => ?_) h.2.2
      obtain ⟨S', hSS, hS', hr⟩ := h'
      exact ⟨hSS _ hS', held_weaken hSS _ _ _ _ (held_of_way hs hQ z S' _ a' w' fuel hz hB.2.2.2 hS' hr)⟩

theorem region_way {id : Nat} {a : Act} {w : World} (S : World → Prop) (r : Way) (hm : P.follows .mixedOrders = true) (hs : Region.noSelect ops = true)
    (hl : decide (r.size ≤ ops.size) = true) (hB : okWay .any ops r (Array.replicate ops.size false) = true) (hQ : Calm Q)
    (hS : S w.drew) (h : wpWay P ops Q S r a w.drew) : (Code.region id ops true).wp P Q a w :=
  wp_region_held hm (held_of_way hs hQ r S _ a _ ops.size (of_decide_eq_true hl) hB hS h)

variable {S : World → Prop} {i : Nat} {r : Way} {a : Act} {w : World} {o : Oper}

theorem way_pure {v : Value} (ho : ops.toList[i]? = some o) (hw : Region.wanted o (yielded ops a.tmps) = true) (hy : ∀ W, S W → (execOp a.eval o).run P W = .ok (.value v) W)
    (h : wpWay P ops Q S r (a.put o.dst v) w) : wpWay P ops Q S (.step i true r) a w := ⟨o, v, by rw [← Array.getElem?_toList]; exact ho, .inl ⟨hw, hy⟩, h⟩
theorem way_skip (ho : ops.toList[i]? = some o) (hw : Region.wanted o (yielded ops a.tmps) = false) (h : wpWay P ops Q S r (a.put o.dst undef) w) : wpWay P ops Q S (.step i true r) a w :=
  ⟨o, undef, by rw [← Array.getElem?_toList]; exact ho, .inr ⟨hw, rfl⟩, h⟩
/-- What is known behind an operation that is carried out. -/
def Beyond (P : Program) (ops : Array Oper) (Q : Exit → Act → World → Prop) (S : World → Prop) (r : Way) (K : Act → World → Prop) : Prop :=
  ∀ (a : Act) (w : World) (S' : World → Prop), (∀ x, S' x → S x) → S' w → wpWay P ops Q S' r a w → K a w
theorem way_op (ho : ops.toList[i]? = some o) (hw : Region.wanted o (yielded ops a.tmps) = true) (h : ∀ K : Act → World → Prop, Beyond P ops Q S r K → Oper.wp P o a w K Q) :
    wpOp P ops Q i (fun a' w' => ∃ S' : World → Prop, (∀ x, S' x → S x) ∧ S' w' ∧ wpWay P ops Q S' r a' w') a w := by
  refine wpOp_step (o := o) (by rw [← Array.getElem?_toList]; exact ho) (fun K hK => ?_)
  rw [if_pos hw]
  exact h K (fun a w S' h1 h2 h3 => hK _ _ ⟨S', h1, h2, h3⟩)
theorem way_make (ho : ops.toList[i]? = some o) (hw : Region.wanted o (yielded ops a.tmps) = true) (h : ∀ K : Act → World → Prop, Beyond P ops Q S r K → Oper.wp P o a w K Q) : wpWay P ops Q S (.step i false r) a w :=
  way_op ho hw h
theorem way_both {j : Nat} {x y : Way} {o2 : Oper} (ho : ops.toList[i]? = some o) (hw : Region.wanted o (yielded ops a.tmps) = true) (ho2 : ops.toList[j]? = some o2) (hw2 : Region.wanted o2 (yielded ops a.tmps) = true)
    (h : ∀ K : Act → World → Prop, Beyond P ops Q S x K → Oper.wp P o a w K Q) (h2 : ∀ K : Act → World → Prop, Beyond P ops Q S y K → Oper.wp P o2 a w K Q) : wpWay P ops Q S (.both i j x y) a w :=
  ⟨way_op ho hw h, way_op ho2 hw2 h2⟩
theorem way_three {j k : Nat} {x y z : Way} {o2 o3 : Oper} (ho : ops.toList[i]? = some o) (hw : Region.wanted o (yielded ops a.tmps) = true) (ho2 : ops.toList[j]? = some o2) (hw2 : Region.wanted o2 (yielded ops a.tmps) = true) (ho3 : ops.toList[k]? = some o3) (hw3 : Region.wanted o3 (yielded ops a.tmps) = true)
    (h : ∀ K : Act → World → Prop, Beyond P ops Q S x K → Oper.wp P o a w K Q) (h2 : ∀ K : Act → World → Prop, Beyond P ops Q S y K → Oper.wp P o2 a w K Q) (h3 : ∀ K : Act → World → Prop, Beyond P ops Q S z K → Oper.wp P o3 a w K Q) : wpWay P ops Q S (.three i j k x y z) a w :=
  ⟨way_op ho hw h, way_op ho2 hw2 h2, way_op ho3 hw3 h3⟩
theorem way_done (h : Q .normal a w) : wpWay P ops Q S .done a w := h
end

/-- An append whose outcome is known, inside a region whose order is drawn. -/
theorem op_append {P : Program} {w w' : World} {o : Oper} {a : Act} {K : Act → World → Prop} {Q : Exit → Act → World → Prop} {s x : Operand} {t : TypeId} {u v v' : Value}
    (ho : o.op = .call { callee := .builtin .append, args := #[s, x], argTypes := #[t, t] }) (hs : a.eval s = u) (hx : a.eval x = v)
    (hrun : (Builtin.append_ #[t, t] o.type #[u, v]).run P w = .ok v' w') (h : K (a.put o.dst v') w') : o.wp P a w K Q := by
  unfold Oper.wp execOp
  simp only [ho, resolve, invoke, builtin, Sem.run_bind, Sem.run_pure, Result.andThen_ok, List.map_toArray, List.map_cons, List.map_nil, hs, hx, hrun]
  exact h
end Go.Proofs.Ytogijfebfffobaa

namespace Go.Proofs.Ytogijfebfffobaa
open Go.RowKit

section
variable {P : Program} {w : World} {ops : Array Oper} {rest : List Oper} {o : Oper} {a : Act} {Q : Exit → Act → World → Prop} {x y : Operand} {t ty : TypeId} {g : Nat} {vs us : List Value} {d : TypeDesc}
theorem Blk.range (h : Blk w g t vs) : w.rangeAt g 0 vs := fun j v hv => by
  have := h.cell (0 + j)
  rw [this, Nat.zero_add]; exact hv
theorem step_load (hgd : o.guard = none) (ho : o.op = .load ty x) (hx : a.eval x = .pointer (some ⟨g, 0, none⟩)) (hb : Blk w g t vs) (hu : P.underlying ty = some d) (hd : d.isRow = true) (hi : (P.info? ty).map (·.size) = some vs.length)
    (h : wpList P ops Q rest (a.put o.dst (.agg vs.toArray)) w) : wpList P ops Q (o :: rest) a w :=
  wpList_load_mid hgd ty x ho g 0 hx vs d hb.range hu hd hi h
theorem step_load_want (hw : Region.wanted o (yielded ops a.tmps) = true) (ho : o.op = .load ty x) (hx : a.eval x = .pointer (some ⟨g, 0, none⟩)) (hb : Blk w g t vs) (hu : P.underlying ty = some d) (hd : d.isRow = true) (hi : (P.info? ty).map (·.size) = some vs.length)
    (h : wpList P ops Q rest (a.put o.dst (.agg vs.toArray)) w) : wpList P ops Q (o :: rest) a w := by
  refine wpList_step fun K hK => ?_
  rw [if_pos hw]
  exact wp_load_mid ty x ho g 0 hx vs d hb.range hu hd hi (hK _ _ h)
theorem set_row_blk (h : Blk w g t us) : Blk (w.setRow g vs.toArray) g t vs := by
  unfold Blk at h ⊢
  rw [setRow_heap w g _ _ t _ h]
theorem wp_store8 {K : Act → World → Prop} (ho : o.op = .store ty x y) (hx : a.eval x = .pointer (some ⟨g, 0, none⟩)) (hy : a.eval y = .agg vs.toArray) (hb : Blk w g t us) (hi : (P.info? ty).map (·.size) = some vs.length) (hl : us.length = vs.length) (h1 : ∀ u ∈ vs, u.oneCell' = true)
    (h : ∀ w', Blk w' g t vs → w.grownBy w' (some g) → w'.heap.size = w.heap.size → K (a.put o.dst undef) w') : o.wp P a w K Q := by
  refine wp_store_row ty x y ho g vs.toArray hx hy t us.toArray hb (by simpa using hi) (by simpa using hl) (Array.all_eq_true_iff_forall_mem.2 (fun u hu => h1 u (by simpa using hu))) ?_
  exact h _ (set_row_blk hb) ⟨rfl, rfl, rfl, by simp [World.setRow], fun k hk hne => setRow_other w g k _ (fun e => hne (by rw [e]))⟩ (by simp [World.setRow])
theorem step_store (hgd : o.guard = none) (ho : o.op = .store ty x y) (hx : a.eval x = .pointer (some ⟨g, 0, none⟩)) (hy : a.eval y = .agg vs.toArray) (hb : Blk w g t us) (hi : (P.info? ty).map (·.size) = some vs.length) (hl : us.length = vs.length) (h1 : ∀ u ∈ vs, u.oneCell' = true)
    (h : ∀ w', Blk w' g t vs → w.grownBy w' (some g) → w'.heap.size = w.heap.size → wpList P ops Q rest (a.put o.dst undef) w') : wpList P ops Q (o :: rest) a w := by
  refine wpList_plain hgd fun K hK => ?_
  refine wp_store_row ty x y ho g vs.toArray hx hy t us.toArray hb (by simpa using hi) (by simpa using hl) (Array.all_eq_true_iff_forall_mem.2 (fun u hu => h1 u (by simpa using hu))) (hK _ _ ?_)
  exact h _ (set_row_blk hb) ⟨rfl, rfl, rfl, by simp [World.setRow], fun k hk hne => setRow_other w g k _ (fun e => hne (by rw [e]))⟩ (by simp [World.setRow])
theorem results_two8 {fn : Func} {p u : Tmp} {v : Value} (h : fn.results = #[.cell p ty, .tmp u]) (tmps : Array Value) (hp : tmps.getD p undef = .pointer (some ⟨g, 0, none⟩)) (hb : Blk w g t vs) (hu : P.underlying ty = some d) (hd : d.isRow = true) (hi : (P.info? ty).map (·.size) = some vs.length) (hv : tmps.getD u undef = v) :
    (results fn tmps).run P w = .ok (.tuple #[.agg vs.toArray, v]) w := by
  rw [results_cell_tmp h, hp, hv]
  simp [asAddr, run_loadVar_mid w g 0 ty vs d hb.range hu hd hi]
theorem results_one8 {fn : Func} {p : Tmp} (h : fn.results = #[.cell p ty]) (tmps : Array Value) (hp : tmps.getD p undef = .pointer (some ⟨g, 0, none⟩)) (hb : Blk w g t vs) (hu : P.underlying ty = some d) (hd : d.isRow = true) (hi : (P.info? ty).map (·.size) = some vs.length) :
    (results fn tmps).run P w = .ok (.agg vs.toArray) w := by
  have hp' : tmps[p]?.getD undef = .pointer (some ⟨g, 0, none⟩) := by simpa using hp
  simp [results, h, hp', asAddr, run_loadVar_mid w g 0 ty vs d hb.range hu hd hi]
end
section
variable {P : Program} {w : World} {ops : Array Oper} {rest : List Oper} {o : Oper} {a : Act} {Q : Exit → Act → World → Prop} {x : Operand} {ty : TypeId} {g k : Nat} {vs : List Value} {d : TypeDesc}
/-- A whole struct out of the midst of a row. -/
theorem step_load_at (hgd : o.guard = none) (ho : o.op = .load ty x) (hx : a.eval x = .pointer (some ⟨g, k, none⟩)) (hb : w.rangeAt g k vs) (hu : P.underlying ty = some d) (hd : d.isRow = true) (hi : (P.info? ty).map (·.size) = some vs.length)
    (h : wpList P ops Q rest (a.put o.dst (.agg vs.toArray)) w) : wpList P ops Q (o :: rest) a w :=
  wpList_load_mid hgd ty x ho g k hx vs d hb hu hd hi h
end
/-- A whole struct, read in a region whose order is drawn. -/
theorem seq_load8 {P : Program} {ops : Array Oper} {Q : Exit → Act → World → Prop} {S : World → Prop} {i : Nat} {r : List (Nat × Bool)} {a : Act} {w : World} {o : Oper} {x : Operand} {ty t : TypeId} {g : Nat} {vs : List Value} {d : TypeDesc}
    (ho : ops.toList[i]? = some o) (hw : Region.wanted o (yielded ops a.tmps) = true) (hop : o.op = .load ty x) (hx : a.eval x = .pointer (some ⟨g, 0, none⟩)) (hb : ∀ W, S W → Blk W g t vs) (hu : P.underlying ty = some d) (hd : d.isRow = true) (hi : (P.info? ty).map (·.size) = some vs.length)
    (h : wpSeq P ops Q S r (a.put o.dst (.agg vs.toArray)) w) : wpSeq P ops Q S ((i, true) :: r) a w :=
  ⟨o, _, by rw [← Array.getElem?_toList]; exact ho, yieldsIf_load_mid hw ty x hop g 0 hx vs d (fun W hW => (hb W hW).range) hu hd hi, h⟩
end Go.Proofs.Ytogijfebfffobaa

namespace Go.Proofs.Ytogijfebfffobaa
open Go.RowKit

/-- A whole number's one cell. -/
def ei (x : Int) : List Value := [.int .i64 x]
theorem ei_length (x : Int) : (ei x).length = 1 := rfl
theorem ei_one (x : Int) : ∀ u ∈ ei x, u.oneCell' = true := by intro u hu; simp [ei] at hu; subst hu; rfl
theorem ei_flat (l : List Int) : l.flatMap ei = l.map (Value.int .i64) := by
  induction l with
  | nil => rfl
  | cons x l ih => rw [List.flatMap_cons, ih]; rfl
theorem infoInt : (Try.prog.info? 3).map (fun i => (i.zero, i.size, i.bytes)) = some (some (.int .i64 0), 1, 8) := by kernel_rfl

/-- Whole numbers that a call itself gathers. -/
def AccI (w : World) (base : Nat) (A : Option Addr) (c : Nat) (l : List Int) : Prop := AccR ei 1 w base 3 A c l

theorem acci_push {w : World} {base c : Nat} {A : Option Addr} {l : List Int} (h : AccI w base A c l) (x : Int) (hbase : base ≤ w.heap.size) (hlen : l.length ≤ 1099511627776) (ty : TypeId) :
    ∃ A' c' w', (Builtin.append_ #[35, 35] ty #[.slice A l.length c, .slice (some ⟨w.heap.size, 0, none⟩) 1 1]).run Try.prog (w.alloc (.cells #[.int .i64 x] 3)) = .ok (.slice A' (l.length + 1) c') w' ∧
      AccI w' base A' c' (l ++ [x]) ∧ w.grownBy w' (blk A) :=
  accr_push ei_length ei_one (by omega) h x Try.underlying35 infoInt rfl hbase (by omega) (by omega)
/-- A block of whole numbers is a slice of the call's own. -/
theorem Blk.acci {w : World} {g base : Nat} {l : List Int} (h : Blk w g 3 (l.map (Value.int .i64))) (hb : base ≤ g) (hl : l.length ≤ 140737488355328) : AccI w base (some ⟨g, 0, none⟩) l.length l := by
  unfold AccI AccR
  rw [ei_flat]
  exact ⟨by simp, .inr ⟨g, l.length, (l.map (Value.int .i64)).toArray, rfl, hb, h, Nat.le_refl _, by unfold maxLen; omega, by simp, List.take_of_length_le (by simp)⟩⟩
/-- What a copy of such a slice into a block leaves behind. -/
theorem copy_ints {P : Program} {W : World} {B n c : Nat} {a : Option Addr} {l : List Int} (h : Row ei W B a n l) (dT sT ty elem : TypeId) (hu : P.underlying dT = some (.slice elem)) (hsz : (P.info? elem).map (·.size) = some 1)
    (g m dCap : Nat) (cur : List Value) (t : TypeId) (hg : Blk W g t cur) (hm : cur.length = m) :
    ∃ W2, (Builtin.copy_ #[dT, sT] ty #[.slice (some ⟨g, 0, none⟩) m dCap, .slice a n c]).run P W = .ok (.int .i64 ((min n m : Nat) : Int)) W2 ∧
      Blk W2 g t ((l.take m).map (Value.int .i64) ++ cur.drop n) ∧ W2.heap.size = W.heap.size ∧ W.grownBy W2 (some g) := by
  have hn := h.1
  subst hn
  subst hm
  rcases Nat.eq_zero_or_pos (min l.length cur.length) with h0 | h0
  · refine ⟨W, ?_, ?_, rfl, World.grownBy.refl _ _⟩
    · rw [run_copy_none (P := P) W dT sT ty elem _ _ _ _ _ _ hu hsz h0, h0]; rfl
    · rcases Nat.eq_zero_or_pos l.length with h1 | h1
      · obtain rfl := List.eq_nil_of_length_eq_zero h1
        simpa using hg
      · have h2 : cur.length = 0 := by omega
        obtain rfl := List.eq_nil_of_length_eq_zero h2
        simpa using hg
  · have h1 : 0 < l.length := by omega
    obtain ⟨b, o, rfl, _, hc⟩ := h.2 h1
    rw [ei_flat] at hc
    have hrun := run_copy_row (P := P) W dT sT ty elem g 0 cur.length dCap ⟨b, o, none⟩ l.length c cur.toArray t ((l.take cur.length).map (Value.int .i64)) hu hsz hg (by rw [List.length_map, List.length_take]; exact Nat.min_comm _ _)
      (fun j v hj => by
        have hjl : j < l.length ∧ j < cur.length := by
          rcases Nat.lt_or_ge j (min l.length cur.length) with h | h
          · omega
          · rw [List.getElem?_eq_none (by simp; omega)] at hj; cases hj
        rw [add_plain, hc j (by simpa using hjl.1)]
        simp [hjl.1, hjl.2] at hj ⊢
        exact hj) (by simp; omega) (by intro v hv; obtain ⟨x, _, rfl⟩ := List.mem_map.1 hv; rfl)
    have hl : ((((l.take cur.length).map (Value.int .i64)).length : Nat) : Int) = ((min l.length cur.length : Nat) : Int) := by rw [List.length_map, List.length_take, Nat.min_comm]
    rw [hl] at hrun
    refine ⟨_, hrun, ?_, ?_, ?_⟩
    · unfold Blk; rw [setRow_heap W g _ _ t _ hg]; simp
      omega
    · simp [World.setRow]
    · exact ⟨rfl, rfl, rfl, by simp [World.setRow], fun k hk hne => setRow_other W g k _ (fun e => hne (by rw [e]))⟩
end Go.Proofs.Ytogijfebfffobaa

namespace Go.Proofs.Ytogijfebfffobaa
open Go.RowKit

/-- The slice value '.slice A vs.length c' reads as the cells 'vs' (of type 'T', one a value), and lies at the head of a block from 'base' on that nothing else has a slice of (or is nil). -/
def AccV (w : World) (base : Nat) (T : TypeId) (A : Option Addr) (c : Nat) (vs : List Value) : Prop := w.ownsRow base T 1 (.slice A vs.length c) vs.length vs

section
variable {w w' : World} {base c : Nat} {T : TypeId} {A : Option Addr} {vs : List Value}

theorem AccV.nil (w : World) (base : Nat) (T : TypeId) : AccV w base T none 0 [] := World.ownsRow_nil w base _ 1
theorem AccV.ge (h : AccV w base T A c vs) {k : Nat} (hk : blk A = some k) : base ≤ k ∧ k < w.heap.size := World.ownsRow.lt h k (by rw [ownBlock_slice]; exact hk)
theorem AccV.kept (h : AccV w base T A c vs) {row : Option Nat} (hg : w.grownBy w' row) (hne : ∀ k, blk A = some k → row ≠ some k) : AccV w' base T A c vs :=
  World.ownsRow.kept h hg (by
    rw [ownBlock_slice]
    cases hb : blk A with
    | none => exact .inl rfl
    | some k => exact .inr (Ne.symm (hne k hb)))
theorem AccV.bel (h : AccV w base T A c vs) (hb : Below w.heap.size w w') : AccV w' base T A c vs :=
  h.kept (row := none) ⟨hb.os, hb.tape, hb.output, hb.size, fun i hi _ => hb.block i hi⟩ (fun _ _ => by simp)
theorem AccV.alloc (h : AccV w base T A c vs) (o : Obj) : AccV (w.alloc o) base T A c vs := World.ownsRow.alloc h o
theorem AccV.drew (h : AccV w base T A c vs) : AccV w.drew base T A c vs := h
theorem AccV.drewN (h : AccV w base T A c vs) (n : Nat) : AccV (w.drewN n) base T A c vs := h
/-- The type of the cells of its block. -/
theorem AccV.row (h : AccV w base T A c vs) {k : Nat} (hk : blk A = some k) : ∃ cs, w.heap[k]? = some (.cells cs T (0, 0)) := by
  rcases h.2 with ⟨hv, _⟩ | ⟨g, cap, cur, hv, _, hh, _⟩
  · injection hv with e; subst e; cases hk
  · injection hv with e; subst e
    have : g = k := by injection hk
    subst this
    exact ⟨cur, hh⟩
theorem AccV.cell (h : AccV w base T A c vs) {i : Nat} (hi : i < vs.length) : ∃ g, A = some ⟨g, 0, none⟩ ∧ g < w.heap.size ∧ w.cell? ⟨g, i, none⟩ = some vs[i] := by
  rcases h.2 with ⟨_, h0⟩ | ⟨g, cap, cur, hv, hg, hh, hnc, _, hcs, hx⟩
  · omega
  · have hA : A = some ⟨g, 0, none⟩ := by injection hv
    subst hA
    refine ⟨g, rfl, (AccV.ge h rfl).2, ?_⟩
    have := World.ownsRow.cells h (g := g) rfl i vs[i] (by simp [hi])
    rwa [add_plain, Nat.zero_add] at this

/-- An append of one value, which lies somewhere. -/
theorem accv_push {P : Program} (h : AccV w base T A c vs) {ST ty : TypeId} {z x : Value} (ht : P.underlying ST = some (.slice T)) (hinfo : (P.info? T).map (fun i => (i.zero, i.size, i.bytes)) = some (some z, 1, 8)) (hz1 : z.cells.size = 1)
    {q : Nat} (hq : w.cell? ⟨q, 0, none⟩ = some x) (hx : x.oneCell' = true) (hbase : base ≤ w.heap.size) (hlen : vs.length + 1 ≤ 1099511627776) :
    ∃ A' c' w', (Builtin.append_ #[ST, ST] ty #[.slice A vs.length c, .slice (some ⟨q, 0, none⟩) 1 1]).run P w = .ok (.slice A' (vs.length + 1) c') w' ∧ AccV w' base T A' c' (vs ++ [x]) ∧ w.grownBy w' (blk A) := by
  obtain ⟨i, hi, hzz⟩ := Option.map_eq_some_iff.1 hinfo
  simp only [Prod.mk.injEq] at hzz
  obtain ⟨hz, hsz, hby⟩ := hzz
  obtain ⟨v', w', hrun, h2, h3, _, _⟩ := run_append_own_at (P := P) w base ST ty T i z 1 8 ht hi hz hsz hby hz1 (by omega) _ vs.length vs h ⟨q, 0, none⟩ 1 1 [x] (by simp)
    (by
      intro j u hu
      match j, hu with
      | 0, hu => rw [add_plain]; simp at hu; subst hu; exact hq
      | j + 1, hu => simp at hu)
    (by simpa using hx) (by unfold maxLen; omega) (by omega) hbase
  rw [ownBlock_slice] at h3
  have fin : ∃ A' c', v' = .slice A' (vs.length + 1) c' ∧ AccV w' base T A' c' (vs ++ [x]) := by
    have ho' : w'.ownsRow base T 1 v' (vs ++ [x]).length (vs ++ [x]) := by rw [List.length_append]; exact h2
    rcases h2.2 with ⟨_, h0⟩ | ⟨g, cap, cur, rfl, _⟩
    · omega
    · refine ⟨_, cap, rfl, ?_⟩
      unfold AccV
      rw [List.length_append] at ho' ⊢; exact ho'
  obtain ⟨A', c', rfl, hacc⟩ := fin
  exact ⟨A', c', w', hrun, hacc, h3⟩

/-- Two such slices of unlike types lie in two blocks. -/
theorem accv_apart {T2 : TypeId} {base2 c2 : Nat} {A2 : Option Addr} {vs2 : List Value} (h : AccV w base T A c vs) (h2 : AccV w base2 T2 A2 c2 vs2) (hne : T ≠ T2) : ∀ k, blk A = some k → blk A2 ≠ some k := by
  intro k hk hk2
  obtain ⟨cs, e1⟩ := h.row hk
  obtain ⟨cs2, e2⟩ := h2.row hk2
  rw [e1] at e2
  injection e2 with e2
  injection e2 with _ e3
  exact hne e3
end
end Go.Proofs.Ytogijfebfffobaa

namespace Go.Proofs.Ytogijfebfffobaa
open Go.RowKit Go.Maps

/-! ### lists that rise -/

/-- Each is less than the one behind it. -/
def Rising (s : List Int) : Prop := s.Pairwise (· < ·)

theorem Rising.nodup {s : List Int} (h : Rising s) : s.Nodup := List.Pairwise.imp (fun h e => by omega) h

theorem Rising.snoc {s : List Int} (h : Rising s) {x : Int} (hx : ∀ y ∈ s, y < x) : Rising (s ++ [x]) := by
  refine List.pairwise_append.2 ⟨h, by simp, ?_⟩
  intro a ha b hb
  simp at hb
  subst hb
  exact hx a ha

theorem Rising.filter {s : List Int} (h : Rising s) (p : Int → Bool) : Rising (s.filter p) := List.Pairwise.filter p h

theorem Rising.len : ∀ {s : List Int} {a b : Int}, Rising s → (∀ x ∈ s, a ≤ x ∧ x < b) → a ≤ b → (s.length : Int) ≤ b - a
  | [], a, b, _, _, hab => by simp; omega
  | x :: s, a, b, h, hx, hab => by
    have h0 := hx x (by simp)
    have h1 := List.pairwise_cons.1 h
    have := Rising.len (s := s) (a := x + 1) (b := b) h1.2 (fun y hy => ⟨by have := h1.1 y hy; omega, (hx y (by simp [hy])).2⟩) (by omega)
    simp
    omega

/-- A list without repeats that has just the members of one that rises, sorted, is that one. -/
theorem sort_rising {ss s : List Int} (hn : ss.Nodup) (hs : Rising s) (hm : ∀ x, x ∈ ss ↔ x ∈ s) : ss.mergeSort (fun x y => decide (x ≤ y)) = s := by
  have hp : ss.Perm s := (List.perm_ext_iff_of_nodup hn hs.nodup).2 hm
  refine List.Perm.eq_of_pairwise (le := fun a b : Int => decide (a ≤ b) = true) (fun a b _ _ h1 h2 => by simp at h1 h2; omega) (List.pairwise_mergeSort (fun a b c h1 h2 => by simp at *; omega) (fun a b => by simp; omega) ss) (hs.imp (fun h => by simp; omega)) ((List.mergeSort_perm ss _).trans hp)

/-! ### the keys of a map -/

theorem key_law : Keyed Try.prog 3 := int_keyed Try.underlying3

theorem own_tight {P : Program} {k : TypeId} {R : Value → Option (DataW Unit × List MemPlace)} {w : World} {b n : Nat} {D : DataW Unit} (h : w.ownsMap P k R b n D) : w.ownsMap P k R b (Maps.size D) D := by
  obtain ⟨es, clock, hb, F, hs, rfl⟩ := h
  exact ⟨es, clock, hb, F, by simp [Maps.size, length_sorted], rfl⟩

/-- The number of a key. -/
def litInt : Lit → Int
  | .int _ x => x
  | _ => 0

theorem keys_int {w : World} {R : Value → Option (DataW Unit × List MemPlace)} {b n : Nat} {D : DataW Unit} (h : w.ownsMap Try.prog 3 R b n D) : ∃ es, D = .map es ∧ es.Pairwise (fun p q => p.1 ≠ q.1) ∧ ∀ p ∈ es, ∃ x, p.1 = .int .i64 x := by
  obtain ⟨es, hD, hpw, _⟩ := h.entries key_law
  obtain ⟨es', hD', hko⟩ := h.keysOf
  obtain rfl : es = es' := by rw [hD] at hD'; simpa using hD'
  refine ⟨es, hD, hpw, fun p hp => ?_⟩
  obtain ⟨v, hv⟩ := hko p hp
  obtain ⟨x, _, hx, _⟩ := Maps.keyOf_int_inv Try.underlying3 hv
  exact ⟨x, hx⟩

theorem has_int {es : List (Lit × DataW Unit)} (hk : ∀ p ∈ es, ∃ x, p.1 = .int .i64 x) (x : Int) : Maps.has (.map es) (.int .i64 x) = true ↔ x ∈ es.map fun p => litInt p.1 := by
  rw [Maps.has_eq, List.any_eq_true, List.mem_map]
  constructor
  · rintro ⟨p, hp, hs⟩
    obtain ⟨a, ha⟩ := hk p hp
    rw [ha] at hs
    exact ⟨p, hp, by rw [ha]; simpa [Lit.sameKey, litInt] using hs⟩
  · rintro ⟨p, hp, rfl⟩
    obtain ⟨a, ha⟩ := hk p hp
    exact ⟨p, hp, by rw [ha]; simp [Lit.sameKey, litInt]⟩

theorem size_labels {w : World} {R : Value → Option (DataW Unit × List MemPlace)} {b n : Nat} {D : DataW Unit} {s : List Int} (h : w.ownsMap Try.prog 3 R b n D) (hs : Rising s) (hh : ∀ x : Int, Maps.has D (.int .i64 x) = decide (x ∈ s)) : Maps.size D = s.length := by
  obtain ⟨es, rfl, hpw, hk⟩ := keys_int h
  have hn : (es.map fun p => litInt p.1).Nodup := by
    refine List.pairwise_map.2 (hpw.imp_of_mem fun {p q} hp hq hne e => hne ?_)
    obtain ⟨a, ha⟩ := hk p hp
    obtain ⟨c, hc⟩ := hk q hq
    rw [ha, hc] at e ⊢
    simp only [litInt] at e
    rw [e]
  have hp : (es.map fun p => litInt p.1).Perm s := (List.perm_ext_iff_of_nodup hn hs.nodup).2 fun x => by
    rw [← has_int hk x, hh x]; simp
  have := hp.length_eq
  rw [Maps.size_eq]
  simpa using this

theorem has_put_int {D : DataW Unit} (hD : IsMap D) {s : List Int} (hh : ∀ x : Int, Maps.has D (.int .i64 x) = decide (x ∈ s)) (l : Int) (d : DataW Unit) (x : Int) : Maps.has (D.put (.int .i64 l) d) (.int .i64 x) = decide (x ∈ s ++ [l]) := by
  by_cases hx : x = l
  · subst hx
    rw [Maps.has_put_same hD (by simp [WideAt.IsKeyLit])]
    simp
  · rw [Maps.has_put_other (by simpa using hx), hh x]
    simp [hx]

theorem has_del_int {D : DataW Unit} {s : List Int} (hh : ∀ x : Int, Maps.has D (.int .i64 x) = decide (x ∈ s)) (l : Int) (x : Int) : Maps.has (D.del (.int .i64 l)) (.int .i64 x) = decide (x ∈ s.filter (fun y => !(y == l))) := by
  by_cases hx : x = l
  · subst hx
    rw [Maps.has_del_same]
    simp
  · rw [Maps.has_del_other (by simpa using hx), hh x]
    simp [hx]

/-! ### worlds that part in some blocks -/

/-- Nothing but the blocks of 'S', and new ones, has turned. -/
structure Turn (S : List Nat) (w w' : World) : Prop where
  os : w'.os = w.os
  tape : w'.tape = w.tape
  output : w'.output = w.output
  size : w.heap.size ≤ w'.heap.size
  block : ∀ k, k < w.heap.size → k ∉ S → w'.heap[k]? = w.heap[k]?

theorem Turn.refl (S : List Nat) (w : World) : Turn S w w := ⟨rfl, rfl, rfl, Nat.le_refl _, fun _ _ _ => rfl⟩
theorem Turn.trans {S : List Nat} {a b c : World} (h : Turn S a b) (k : Turn S b c) : Turn S a c :=
  ⟨k.os.trans h.os, k.tape.trans h.tape, k.output.trans h.output, Nat.le_trans h.size k.size, fun i hi hne => (k.block i (Nat.lt_of_lt_of_le hi h.size) hne).trans (h.block i hi hne)⟩
theorem Turn.of_below {S : List Nat} {a b : World} (h : Below a.heap.size a b) : Turn S a b := ⟨h.os, h.tape, h.output, h.size, fun k hk _ => h.block k hk⟩
theorem Turn.of_grown {S : List Nat} {a b : World} {r : Nat} (h : a.grownBy b (some r)) (hr : r ∈ S) : Turn S a b :=
  ⟨h.os, h.tape, h.output, h.size, fun k hk hne => h.block k hk (fun e => hne (by injection e with e; subst e; exact hr))⟩
theorem Turn.drewN {S : List Nat} {a b : World} (h : Turn S a b) (n : Nat) : Turn S a (b.drewN n) := ⟨h.os, h.tape, h.output, h.size, h.block⟩
theorem Turn.bel {S : List Nat} {B : Nat} {a w w' : World} (h : Below B a w) (hB : B ≤ a.heap.size) (ht : Turn S w w') (hS : ∀ k ∈ S, B ≤ k) : Below B a w' :=
  ⟨ht.os.trans h.os, ht.tape.trans h.tape, ht.output.trans h.output, Nat.le_trans h.size ht.size, fun k hk =>
    (ht.block k (Nat.lt_of_lt_of_le hk (Nat.le_trans hB h.size)) (fun hm => by have := hS k hm; omega)).trans (h.block k hk)⟩

theorem upd_set_p (w : World) (r k : Nat) (u : Value) : w.grownBy (w.setCell ⟨r, k, none⟩ u) (some r) :=
  ⟨rfl, rfl, rfl, by simp [World.setCell], fun j _ hj => Below.heap_setCell _ _ _ _ (fun e => hj (by rw [e]))⟩

end Go.Proofs.Ytogijfebfffobaa

namespace Go.Proofs.Ytogijfebfffobaa
set_option maxRecDepth 100000

/-- The cells of a value of such a type; none: it isn't of that shape. -/
def cellsE (P : Program) : Nat → TypeId → List Value → Option (List Value)
  | 0, _, _ => none
  | d + 1, t, cs =>
    match P.underlying t with
    | some .bool => (match cs with | [.bool b] => if P.cellsOf t = 1 then some [.bool b] else none | _ => none)
    | some (.int q) => (match cs with | [.int k n] => if k = q ∧ P.cellsOf t = 1 then some [.int k n] else none | _ => none)
    | some .string => (match cs with | [.string s] => if P.cellsOf t = 1 then some [.string s] else none | _ => none)
    | some (.array n e) => if cs.length = P.cellsOf t then ((List.range n).mapM fun i => cellsE P d e ((cs.drop (i * P.cellsOf e)).take (P.cellsOf e))).bind fun ls => if ls.flatten.length = P.cellsOf t then some ls.flatten else none else none
    | some (.struct fs) => if cs.length = P.cellsOf t then (fs.toList.mapM fun f => cellsE P d f.type ((cs.drop f.offset).take (P.cellsOf f.type))).bind fun ls => if ls.flatten.length = P.cellsOf t then some ls.flatten else none else none
    | _ => none

section
variable {P : Program}
theorem cellsE_len {D : Nat} {t : TypeId} {cs l : List Value} (h : cellsE P D t cs = some l) : l.length = P.cellsOf t ∧ cs.length = P.cellsOf t := by
  cases D with
  | zero => simp [cellsE] at h
  | succ D =>
    unfold cellsE at h
    split at h
    · split at h
      · split at h
        · cases h; rename_i hc; exact ⟨hc.symm, hc.symm⟩
        · cases h
      · cases h
    · split at h
      · split at h
        · cases h; rename_i hc; exact ⟨hc.2.symm, hc.2.symm⟩
        · cases h
      · cases h
    · split at h
      · split at h
        · cases h; rename_i hc; exact ⟨hc.symm, hc.symm⟩
        · cases h
      · cases h
    · split at h
      · rename_i hc
        simp only [Option.bind_eq_some_iff] at h
        obtain ⟨ls, _, h2⟩ := h
        split at h2
        · rename_i hf; cases h2; exact ⟨hf, hc⟩
        · cases h2
      · cases h
    · split at h
      · rename_i hc
        simp only [Option.bind_eq_some_iff] at h
        obtain ⟨ls, _, h2⟩ := h
        split at h2
        · rename_i hf; cases h2; exact ⟨hf, hc⟩
        · cases h2
      · cases h
    · cases h

/-- What is compared: two values of one type with these cells. -/
def EqE (P : Program) (dd : Nat) (e : TypeId) : Prop :=
  ∀ (w : World) (D D' : Nat) (a b : Value) (la lb : List Value), a.formed P e = true → b.formed P e = true → cellsE P D e a.cells.toList = some la → cellsE P D' e b.cells.toList = some lb →
    ∃ r : Bool, (Op.equalIn dd e a b).run P w = .ok r w ∧ (r = true ↔ la = lb)

/-- The part of a value that is of such a type. -/
theorem part_E {e : TypeId} {D off : Nat} {xs : Array Value} {la : List Value} (w : World) (h : cellsE P D e ((xs.toList.drop off).take (P.cellsOf e)) = some la) :
    ∃ a, (part e xs off).run P w = .ok a w ∧ a.formed P e = true ∧ a.cells.toList = (xs.toList.drop off).take (P.cellsOf e) := by
  have hlen := (cellsE_len h).2
  have hl : (xs.extract off (off + P.cellsOf e)).toList = (xs.toList.drop off).take (P.cellsOf e) := by
    rw [Array.toList_extract]
    simp [List.extract]
  have hs : (xs.extract off (off + P.cellsOf e)).size = P.cellsOf e := by rw [← Array.length_toList, hl, hlen]
  cases D with
  | zero => simp [cellsE] at h
  | succ D =>
    unfold cellsE at h
    split at h
    · rename_i hu
      split at h
      · rename_i b hc
        exact ⟨.bool b, run_part_plain w (by simp [Program.plainKey, hu]) (getElem?_of_chunk hc), by simp [Value.formed, hu], by rw [hc]; rfl⟩
      · cases h
    · rename_i q hu
      split at h
      · rename_i k n hc
        exact ⟨.int k n, run_part_plain w (by simp [Program.plainKey, hu]) (getElem?_of_chunk hc), by simp [Value.formed, hu], by rw [hc]; rfl⟩
      · cases h
    · rename_i hu
      split at h
      · rename_i s hc
        exact ⟨.string s, run_part_plain w (by simp [Program.plainKey, hu]) (getElem?_of_chunk hc), by simp [Value.formed, hu], by rw [hc]; rfl⟩
      · cases h
    · rename_i n e' hu
      obtain ⟨i, hi⟩ := info_of_underlying hu
      exact ⟨.agg (xs.extract off (off + P.cellsOf e)), by simp [part, isAgg, run_underlying hu, run_sizeOf w hi], by simp [Value.formed, hu, hs], hl⟩
    · rename_i fs hu
      obtain ⟨i, hi⟩ := info_of_underlying hu
      exact ⟨.agg (xs.extract off (off + P.cellsOf e)), by simp [part, isAgg, run_underlying hu, run_sizeOf w hi], by simp [Value.formed, hu, hs], hl⟩
    · cases h

theorem app_iff {a b c d : List Value} (h : a.length = b.length) : a ++ c = b ++ d ↔ a = b ∧ c = d :=
  ⟨fun e => List.append_inj e h, fun ⟨e1, e2⟩ => by rw [e1, e2]⟩

theorem step_E {e : TypeId} {dd : Nat} (IH : EqE P dd e) {D D' off : Nat} {xs ys : Array Value} {la lb : List Value} (w : World)
    (ha : cellsE P D e ((xs.toList.drop off).take (P.cellsOf e)) = some la) (hb : cellsE P D' e ((ys.toList.drop off).take (P.cellsOf e)) = some lb) :
    ∃ a b r, (part e xs off).run P w = .ok a w ∧ (part e ys off).run P w = .ok b w ∧ (Op.equalIn dd e a b).run P w = .ok r w ∧ (r = true ↔ la = lb) ∧ la.length = lb.length := by
  obtain ⟨a, p1, f1, c1⟩ := part_E w ha
  obtain ⟨b, p2, f2, c2⟩ := part_E w hb
  obtain ⟨r, hr, hiff⟩ := IH w D D' a b la lb f1 f2 (by rw [c1]; exact ha) (by rw [c2]; exact hb)
  exact ⟨a, b, r, p1, p2, hr, hiff, by rw [(cellsE_len ha).1, (cellsE_len hb).1]⟩

theorem fields_E (dd : Nat) (xs ys : Array Value) {D D' : Nat} (w : World) : ∀ (fs : List Field) (us vs : List (List Value)), (∀ f ∈ fs, f.name ≠ "_" ∧ EqE P dd f.type) →
    fs.mapM (fun f => cellsE P D f.type ((xs.toList.drop f.offset).take (P.cellsOf f.type))) = some us → fs.mapM (fun f => cellsE P D' f.type ((ys.toList.drop f.offset).take (P.cellsOf f.type))) = some vs →
    ∃ r : Bool, (Op.eqFields dd xs ys fs).run P w = .ok r w ∧ (r = true ↔ us.flatten = vs.flatten)
  | [], us, bs, _, ha, hb => by
    simp at ha hb
    subst ha; subst hb
    exact ⟨true, by simp [Op.eqFields], by simp⟩
  | f :: fs, us, bs, hall, ha, hb => by
    rw [List.mapM_cons] at ha hb
    simp only [bind, Option.bind_eq_some_iff, pure, Option.some.injEq] at ha hb
    obtain ⟨la, ha1, us', ha2, rfl⟩ := ha
    obtain ⟨lb, hb1, vs', hb2, rfl⟩ := hb
    obtain ⟨hn, hp⟩ := hall f (by simp)
    obtain ⟨a, b, r, p1, p2, p3, hiff, hlen⟩ := step_E hp w ha1 hb1
    obtain ⟨r', hr', hiff'⟩ := fields_E dd xs ys w fs us' vs' (fun g hg => hall g (by simp [hg])) ha2 hb2
    simp only [Op.eqFields, hn, ne_eq, not_false_eq_true, if_true, Sem.run_bind, p1, p2, p3, Result.andThen_ok, List.flatten_cons, app_iff hlen]
    cases r
    · exact ⟨false, by simp, by simp; intro e; exact absurd (hiff.2 e) (by simp)⟩
    · exact ⟨r', by simpa using hr', by rw [hiff']; simp [hiff.1 rfl]⟩

theorem items_E (dd : Nat) {e : TypeId} (IH : EqE P dd e) (xs ys : Array Value) {D D' : Nat} (w : World) : ∀ (is : List Nat) (us vs : List (List Value)),
    is.mapM (fun i => cellsE P D e ((xs.toList.drop (i * P.cellsOf e)).take (P.cellsOf e))) = some us → is.mapM (fun i => cellsE P D' e ((ys.toList.drop (i * P.cellsOf e)).take (P.cellsOf e))) = some vs →
    ∃ r : Bool, (Op.eqItems dd e (P.cellsOf e) xs ys is).run P w = .ok r w ∧ (r = true ↔ us.flatten = vs.flatten)
  | [], us, bs, ha, hb => by
    simp at ha hb
    subst ha; subst hb
    exact ⟨true, by simp [Op.eqItems], by simp⟩
  | i :: is, us, bs, ha, hb => by
    rw [List.mapM_cons] at ha hb
    simp only [bind, Option.bind_eq_some_iff, pure, Option.some.injEq] at ha hb
    obtain ⟨la, ha1, us', ha2, rfl⟩ := ha
    obtain ⟨lb, hb1, vs', hb2, rfl⟩ := hb
    obtain ⟨a, b, r, p1, p2, p3, hiff, hlen⟩ := step_E IH w ha1 hb1
    obtain ⟨r', hr', hiff'⟩ := items_E dd IH xs ys w is us' vs' ha2 hb2
    simp only [Op.eqItems, Sem.run_bind, p1, p2, p3, Result.andThen_ok, List.flatten_cons, app_iff hlen]
    cases r
    · exact ⟨false, by simp, by simp; intro e; exact absurd (hiff.2 e) (by simp)⟩
    · exact ⟨r', by simpa using hr', by rw [hiff']; simp [hiff.1 rfl]⟩

/-- The comparison at a type of such a shape. -/
theorem equal_E (d : Nat) : ∀ (m : Nat) (t : TypeId), P.keyTypeAt m t = true → EqE P (d + m) t
  | 0, _, h => by simp [Program.keyTypeAt] at h
  | m + 1, t, hk => by
    intro w D D' x y lx ly fx fy hx hy
    unfold Program.keyTypeAt at hk
    cases D with
    | zero => simp [cellsE] at hx
    | succ D =>
    cases D' with
    | zero => simp [cellsE] at hy
    | succ D' =>
    unfold cellsE at hx hy
    cases hu : P.underlying t with
    | none => simp [hu] at hk
    | some kd =>
      cases kd
      case bool =>
        simp only [hu] at hx hy
        split at hx
        · rename_i a ha
          split at hy
          · rename_i b hb
            by_cases c1 : P.cellsOf t = 1
            · rw [if_pos c1] at hx hy
              cases hx; cases hy
              have ex : x = .bool a := by cases x <;> simp_all [Value.cells, Value.formed]
              have ey : y = .bool b := by cases y <;> simp_all [Value.cells, Value.formed]
              rw [ex, ey]
              exact ⟨a == b, run_equalIn_bool w (d + m) t a b hu, by simp⟩
            · rw [if_neg c1] at hx
              cases hx
          · cases hy
        · cases hx
      case int q =>
        simp only [hu] at hx hy
        split at hx
        · rename_i k a ha
          split at hy
          · rename_i k' b hb
            split at hx
            · rename_i c1
              split at hy
              · rename_i c2
                cases hx; cases hy
                obtain ⟨rfl, _⟩ := c1
                obtain ⟨rfl, _⟩ := c2
                have ex : x = .int k' a := by cases x <;> simp_all [Value.cells, Value.formed]
                have ey : y = .int k' b := by cases y <;> simp_all [Value.cells, Value.formed]
                rw [ex, ey]
                exact ⟨a == b, run_equalIn_int w (d + m) t k' k' a b hu, by simp⟩
              · cases hy
            · cases hx
          · cases hy
        · cases hx
      case string =>
        simp only [hu] at hx hy
        split at hx
        · rename_i a ha
          split at hy
          · rename_i b hb
            by_cases c1 : P.cellsOf t = 1
            · rw [if_pos c1] at hx hy
              cases hx; cases hy
              have ex : x = .string a := by cases x <;> simp_all [Value.cells, Value.formed]
              have ey : y = .string b := by cases y <;> simp_all [Value.cells, Value.formed]
              rw [ex, ey]
              refine ⟨a.toList == b.toList, run_equalIn_string w (d + m) t a b hu, ?_⟩
              rw [beq_iff_eq, ByteArray.toList_eq, ByteArray.toList_eq]
              constructor
              · intro h
                have e : a = b := by
                  obtain ⟨⟨a⟩⟩ := a
                  obtain ⟨⟨b⟩⟩ := b
                  simp at h
                  rw [h]
                rw [e]
              · intro h
                cases h
                rfl
            · rw [if_neg c1] at hx
              cases hx
          · cases hy
        · cases hx
      case array n e =>
        simp only [hu] at hk hx hy
        cases x <;> simp only [Value.formed, hu, Bool.false_eq_true] at fx
        cases y <;> simp only [Value.formed, hu, Bool.false_eq_true] at fy
        rename_i xs ys
        split at hx
        · split at hy
          · simp only [Option.bind_eq_some_iff, Value.cells] at hx hy
            obtain ⟨us, ha, ga⟩ := hx
            obtain ⟨vs, hb, gb⟩ := hy
            split at ga
            · split at gb
              · cases ga; cases gb
                have hpe : ∃ i, P.info? e = some i := by
                  cases m with
                  | zero => simp [Program.keyTypeAt] at hk
                  | succ m' =>
                    unfold Program.keyTypeAt at hk
                    cases hue : P.underlying e with
                    | none => simp [hue] at hk
                    | some _ => exact info_of_underlying hue
                obtain ⟨i, hi⟩ := hpe
                obtain ⟨r, hr, hiff⟩ := items_E (d + m) (equal_E d m e hk) xs ys w (List.range n) us vs ha hb
                exact ⟨r, by rw [show d + (m + 1) = (d + m) + 1 from rfl, run_equalIn_array w (d + m) xs ys hu hi]; exact hr, hiff⟩
              · cases gb
            · cases ga
          · cases hy
        · cases hx
      case struct fs =>
        simp only [hu, Bool.and_eq_true, Bool.not_eq_true'] at hk hx hy
        cases x <;> simp only [Value.formed, hu, Bool.false_eq_true] at fx
        cases y <;> simp only [Value.formed, hu, Bool.false_eq_true] at fy
        rename_i xs ys
        split at hx
        · split at hy
          · simp only [Option.bind_eq_some_iff, Value.cells] at hx hy
            obtain ⟨us, ha, ga⟩ := hx
            obtain ⟨vs, hb, gb⟩ := hy
            split at ga
            · split at gb
              · cases ga; cases gb
                have hfs : P.fieldsOf t = fs := by simp [Program.fieldsOf, hu]
                obtain ⟨r, hr, hiff⟩ := fields_E (d + m) xs ys w fs.toList us vs (fun f hf => by
                  have := Array.all_eq_true_iff_forall_mem.1 hk.1.1 f (Array.mem_toList_iff.1 hf)
                  simp only [Bool.and_eq_true, bne_iff_ne, ne_eq] at this
                  exact ⟨this.1, equal_E d m f.type this.2⟩) ha hb
                exact ⟨r, by rw [show d + (m + 1) = (d + m) + 1 from rfl, run_equalIn_struct w (d + m) t xs ys (by rw [hfs]; exact hu) hk.2, hfs]; exact hr, hiff⟩
              · cases gb
            · cases ga
          · cases hy
        · cases hx
      all_goals (simp [hu] at hk; done)

/-- Two aggregates of one shape: '==' tells whether their cells are the same. -/
theorem eql_E {t : TypeId} {m : Nat} (hm : m ≤ 10000) (hk : P.keyTypeAt m t = true) {xs ys la lb : List Value} {D : Nat} (fx : (Value.agg xs.toArray).formed P t = true) (fy : (Value.agg ys.toArray).formed P t = true) (hx : cellsE P D t xs = some la) (hy : cellsE P D t ys = some lb) (w : World) (c : Bool) (hc : c = true ↔ la = lb) :
    (binOp .eql t (.agg xs.toArray) (.agg ys.toArray)).run P w = .ok (.bool c) w ∧ (binOp .neq t (.agg xs.toArray) (.agg ys.toArray)).run P w = .ok (.bool (!c)) w := by
  obtain ⟨r, hr, hiff⟩ := equal_E (P := P) (10000 - m) m t hk w D D (.agg xs.toArray) (.agg ys.toArray) la lb fx fy (by simpa [Value.cells] using hx) (by simpa [Value.cells] using hy)
  rw [show 10000 - m + m = 10000 by omega] at hr
  have e : r = c := Bool.eq_iff_iff.2 (hiff.trans hc.symm)
  subst e
  constructor
  · rw [run_eql_struct, hr]; rfl
  · rw [run_neq_struct, hr]; rfl
end
theorem exec_eqA {P : Program} {T : TypeId} {o : Oper} {a : Act} {x y : Operand} {xs ys : List Value} {c : Bool} (ho : o.op = .binOp .eql T x y T) (hx : a.eval x = .agg xs.toArray) (hy : a.eval y = .agg ys.toArray) (hg : P.eqGuardType P.depth T = false)
    (hr : ∀ w, (binOp .eql T (.agg xs.toArray) (.agg ys.toArray)).run P w = .ok (.bool c) w) (w : World) : (execOp a.eval o).run P w = .ok (.value (.bool c)) w := by
  unfold execOp
  simp only [ho, hx, hy]
  simp only [Sem.run_bind, run_eqGuard_agg _ _ _ _ _ _ _ hg, Result.andThen_ok, hr, Sem.run_pure]
theorem seq_eqA {P : Program} {ops : Array Oper} {Q : Exit → Act → World → Prop} {S : World → Prop} {i : Nat} {r : List (Nat × Bool)} {a : Act} {w : World} {o : Oper} {T : TypeId} {x y : Operand} {xs ys : List Value} {c : Bool} (ho : ops.toList[i]? = some o) (hw : Region.wanted o (yielded ops a.tmps) = true)
    (hop : o.op = .binOp .eql T x y T) (hx : a.eval x = .agg xs.toArray) (hy : a.eval y = .agg ys.toArray) (hg : P.eqGuardType P.depth T = false) (hr : ∀ w, (binOp .eql T (.agg xs.toArray) (.agg ys.toArray)).run P w = .ok (.bool c) w)
    (h : wpSeq P ops Q S r (a.put o.dst (.bool c)) w) : wpSeq P ops Q S ((i, true) :: r) a w :=
  seq_pure ho hw (fun W _ => exec_eqA hop hx hy hg hr W) h
theorem exec_neA {P : Program} {T : TypeId} {o : Oper} {a : Act} {x y : Operand} {xs ys : List Value} {c : Bool} (ho : o.op = .binOp .neq T x y T) (hx : a.eval x = .agg xs.toArray) (hy : a.eval y = .agg ys.toArray) (hg : P.eqGuardType P.depth T = false)
    (hr : ∀ w, (binOp .neq T (.agg xs.toArray) (.agg ys.toArray)).run P w = .ok (.bool c) w) (w : World) : (execOp a.eval o).run P w = .ok (.value (.bool c)) w := by
  unfold execOp
  simp only [ho, hx, hy]
  simp only [Sem.run_bind, run_eqGuard_agg _ _ _ _ _ _ _ hg, Result.andThen_ok, hr, Sem.run_pure]
theorem seq_neA {P : Program} {ops : Array Oper} {Q : Exit → Act → World → Prop} {S : World → Prop} {i : Nat} {r : List (Nat × Bool)} {a : Act} {w : World} {o : Oper} {T : TypeId} {x y : Operand} {xs ys : List Value} {c : Bool} (ho : ops.toList[i]? = some o) (hw : Region.wanted o (yielded ops a.tmps) = true)
    (hop : o.op = .binOp .neq T x y T) (hx : a.eval x = .agg xs.toArray) (hy : a.eval y = .agg ys.toArray) (hg : P.eqGuardType P.depth T = false) (hr : ∀ w, (binOp .neq T (.agg xs.toArray) (.agg ys.toArray)).run P w = .ok (.bool c) w)
    (h : wpSeq P ops Q S r (a.put o.dst (.bool c)) w) : wpSeq P ops Q S ((i, true) :: r) a w :=
  seq_pure ho hw (fun W _ => exec_neA hop hx hy hg hr W) h
end Go.Proofs.Ytogijfebfffobaa

namespace Go.Proofs.Ytogijfebfffobaa
open Go.RowKit

/-- Values laid over a list from a place on. -/
def setL : List Value → Nat → List Value → List Value
  | xs, _, [] => xs
  | xs, o, v :: r => setL (xs.set o v) (o + 1) r
theorem setL_mid : ∀ (vs p m s : List Value), m.length = vs.length → setL (p ++ (m ++ s)) p.length vs = p ++ (vs ++ s)
  | [], p, m, s, h => by
    obtain rfl : m = [] := List.eq_nil_of_length_eq_zero (by simpa using h)
    rfl
  | v :: r, p, [], s, h => by simp at h
  | v :: r, p, y :: m, s, h => by
    have e : (p ++ (y :: m ++ s)).set p.length v = (p ++ [v]) ++ (m ++ s) := by
      rw [List.set_append_right _ _ (Nat.le_refl _), Nat.sub_self]
      simp
    rw [setL, e]
    have := setL_mid r (p ++ [v]) m s (by simpa using h)
    rw [List.length_append, List.length_singleton] at this
    rw [this]
    simp
theorem owns_setL {base g n cap size : Nat} {T : TypeId} : ∀ (vs : List Value) (o : Nat) (w : World) (xs : List Value), w.ownsRow base T size (.slice (some ⟨g, 0, none⟩) n cap) n xs →
    (w.setCells g o vs).ownsRow base T size (.slice (some ⟨g, 0, none⟩) n cap) n (setL xs o vs) ∧ w.grownBy (w.setCells g o vs) (some g)
  | [], _, w, _, h => ⟨h, World.grownBy.refl w _⟩
  | v :: r, o, w, xs, h => by
    have s1 := World.ownsRow.stored h o v
    have s2 := owns_setL r (o + 1) _ _ s1.1
    exact ⟨s2.1, s1.2.trans s2.2⟩
section
variable {α : Type} {enc : α → List Value} {k base c g : Nat} {w : World} {T : TypeId} {l : List α}
theorem flat_set15 (hk : ∀ x, (enc x).length = k) (l : List α) {i : Nat} (hi : i < l.length) (x : α) : setL (l.flatMap enc) (i * k) (enc x) = (l.set i x).flatMap enc := by
  have e1 : l = l.take i ++ l[i] :: l.drop (i + 1) := by rw [List.getElem_cons_drop, List.take_append_drop]
  have e2 : l.set i x = l.take i ++ x :: l.drop (i + 1) := List.set_eq_take_append_cons_drop.trans (by rw [if_pos hi])
  have h1 : l.flatMap enc = (l.take i).flatMap enc ++ (enc l[i] ++ (l.drop (i + 1)).flatMap enc) := by
    conv => lhs; rw [e1]
    rw [List.flatMap_append, List.flatMap_cons]
  have hl : ((l.take i).flatMap enc).length = i * k := by rw [flat_length hk, List.length_take, Nat.min_eq_left (by omega)]
  rw [h1, ← hl, setL_mid _ _ _ _ (by rw [hk, hk]), e2]
  simp
/-- One value of such a slice is laid anew. -/
theorem accr_put (hk : ∀ x, (enc x).length = k) (h : AccR enc k w base T (some ⟨g, 0, none⟩) c l) {i : Nat} (hi : i < l.length) (x : α) :
    AccR enc k (w.setCells g (i * k) (enc x)) base T (some ⟨g, 0, none⟩) c (l.set i x) ∧ w.grownBy (w.setCells g (i * k) (enc x)) (some g) := by
  have s := owns_setL (enc x) (i * k) w _ h
  rw [flat_set15 hk l hi x] at s
  refine ⟨?_, s.2⟩
  unfold AccR
  rw [List.length_set]
  exact s.1
theorem accr_there (hk : ∀ x, (enc x).length = k) (h : AccR enc k w base T (some ⟨g, 0, none⟩) c l) {i : Nat} (hi : i < l.length) : w.there g (i * k) k := fun j hj => by
  refine ⟨?_, World.ownsRow.frozenAt h _⟩
  have hlt : i * k + j < (l.flatMap enc).length := by
    rw [flat_length hk]
    have : (i + 1) * k ≤ l.length * k := Nat.mul_le_mul_right _ hi
    rw [Nat.succ_mul] at this; omega
  rw [World.ownsRow.cellAt h _ (by rw [flat_length hk] at hlt; exact hlt), List.getElem?_eq_getElem hlt]
  rfl
theorem accr_addr15 {A : Option Addr} (h : AccR enc k w base T A c l) (h0 : 0 < l.length) : ∃ g, A = some ⟨g, 0, none⟩ := by
  rcases h.2 with ⟨_, hn⟩ | ⟨g, cap, cur, hv, _⟩
  · omega
  · injection hv with e; exact ⟨g, e⟩
end
end Go.Proofs.Ytogijfebfffobaa
