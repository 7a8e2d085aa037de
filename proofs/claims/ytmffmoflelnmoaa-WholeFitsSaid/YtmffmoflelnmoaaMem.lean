/-
  What memory reads, in words of this text's own: a slice of bytes that reads as a list, and a block that holds just a list of bytes. No condition: these are definitions and their simplest consequences.
-/
import Derived.Test.YtmffmoflelnmoaaRows
import Derived.WalkKit
import Derived.ProofKit
import Derived.Below
import Derived.Lib.Hide
import Derived.Laws.CopyOwn
import Derived.Laws.BytesArg
import Derived.Deep.Draws
import Derived.Deep.QuietTactic
import Derived.BigQuiet
import Derived.RegionTactic
import Derived.LoopTactic
import Derived.IntWalk
import Derived.Deep.OwnRows
namespace Go.Proofs.Ytmffmoflelnmoaa
open Go.RowKit

/-- A byte as the model's cell. -/
def bv (b : UInt8) : Value := .int .u8 (b.toNat : Int)

/-- Block 'g' holds just these bytes (no spare room), and may be written. -/
def Own (w : World) (g : Nat) (l : List UInt8) : Prop := w.heap[g]? = some (.cells (l.map bv).toArray 5 (0, 0))

/-- The slice value '.slice a n _' reads as the bytes 'l'; where it has any, they lie in a block below 'B'. -/
def Bts (w : World) (B : Nat) (a : Option Addr) (n : Nat) (l : List UInt8) : Prop :=
  l.length = n ∧ (0 < n → ∃ b o : Nat, a = some ⟨b, o, none⟩ ∧ b < B ∧ ∀ (i : Nat) (h : i < l.length), w.cell? ⟨b, o + i, none⟩ = some (bv l[i]))

theorem add_plain (b o i : Nat) : (⟨b, o, none⟩ : Addr).add i = ⟨b, o + i, none⟩ := by
  unfold Addr.add; split <;> simp_all

theorem Own.lt {w : World} {g : Nat} {l : List UInt8} (h : Own w g l) : g < w.heap.size := by
  rcases Nat.lt_or_ge g w.heap.size with hlt | hge
  · exact hlt
  · unfold Own at h; rw [Array.getElem?_eq_none hge] at h; cases h

theorem Own.cell {w : World} {g : Nat} {l : List UInt8} (h : Own w g l) (i : Nat) (hi : i < l.length) : w.cell? ⟨g, i, none⟩ = some (bv l[i]) := by
  have := cell_of_row w g i _ _ _ h
  rw [this]; simp [hi]

theorem Own.frozen {w : World} {g : Nat} {l : List UInt8} (h : Own w g l) (i : Nat) : w.frozen? ⟨g, i, none⟩ = false := by
  unfold Own at h; simp [World.frozen?, h]

theorem Own.same {w w' : World} {g : Nat} {l : List UInt8} (h : Own w g l) (hh : w'.heap[g]? = w.heap[g]?) : Own w' g l := hh.trans h

theorem Own.below {w w' : World} {B g : Nat} {l : List UInt8} (h : Own w g l) (hb : Below B w w') (hg : g < B) : Own w' g l := h.same (hb.block g hg)

theorem Own.bts {w : World} {B g : Nat} {l : List UInt8} (h : Own w g l) (hg : g < B) : Bts w B (some ⟨g, 0, none⟩) l.length l :=
  ⟨rfl, fun _ => ⟨g, 0, rfl, hg, fun i hi => by simpa using h.cell i hi⟩⟩

/-- A part of such a block. -/
theorem Own.part {w : World} {B g : Nat} {l : List UInt8} (h : Own w g l) (hg : g < B) (i j : Nat) (hij : i ≤ j) (hj : j ≤ l.length) :
    Bts w B (some ⟨g, i, none⟩) (j - i) ((l.drop i).take (j - i)) := by
  refine ⟨by simp; omega, fun _ => ⟨g, i, rfl, hg, fun k hk => ?_⟩⟩
  have hk' : k < j - i := by simp at hk; omega
  rw [h.cell (i + k) (by omega)]
  simp

theorem Bts.nil {w : World} {B : Nat} {a : Option Addr} : Bts w B a 0 [] := ⟨rfl, fun h => absurd h (by omega)⟩

theorem Bts.zero {w : World} {B : Nat} {a : Option Addr} {l : List UInt8} (h : Bts w B a 0 l) : l = [] := List.eq_nil_of_length_eq_zero h.1

theorem Bts.keep {w w' : World} {B n : Nat} {a : Option Addr} {l : List UInt8} (h : Bts w B a n l) (hk : ∀ b, b < B → w'.heap[b]? = w.heap[b]?) : Bts w' B a n l :=
  ⟨h.1, fun hn => by
    obtain ⟨b, o, e, hb, hc⟩ := h.2 hn
    exact ⟨b, o, e, hb, fun i hi => (World.cell?_of_block (w := w) (hk b hb)).trans (hc i hi)⟩⟩

theorem Bts.below {w w' : World} {B n : Nat} {a : Option Addr} {l : List UInt8} (h : Bts w B a n l) (hb : Below B w w') : Bts w' B a n l := h.keep hb.block

theorem Bts.more {w : World} {B B' n : Nat} {a : Option Addr} {l : List UInt8} (h : Bts w B a n l) (hB : B ≤ B') : Bts w B' a n l :=
  ⟨h.1, fun hn => by
    obtain ⟨b, o, e, hb, hc⟩ := h.2 hn
    exact ⟨b, o, e, by omega, hc⟩⟩

/-- The front of bytes. -/
theorem Bts.front {w : World} {B n b o : Nat} {l : List UInt8} (h : Bts w B (some ⟨b, o, none⟩) n l) (i : Nat) (hi : i ≤ n) : Bts w B (some ⟨b, o, none⟩) i (l.take i) := by
  have hn := h.1
  refine ⟨by simp; omega, fun h0 => ?_⟩
  obtain ⟨b', o', e, hb, hc⟩ := h.2 (by omega)
  injection e with e; injection e with e1 e2; subst e1; subst e2
  refine ⟨b, o, rfl, hb, fun k hk => ?_⟩
  have hk' : k < i ∧ k < l.length := Nat.lt_min.1 (by simpa using hk)
  rw [hc k hk'.2]; simp
/-- The rest of bytes. -/
theorem Bts.rest {w : World} {B n b o : Nat} {l : List UInt8} (h : Bts w B (some ⟨b, o, none⟩) n l) (i : Nat) (hi : i ≤ n) : Bts w B (some ⟨b, o + i, none⟩) (n - i) (l.drop i) := by
  have hn := h.1
  refine ⟨by simp; omega, fun h0 => ?_⟩
  obtain ⟨b', o', e, hb, hc⟩ := h.2 (by omega)
  injection e with e; injection e with e1 e2; subst e1; subst e2
  refine ⟨b, o + i, rfl, hb, fun k hk => ?_⟩
  have hk' : k < l.length - i := by simpa using hk
  rw [Nat.add_assoc, hc (i + k) (by omega)]; simp

theorem Bts.drew {w : World} {B n : Nat} {a : Option Addr} {l : List UInt8} (h : Bts w B a n l) : Bts w.drew B a n l := h
theorem Bts.drewS {w : World} {n : Nat} {a : Option Addr} {l : List UInt8} (h : Bts w w.heap.size a n l) : Bts w.drew w.drew.heap.size a n l := h
theorem below_of_drew {w w' : World} (h : Below w.drew.heap.size w.drew w') : Below w.heap.size w w' := ⟨h.os, h.tape, h.output, h.size, h.block⟩

/-- What the walk asks of 'string(b)': the conversion of such a slice. -/
theorem Bts.text {P : Program} {w : World} {B n c : Nat} {a : Option Addr} {l : List UInt8} (h : Bts w B a n l) (src e dst : TypeId)
    (hs : P.underlying src = some (.slice e)) (he : P.underlying e = some (.int .u8)) (hd : P.underlying dst = some .string) :
    (convert src dst (.slice a n c)).run P w = .ok (.string ⟨l.toArray⟩) w := by
  rcases Nat.eq_zero_or_pos n with rfl | hn
  · obtain rfl := h.zero
    cases a with
    | none => exact run_convert_bytes_nil w src e hs he _ _ dst hd
    | some ad =>
      rw [run_convert_bytes_string w src dst e _ _ c hs he hd, run_bytesToString w ad 0 c [] (by simp [loadCells, loadCellsFrom])]
      rfl
  · obtain ⟨b, o, rfl, _, hc⟩ := h.2 hn
    have hx := run_convert_bytes_arg (P := P) w src e hs he b o n c (l.map fun x => (x.toNat : Int)) (by simpa using h.1) (fun i hi => by
      have hil : i < l.length := by rw [h.1]; exact hi
      rw [hc i hil]
      simp [bv, List.getD, hil]) dst hd
    rw [hx]
    have he : strOfNums (l.map fun x => (x.toNat : Int)) = ⟨l.toArray⟩ := by
      unfold strOfNums
      rw [List.map_map]
      have : ((fun n : Int => UInt8.ofNat n.toNat) ∘ fun x : UInt8 => (x.toNat : Int)) = id := by
        funext x; simp
      rw [this, List.map_id]
    rw [he]

/-- What a copy of such a slice into the front of a block leaves behind: the bytes, and behind them what was there; nothing else has turned. -/
theorem copy_front {P : Program} {W : World} {B n c : Nat} {a : Option Addr} {l : List UInt8} (h : Bts W B a n l) (dT sT ty elem : TypeId) (hu : P.underlying dT = some (.slice elem)) (hsz : (P.info? elem).map (·.size) = some 1)
    (g dLen dCap : Nat) (cur : List Value) (t : TypeId) (hg : W.heap[g]? = some (.cells cur.toArray t (0, 0))) (hd : n ≤ dLen) (hfit : n ≤ cur.length) :
    ∃ W2, (Builtin.copy_ #[dT, sT] ty #[.slice (some ⟨g, 0, none⟩) dLen dCap, .slice a n c]).run P W = .ok (.int .i64 (n : Int)) W2 ∧
      W2.heap[g]? = some (.cells (l.map bv ++ cur.drop n).toArray t (0, 0)) ∧ W2.heap.size = W.heap.size ∧ Below g W W2 := by
  have hn := h.1
  subst hn
  rcases Nat.eq_zero_or_pos l.length with h0 | h0
  · obtain rfl := List.eq_nil_of_length_eq_zero h0
    exact ⟨W, run_copy_none (P := P) W dT sT ty elem _ _ _ _ _ _ hu hsz (by simp), by simpa using hg, rfl, Below.refl _ _⟩
  · obtain ⟨b, o, rfl, _, hc⟩ := h.2 h0
    have hrun := run_copy_row (P := P) W dT sT ty elem g 0 dLen dCap ⟨b, o, none⟩ l.length c cur.toArray t (l.map bv) hu hsz hg (by simp [Nat.min_eq_left hd])
      (fun j v hj => by
        have hjl : j < l.length := by
          rcases Nat.lt_or_ge j l.length with h | h
          · exact h
          · rw [List.getElem?_eq_none (by simpa using h)] at hj; cases hj
        rw [add_plain, hc j hjl]
        simpa [hjl] using hj) (by simpa using hfit) (by intro v hv; obtain ⟨x, _, rfl⟩ := List.mem_map.1 hv; rfl)
    simp only [List.length_map] at hrun
    refine ⟨_, hrun, ?_, ?_, ?_⟩
    · rw [setRow_heap W g _ _ t _ hg]; simp
    · simp [World.setRow]
    · exact below_setRow (Below.refl _ _) (Nat.le_refl _) _

theorem own_alloc (w : World) (l : List UInt8) (cs : Array Value) (h : cs = (l.map bv).toArray) : Own (w.alloc (.cells cs 5)) w.heap.size l := by
  subst h; exact heap_alloc_new w _

theorem bel_drewN {B : Nat} {a w : World} (h : Below B a w) (n : Nat) : Below B a (w.drewN n) := ⟨h.os, h.tape, h.output, h.size, h.block⟩
/-- A call of a reader's method turns the reader alone. -/
theorem bel_upd {B r : Nat} {a w w' : World} (h : Below B a w) (hg : w.grownBy w' (some r)) (hB : B ≤ a.heap.size) (hr : B ≤ r) : Below B a w' :=
  h.grown hg (Nat.le_trans hB h.size) (fun k hk => by injection hk with hk; omega)
/-- A call that makes memory alone. -/
theorem bel_more {B : Nat} {a w w' : World} (h : Below B a w) (hB : B ≤ a.heap.size) (hb : Below w.heap.size w w') : Below B a w' := h.trans (hb.mono (Nat.le_trans hB h.size))
end Go.Proofs.Ytmffmoflelnmoaa
