/-
  Contracts of package graph: Reach. Condition: at most 2^30 links.
-/
import Derived.Test.YtkagfgnjfdlicaaGraphR
import Derived.Test.YtkagfgnjfdlicaaGraphD
namespace Go.Proofs.Ytkagfgnjfdlicaa
set_option maxRecDepth 100000
open Go.RowKit

theorem infoBoolG : (Try.prog.info? 4).map (fun i => (i.zero, i.size, i.bytes)) = some (some (.bool false), 1, 1) := by kernel_rfl
theorem make_bools (n : Nat) (hn : n ≤ 1099511627776) (W : World) : (Instr.makeSlice 48 (.int .i64 (n : Int)) (.int .i64 (n : Int))).run Try.prog W =
      .ok (.slice (some ⟨W.heap.size, 0, none⟩) n n) (W.alloc (.cells (Array.replicate n (Value.bool false)) 4)) := by
  have h := run_make_row' (P := Try.prog) 48 4 (.bool false) 1 Try.underlying48 infoBoolG rfl .i64 .i64 n (by omega) (by omega) W
  have hm : madeCells (Value.bool false).cells n = Array.replicate n (Value.bool false) := by
    apply Array.ext
    · simp [madeCells]
    · intro i h1 h2
      simp [madeCells, Value.cells, Nat.mod_one]
  rw [← hm]
  exact h
/-- Marks in a block. -/
def Mks (w : World) (q : Nat) (bs : List Bool) : Prop := Blk w q 4 (bs.map Value.bool)
theorem Mks.cell {w : World} {q : Nat} {bs : List Bool} (h : Mks w q bs) (x : Int) (h0 : 0 ≤ x) (hx : x < bs.length) : w.cell? ⟨q, x.toNat, none⟩ = some (.bool (bat bs x)) := by
  have := Blk.cell h x.toNat
  rw [this, List.getElem?_map]
  have hk : x.toNat < bs.length := by omega
  simp [bat, List.getElem?_eq_getElem hk]
theorem Mks.set {w : World} {q : Nat} {bs : List Bool} (h : Mks w q bs) (k : Nat) : Mks (w.setCell ⟨q, k, none⟩ (.bool true)) q (bs.set k true) := by
  have := Blk.set h k (.bool true)
  unfold Mks
  rw [List.map_set]; exact this
/-- How many are not marked. -/
def cfW (w : World) (q : Nat) : Nat := match w.heap[q]? with
  | some (.cells cs _ _) => cs.toList.countP (fun v => match v with | .bool false => true | _ => false)
  | _ => 0
theorem Mks.count {w : World} {q : Nat} {bs : List Bool} (h : Mks w q bs) : cfW w q = bs.count false := by
  unfold cfW
  unfold Mks Blk at h
  rw [h]
  simp only
  rw [List.countP_map, List.count]
  congr 1
  funext b
  cases b <;> rfl
def lenS : Value → Nat
  | .slice _ n _ => n
  | _ => 0
/-- What Reach answers. -/
def RchPost (w : World) (n : Int) (L : List Lk) (a : Int) (e : Ending) (w' : World) : Prop :=
  Below w.heap.size w w' ∧ ((¬ (chk n L = 0 ∧ 0 ≤ a ∧ a < n) ∧ e = .returned (.slice none 0 0)) ∨
    (chk n L = 0 ∧ 0 ≤ a ∧ a < n ∧ ∃ (rb : Nat) (bs : List Bool), e = .returned (.slice (some ⟨rb, 0, none⟩) bs.length bs.length) ∧ w.heap.size ≤ rb ∧ Mks w' rb bs ∧ (bs.length : Int) = n ∧ ∀ x : Int, 0 ≤ x → x < n → (bat bs x = true ↔ Rch L a x)))
theorem chk_zero {n : Int} {L : List Lk} (h : chk n L = 0) : 1 ≤ n ∧ n ≤ 16 ∧ L.length ≤ 64 ∧ netB n L = true := by
  unfold chk at h
  split at h
  · split at h
    · omega
    · split at h
      · rename_i h1 h2 h3; exact ⟨h1.1, h1.2, by omega, h3⟩
      · omega
  · omega
/-- What of a node's links is still to be followed. -/
def Pend (L : List Lk) (o : List Int) (i : Nat) (z : Lk) : Prop := ∃ k ∈ o.drop i, L.getD k.toNat default = z
theorem pend_start {n : Nat} {L : List Lk} {a : Int} {bs : List Bool} {left o : List Int} {x : Int} (h : Srch n L a bs left (fun z => z.f = x)) (ho : OutsOk L x o) : Srch n L a bs left (Pend L o 0) :=
  h.weaken fun z hz hf => by
    obtain ⟨k, hk, rfl⟩ := List.mem_iff_getElem.1 hz
    have e : L.getD k default = L[k] := by simp [List.getD_eq_getElem?_getD, List.getElem?_eq_getElem hk]
    exact .inl ⟨(k : Int), by rw [List.drop_zero]; exact (ho.mem _).2 ⟨k, hk, by rw [e]; exact hf, rfl⟩, by simpa using e⟩
theorem pend_step {n : Nat} {L : List Lk} {a : Int} {bs : List Bool} {left o : List Int} {i : Nat} (h : Srch n L a bs left (Pend L o i)) (hi : i < o.length) (ht : bat bs (L.getD (o[i]).toNat default).t = true) : Srch n L a bs left (Pend L o (i + 1)) :=
  h.weaken fun z _ hp => by
    obtain ⟨k, hk, e⟩ := hp
    rw [List.drop_eq_getElem_cons hi] at hk
    rcases List.mem_cons.1 hk with hk | hk
    · subst hk; subst e; exact .inr ht
    · exact .inl ⟨k, hk, e⟩
theorem pend_end {n : Nat} {L : List Lk} {a : Int} {bs : List Bool} {left o : List Int} {i : Nat} (h : Srch n L a bs left (Pend L o i)) (hi : o.length ≤ i) : Srch n L a bs left (fun _ => False) :=
  h.weaken fun z _ hp => by
    obtain ⟨k, hk, _⟩ := hp
    rw [List.drop_eq_nil_of_le hi] at hk; cases hk

end Go.Proofs.Ytkagfgnjfdlicaa
