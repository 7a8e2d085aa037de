/-
  Slices of whole numbers, and such that a call itself gathers. Condition of an append: at most 2^40 numbers.
-/
import Derived.Test.YtmffmoflelnmoaaRow
import Derived.Test.YtmffmoflelnmoaaBlk
namespace Go.Proofs.Ytmffmoflelnmoaa
open Go.RowKit

/-- A whole number's one cell. -/
def ei (x : Int) : List Value := [.int .i64 x]
theorem ei_length (x : Int) : (ei x).length = 1 := rfl
theorem ei_one (x : Int) : ∀ u ∈ ei x, u.oneCell' = true := by intro u hu; simp [ei] at hu; subst hu; rfl
theorem ei_flat (l : List Int) : l.flatMap ei = l.map (Value.int .i64) := by
  induction l with
  | nil => rfl
  | cons x l ih => rw [List.flatMap_cons, ih]; rfl
theorem infoInt : (Try.prog.info? 3).map (fun i => (i.zero, i.size, i.bytes)) = some (some (.int .i64 0), 1, 8) := by kernel_rfl

/-- Whole numbers that a call itself gathers. -/
def AccI (w : World) (base : Nat) (A : Option Addr) (c : Nat) (l : List Int) : Prop := AccR ei 1 w base 3 A c l

theorem acci_push {w : World} {base c : Nat} {A : Option Addr} {l : List Int} (h : AccI w base A c l) (x : Int) (hbase : base ≤ w.heap.size) (hlen : l.length ≤ 1099511627776) (ty : TypeId) :
    ∃ A' c' w', (Builtin.append_ #[27, 27] ty #[.slice A l.length c, .slice (some ⟨w.heap.size, 0, none⟩) 1 1]).run Try.prog (w.alloc (.cells #[.int .i64 x] 3)) = .ok (.slice A' (l.length + 1) c') w' ∧
      AccI w' base A' c' (l ++ [x]) ∧ w.grownBy w' (blk A) :=
  accr_push ei_length ei_one (by omega) h x Try.underlying27 infoInt rfl hbase (by omega) (by omega)
/-- A block of whole numbers is a slice of the call's own. -/
theorem Blk.acci {w : World} {g base : Nat} {l : List Int} (h : Blk w g 3 (l.map (Value.int .i64))) (hb : base ≤ g) (hl : l.length ≤ 140737488355328) : AccI w base (some ⟨g, 0, none⟩) l.length l := by
  unfold AccI AccR
  rw [ei_flat]
  exact ⟨by simp, .inr ⟨g, l.length, (l.map (Value.int .i64)).toArray, rfl, hb, h, Nat.le_refl _, by unfold maxLen; omega, by simp, List.take_of_length_le (by simp)⟩⟩
/-- What a copy of such a slice into a block leaves behind. -/
theorem copy_ints {P : Program} {W : World} {B n c : Nat} {a : Option Addr} {l : List Int} (h : Row ei W B a n l) (dT sT ty elem : TypeId) (hu : P.underlying dT = some (.slice elem)) (hsz : (P.info? elem).map (·.size) = some 1)
    (g m dCap : Nat) (cur : List Value) (t : TypeId) (hg : Blk W g t cur) (hm : cur.length = m) :
    ∃ W2, (Builtin.copy_ #[dT, sT] ty #[.slice (some ⟨g, 0, none⟩) m dCap, .slice a n c]).run P W = .ok (.int .i64 ((min n m : Nat) : Int)) W2 ∧
      Blk W2 g t ((l.take m).map (Value.int .i64) ++ cur.drop n) ∧ W2.heap.size = W.heap.size ∧ W.grownBy W2 (some g) := by
  have hn := h.1
  subst hn
  subst hm
  rcases Nat.eq_zero_or_pos (min l.length cur.length) with h0 | h0
  · refine ⟨W, ?_, ?_, rfl, World.grownBy.refl _ _⟩
    · rw [run_copy_none (P := P) W dT sT ty elem _ _ _ _ _ _ hu hsz h0, h0]; rfl
    · rcases Nat.eq_zero_or_pos l.length with h1 | h1
      · obtain rfl := List.eq_nil_of_length_eq_zero h1
        simpa using hg
      · have h2 : cur.length = 0 := by omega
        obtain rfl := List.eq_nil_of_length_eq_zero h2
        simpa using hg
  · have h1 : 0 < l.length := by omega
    obtain ⟨b, o, rfl, _, hc⟩ := h.2 h1
    rw [ei_flat] at hc
    have hrun := run_copy_row (P := P) W dT sT ty elem g 0 cur.length dCap ⟨b, o, none⟩ l.length c cur.toArray t ((l.take cur.length).map (Value.int .i64)) hu hsz hg (by rw [List.length_map, List.length_take]; exact Nat.min_comm _ _)
      (fun j v hj => by
        have hjl : j < l.length ∧ j < cur.length := by
          rcases Nat.lt_or_ge j (min l.length cur.length) with h | h
          · omega
          · rw [List.getElem?_eq_none (by simp; omega)] at hj; cases hj
        rw [add_plain, hc j (by simpa using hjl.1)]
        simp [hjl.1, hjl.2] at hj ⊢
        exact hj) (by simp; omega) (by intro v hv; obtain ⟨x, _, rfl⟩ := List.mem_map.1 hv; rfl)
    have hl : ((((l.take cur.length).map (Value.int .i64)).length : Nat) : Int) = ((min l.length cur.length : Nat) : Int) := by rw [List.length_map, List.length_take, Nat.min_comm]
    rw [hl] at hrun
    refine ⟨_, hrun, ?_, ?_, ?_⟩
    · unfold Blk; rw [setRow_heap W g _ _ t _ hg]; simp
      omega
    · simp [World.setRow]
    · exact ⟨rfl, rfl, rfl, by simp [World.setRow], fun k hk hne => setRow_other W g k _ (fun e => hne (by rw [e]))⟩
end Go.Proofs.Ytmffmoflelnmoaa
