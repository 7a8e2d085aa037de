/-
  The document's queue (viaductref10): Pop. Condition: the list that comes in reads as items.
-/
import Derived.Test.YtnjgffhhalaknaaQueueR
namespace Go.Proofs.Ytnjgffhhalaknaa
open Go.RowKit

/-- What the document's Pop answers. -/
def RPopPost (w : World) (a : Option Addr) (c : Nat) (l : List Itm) (e : Ending) (w' : World) : Prop :=
  Below w.heap.size w w' ∧ ((l = [] ∧ e = .returned (.tuple #[.slice a 0 c, .agg (itL ⟨0, 0, 0⟩).toArray, .int .i64 8])) ∨
    (∃ (z : Itm) (r : List Itm) (b o : Nat) (A : Option Addr), l = z :: r ∧ a = some ⟨b, o, none⟩ ∧ e = .returned (.tuple #[.slice A r.length (c - 1), .agg (itL z).toArray, .int .i64 0]) ∧ Row itL w' w.heap.size A r.length r ∧ ∀ b' o', A = some ⟨b', o', none⟩ → b' = b))
set_option maxRecDepth 100000 in
set_option maxHeartbeats 1600000 in
theorem rpop_calls (a : Option Addr) (l : List Itm) (c : Nat) (w : World) (h : Row itL w w.heap.size a l.length l) (hn : l.length ≤ 1024) (hc : l.length ≤ c) :
    Calls Try.prog 14 #[.slice a l.length c] w (RPopPost w a c l) := by
  cases l with
  | nil =>
    go_enter Try.func14, Try.ntmps14
    go_wp2_with fail
    have hx := Blk.new w 23 (itL ⟨0, 0, 0⟩)
    have y0 : (w.alloc (.cells #[.int .i64 0, .int .i64 0, .int .i64 0] 23)).cell? ⟨w.heap.size, 0, none⟩ = some (.int .i64 0) := hx.cell 0
    have y1 : (w.alloc (.cells #[.int .i64 0, .int .i64 0, .int .i64 0] 23)).cell? ⟨w.heap.size, 1, none⟩ = some (.int .i64 0) := hx.cell 1
    have y2 : (w.alloc (.cells #[.int .i64 0, .int .i64 0, .int .i64 0] 23)).cell? ⟨w.heap.size, 2, none⟩ = some (.int .i64 0) := hx.cell 2
    have hb : Below w.heap.size w (w.alloc (.cells #[.int .i64 0, .int .i64 0, .int .i64 0] 23)) := bel_new (Below.refl _ _) _
    generalize w.alloc (.cells #[.int .i64 0, .int .i64 0, .int .i64 0] 23) = w1 at *
    refine bodyPost_ret (v := .tuple #[.slice a 0 c, .agg #[.int .i64 0, .int .i64 0, .int .i64 0], .int .i64 8]) (by simp [results, Try.results14, go_sem, y0, y1, y2]) rfl ?_
    exact ⟨hb, .inl ⟨rfl, rfl⟩⟩
  | cons z r =>
    obtain ⟨n, hln⟩ : ∃ n, n = (z :: r).length := ⟨_, rfl⟩
    have hlen : n = r.length + 1 := hln
    obtain ⟨b, o, x, rfl, hx, hb', hr⟩ := row_itemQ h (i := 0) (by simp)
    obtain rfl : z = x := by simpa using hx
    have HR := Lib.hid h
    have HN := Lib.hid hlen
    have HRG := Lib.hid (show w.rangeAt b o (itL z) from by simpa using hr)
    have HBB := Lib.hid hb'
    rw [← hln] at hn hc ⊢
    have n0 : ¬ (n : Int) = 0 := by omega
    have n1 : (0 : Int) < (n : Int) := by omega
    have n2 : (1 : Int) ≤ (n : Int) := by omega
    have n3 : 1 ≤ n := by omega
    have n4 : 0 < n := by omega
    clear h hx hr hlen hln hb'
    go_enter Try.func14, Try.ntmps14
    go_upto_region 3 with fail
    have hz := Blk.new w 23 [.int .i64 0, .int .i64 0, .int .i64 0]
    have hb : Below w.heap.size w (w.alloc (.cells #[.int .i64 0, .int .i64 0, .int .i64 0] 23)) := bel_new (Below.refl _ _) _
    have HZ := Lib.hid (show Blk (w.alloc (.cells #[.int .i64 0, .int .i64 0, .int .i64 0] 23)) w.heap.size 23 [.int .i64 0, .int .i64 0, .int .i64 0] from hz)
    have HB := Lib.hid hb
    clear hz hb
    generalize w.alloc (.cells #[.int .i64 0, .int .i64 0, .int .i64 0] 23) = w1 at *
    have HRX := Lib.hid (show ∀ W, Below w.heap.size w W → W.rangeAt b o (itL z) from fun W hW k v hv => (hW.cell (p := ⟨b, o + k, none⟩) HBB.out).trans (HRG.out k v hv))
    refine region_seq (fun W => Below w.heap.size w W) [(0, true), (1, true), (2, true), (3, true), (4, true), (5, true), (6, false), (7, true)]
      (by kernel_rfl) (by kernel_rfl) (by kernel_rfl) (by kernel_rfl) (fun _ _ _ _ _ h => h) HB.out.drew ?_
    refine seq_pure (v := ?_) rfl (by rfl) (fun W hW => ?_) ?_
    rotate_left
    · clear hW
      go_simp
      with_reducible rfl
    simp only [Act.put, List.setIfInBounds_toArray, List.set_cons_zero, List.set_cons_succ]
    refine seq_pure (v := ?_) rfl (by rfl) (fun W hW => ?_) ?_
    rotate_left
    · clear hW
      go_simp
      with_reducible rfl
    simp only [Act.put, List.setIfInBounds_toArray, List.set_cons_zero, List.set_cons_succ]
    obtain ⟨A, hA⟩ : ∃ A : Option Addr, (if c = 1 then some (⟨b, o, none⟩ : Addr) else some ⟨b, o + 3, none⟩) = A := ⟨_, rfl⟩
    rw [hA]
    have HAA := Lib.hid hA
    clear hA
    repeat first
      | refine seq_load_at rfl (by rfl) rfl rfl (fun W hW => HRX.out W hW) Try.underlying23 rfl infoItemR ?_
        simp only [Act.put, List.setIfInBounds_toArray, List.set_cons_zero, List.set_cons_succ]
      | refine seq_pure (v := ?_) rfl (by rfl) (fun W hW => ?_) ?_
        rotate_left
        · clear hW
          go_simp
          with_reducible rfl
        simp only [Act.put, List.setIfInBounds_toArray, List.set_cons_zero, List.set_cons_succ]
    refine seq_make rfl (by rfl) (fun K hK => ?_)
    refine wp_store8 (vs := itL z) rfl rfl rfl HZ.out.drew infoItemR rfl (itL_one _) ?_
    intro w2 hb2 hg2 _
    have B2 := Lib.hid (show Below w.heap.size w w2 from HB.out.drew.grown hg2 (Nat.le_trans HB.out.size (Nat.le_refl _)) (fun k hk => by injection hk with hk; omega))
    refine hK _ _ (fun W => Below w.heap.size w W) (fun W h => h) B2.out ?_
    clear hK K hg2
    simp only [Act.put]
    refine seq_pure (v := ?_) rfl (by rfl) (fun W hW => ?_) ?_
    rotate_left
    · clear hW
      go_simp
      with_reducible rfl
    simp only [Act.put, List.setIfInBounds_toArray, List.set_cons_zero, List.set_cons_succ]
    refine seq_done ?_
    have y0 : w2.cell? ⟨w.heap.size, 0, none⟩ = some (.int .i64 z.cost) := hb2.cell 0
    have y1 : w2.cell? ⟨w.heap.size, 1, none⟩ = some (.int .i64 z.hops) := hb2.cell 1
    have y2 : w2.cell? ⟨w.heap.size, 2, none⟩ = some (.int .i64 z.node) := hb2.cell 2
    go_wp2_with fail
    refine bodyPost_ret (v := .tuple #[.slice A (n - 1) (c - 1), .agg #[.int .i64 z.cost, .int .i64 z.hops, .int .i64 z.node], .int .i64 0]) (by simp [results, Try.results14, go_sem, y0, y1, y2]) rfl ?_
    have hn1 : n - 1 = r.length := by have := HN.out; omega
    rw [hn1]
    refine ⟨B2.out, .inr ⟨z, r, b, o, A, rfl, rfl, rfl, ?_, fun b' o' e => ?_⟩⟩
    · by_cases hc1 : c = 1
      · have : r = [] := List.eq_nil_of_length_eq_zero (by omega)
        subst this
        exact Row.nil
      · have e1 : A = some ⟨b, o + 1 * 3, none⟩ := by rw [← HAA.out, if_neg hc1]
        have h1 := (HR.out.below B2.out).rest itL_length 1 (by simp)
        rw [e1]
        simpa using h1
    · have := HAA.out
      rw [e] at this
      split at this <;> (injection this with this; injection this with this _; exact this.symm)
end Go.Proofs.Ytnjgffhhalaknaa
