/-
  The document's queue (viaductref10): Less, and the law's own helpers. No condition.
-/
import Derived.Test.YtnjgffhhalaknaaQueueH
namespace Go.Proofs.Ytnjgffhhalaknaa
open Go.RowKit

theorem infoItemR : (Try.prog.info? 23).map (·.size) = some 3 := by kernel_rfl
def AggPost (x : Itm) (w : World) (e : Ending) (w' : World) : Prop := e = .returned (.agg (itL x).toArray) ∧ Below w.heap.size w w'
theorem theirs10_calls (x : Itm) (w : World) : Calls Try.prog 9 #[.agg (itL x).toArray] w (AggPost x w) := by
  have e0 : (Value.agg (itL x).toArray) = .agg #[.int .i64 x.cost, .int .i64 x.hops, .int .i64 x.node] := rfl
  unfold AggPost
  rw [e0]
  go_enter Try.func9, Try.ntmps9
  go_wp2_with fail
  have b2 : Blk ((w.alloc (.cells #[.int .i64 x.cost, .int .i64 x.hops, .int .i64 x.node] 23)).alloc (.cells #[.int .i64 x.cost, .int .i64 x.hops, .int .i64 x.node] 25)) (w.heap.size + 1) 25 (itL x) := by
    have := Blk.new (w.alloc (.cells #[.int .i64 x.cost, .int .i64 x.hops, .int .i64 x.node] 23)) 25 (itL x)
    simpa [itL] using this
  refine bodyPost_ret (v := .agg (itL x).toArray) (results_one8 rfl _ rfl b2 Try.underlying25 rfl infoItem) rfl ?_
  exact ⟨rfl, bel_new (bel_new (Below.refl _ _) _) _⟩
theorem ours10_calls (x : Itm) (w : World) : Calls Try.prog 15 #[.agg (itL x).toArray] w (AggPost x w) := by
  have e0 : (Value.agg (itL x).toArray) = .agg #[.int .i64 x.cost, .int .i64 x.hops, .int .i64 x.node] := rfl
  unfold AggPost
  rw [e0]
  go_enter Try.func15, Try.ntmps15
  go_wp2_with fail
  have b2 : Blk ((w.alloc (.cells #[.int .i64 x.cost, .int .i64 x.hops, .int .i64 x.node] 25)).alloc (.cells #[.int .i64 x.cost, .int .i64 x.hops, .int .i64 x.node] 23)) (w.heap.size + 1) 23 (itL x) := by
    have := Blk.new (w.alloc (.cells #[.int .i64 x.cost, .int .i64 x.hops, .int .i64 x.node] 25)) 23 (itL x)
    simpa [itL] using this
  refine bodyPost_ret (v := .agg (itL x).toArray) (results_one8 rfl _ rfl b2 Try.underlying23 rfl infoItemR) rfl ?_
  exact ⟨rfl, bel_new (bel_new (Below.refl _ _) _) _⟩

theorem rless10_calls (x y : Itm) (w : World) : Calls Try.prog 10 #[.agg (itL x).toArray, .agg (itL y).toArray] w (LessPost x y w) := by
  obtain ⟨x0, x1, x2⟩ := x
  obtain ⟨y0, y1, y2⟩ := y
  unfold LessPost itL
  simp only
  by_cases h0 : x0 = y0
  · subst h0
    by_cases h1 : x1 = y1
    · subst h1
      have hd : decide (iLt ⟨x0, x1, x2⟩ ⟨x0, x1, y2⟩) = decide (x2 < y2) := decide_eq_decide.2 (by unfold iLt; simp)
      rw [hd]
      go_enter Try.func10, Try.ntmps10
      go_wp2
      go_ret
      exact ⟨rfl, bel_new (bel_new (Below.refl _ _) _) _⟩
    · have hd : decide (iLt ⟨x0, x1, x2⟩ ⟨x0, y1, y2⟩) = decide (x1 < y1) := decide_eq_decide.2 (by unfold iLt; simp; omega)
      rw [hd]
      go_enter Try.func10, Try.ntmps10
      go_wp2
      go_ret
      exact ⟨rfl, bel_new (bel_new (Below.refl _ _) _) _⟩
  · have hd : decide (iLt ⟨x0, x1, x2⟩ ⟨y0, y1, y2⟩) = decide (x0 < y0) := decide_eq_decide.2 (by unfold iLt; simp; omega)
    rw [hd]
    go_enter Try.func10, Try.ntmps10
    go_wp2
    go_ret
    exact ⟨rfl, bel_new (bel_new (Below.refl _ _) _) _⟩
end Go.Proofs.Ytnjgffhhalaknaa
