/-
  Contracts of package queue: calls of a queue that New did not make. No condition.
-/
import Derived.Test.YtnjgffhhalaknaaQueueH
namespace Go.Proofs.Ytnjgffhhalaknaa
open Go.RowKit

/-- No queue of New's: made says so, while what was there stays. -/
def NoQ (w : World) (v : Value) : Prop := ∀ W, Below w.heap.size w W → Calls Try.prog 21 #[v] W fun e w' => e = .returned (.bool false) ∧ w' = W
theorem NoQ.bel {w w' : World} {v : Value} (h : NoQ w v) (hb : Below w.heap.size w w') : NoQ w' v := fun W hW => h W (hb.trans (hW.mono hb.size))
theorem noq_nil (w : World) : NoQ w (.pointer none) := fun W _ => made_nil W
theorem noq_zero {w : World} {q : Nat} (h : Blk w q 50 [.pointer none]) : NoQ w (.pointer (some ⟨q, 0, none⟩)) := fun W hW => made_zero10 q W ((h.below hW).cell 0)
section
variable {w : World} {v : Value}
theorem nlen_calls (h : NoQ w v) : Calls Try.prog 18 #[v] w fun e w' => e = .returned (.int .i64 0) ∧ w' = w := by
  have hm := h w (Below.refl _ _)
  go_enter Try.func18, Try.ntmps18
  go_wp2_with fail
  ((with_reducible refine hm.mono ?_))
  rintro e w1 ⟨rfl, rfl⟩
  go_wp2
  go_ret
  exact ⟨rfl, rfl⟩
theorem npush_calls (h : NoQ w v) (x : Itm) : Calls Try.prog 17 #[v, .agg (itL x).toArray] w fun e w' => e = .returned (.int .i64 1) ∧ Below w.heap.size w w' := by
  have e0 : (Value.agg (itL x).toArray) = .agg #[.int .i64 x.cost, .int .i64 x.hops, .int .i64 x.node] := rfl
  rw [e0]
  have hb : Below w.heap.size w (w.alloc (.cells #[.int .i64 x.cost, .int .i64 x.hops, .int .i64 x.node] 25)) := bel_new (Below.refl _ _) _
  have hm := h _ hb
  go_enter Try.func17, Try.ntmps17
  go_wp2_with fail
  ((with_reducible refine hm.mono ?_))
  rintro e w1 ⟨rfl, rfl⟩
  go_wp2
  go_ret
  exact ⟨rfl, hb⟩
theorem npop_calls (h : NoQ w v) : Calls Try.prog 13 #[v] w fun e w' => e = .returned (.tuple #[.agg (itL ⟨0, 0, 0⟩).toArray, .int .i64 1]) ∧ Below w.heap.size w w' := by
  have hb : Below w.heap.size w (w.alloc (.cells #[.int .i64 0, .int .i64 0, .int .i64 0] 25)) := bel_new (Below.refl _ _) _
  have hm := h _ hb
  go_enter Try.func13, Try.ntmps13
  go_wp2_with fail
  ((with_reducible refine hm.mono ?_))
  rintro e w1 ⟨rfl, rfl⟩
  go_wp2_with fail
  have b2 : Blk (w.alloc (.cells #[.int .i64 0, .int .i64 0, .int .i64 0] 25)) w.heap.size 25 (itL ⟨0, 0, 0⟩) := Blk.new w 25 (itL ⟨0, 0, 0⟩)
  refine bodyPost_ret (v := .tuple #[.agg (itL ⟨0, 0, 0⟩).toArray, .int .i64 1]) (results_two8 rfl _ rfl b2 Try.underlying25 rfl infoItem rfl) rfl ?_
  exact ⟨rfl, hb⟩
end
end Go.Proofs.Ytnjgffhhalaknaa
