/-
  The law QueueLess, walked: for any two items the answer is true, and nothing that was there has turned. No condition.
-/
import Derived.Test.YtnjgffhhalaknaaQueueJ
namespace Go.Proofs.Ytnjgffhhalaknaa
open Go.RowKit

set_option maxRecDepth 100000 in
theorem less_walk (x y : Itm) (w : World) : Calls Try.prog 3 #[.agg #[.int .i64 x.cost, .int .i64 x.hops, .int .i64 x.node], .agg #[.int .i64 y.cost, .int .i64 y.hops, .int .i64 y.node]] w fun e w' => e = .returned (.bool true) ∧ Below w.heap.size w w' := by
  have HX := Lib.hid (show (Value.agg (itL x).toArray) = .agg #[.int .i64 x.cost, .int .i64 x.hops, .int .i64 x.node] from rfl)
  have HY := Lib.hid (show (Value.agg (itL y).toArray) = .agg #[.int .i64 y.cost, .int .i64 y.hops, .int .i64 y.node] from rfl)
  go_enter Try.func3, Try.ntmps3
  go_wp2_with fail
  have bl : Below w.heap.size w ((w.alloc (.cells #[.int .i64 x.cost, .int .i64 x.hops, .int .i64 x.node] 23)).alloc (.cells #[.int .i64 y.cost, .int .i64 y.hops, .int .i64 y.node] 23)) := bel_new (bel_new (Below.refl _ _) _) _
  have b1 : Blk ((w.alloc (.cells #[.int .i64 x.cost, .int .i64 x.hops, .int .i64 x.node] 23)).alloc (.cells #[.int .i64 y.cost, .int .i64 y.hops, .int .i64 y.node] 23)) w.heap.size 23 (itL x) := (Blk.new w _ (itL x)).alloc _
  have b2 : Blk ((w.alloc (.cells #[.int .i64 x.cost, .int .i64 x.hops, .int .i64 x.node] 23)).alloc (.cells #[.int .i64 y.cost, .int .i64 y.hops, .int .i64 y.node] 23)) (w.heap.size + 1) 23 (itL y) := by
    have := Blk.new (w.alloc (.cells #[.int .i64 x.cost, .int .i64 x.hops, .int .i64 x.node] 23)) 23 (itL y)
    simpa [itL] using this
  generalize (w.alloc (.cells #[.int .i64 x.cost, .int .i64 x.hops, .int .i64 x.node] 23)).alloc (.cells #[.int .i64 y.cost, .int .i64 y.hops, .int .i64 y.node] 23) = w1 at *
  have HL := Lib.hid bl
  have HB := Lib.hid (And.intro b1 b2)
  clear bl b1 b2
  have hd : ∃ bb, decide (iLt x y) = bb := ⟨_, rfl⟩
  obtain ⟨bb, hbb⟩ := hd
  have HD := Lib.hid hbb
  have hu : ∀ W, Calls Try.prog 8 #[.agg (itL x).toArray, .agg (itL y).toArray] W fun e w' => e = .returned (.bool bb) ∧ Below W.heap.size W w' := by
    intro W
    have := less_calls x y W
    unfold LessPost at this
    rwa [hbb] at this
  have hr : ∀ W, Calls Try.prog 10 #[.agg (itL x).toArray, .agg (itL y).toArray] W fun e w' => e = .returned (.bool bb) ∧ Below W.heap.size W w' := by
    intro W
    have := rless10_calls x y W
    unfold LessPost at this
    rwa [hbb] at this
  have htx : ∀ W, Calls Try.prog 9 #[.agg (itL x).toArray] W fun e w' => e = .returned (.agg (itL x).toArray) ∧ Below W.heap.size W w' := fun W => theirs10_calls x W
  have hty : ∀ W, Calls Try.prog 9 #[.agg (itL y).toArray] W fun e w' => e = .returned (.agg (itL y).toArray) ∧ Below W.heap.size W w' := fun W => theirs10_calls y W
  have HU := Lib.hid hu
  have HR := Lib.hid hr
  have HTX := Lib.hid htx
  have HTY := Lib.hid hty
  clear hu hr htx hty hbb
  refine region_seq (fun W => Below w1.heap.size w1 W) [(0, true), (2, true), (5, true), (6, true), (1, false), (3, false), (4, false), (7, false), (8, true), (9, true), (10, false), (11, true), (12, true)]
    (by kernel_rfl) (by kernel_rfl) (by kernel_rfl) (by kernel_rfl) (fun _ _ _ _ _ h => h) (Below.refl _ _).drew ?_
  repeat first
    | refine seq_load8 rfl (by rfl) rfl rfl (fun W hW => HB.out.1.below hW) Try.underlying23 rfl infoItemR ?_
      simp only [Act.put, List.setIfInBounds_toArray, List.set_cons_zero, List.set_cons_succ]
    | refine seq_load8 rfl (by rfl) rfl rfl (fun W hW => HB.out.2.below hW) Try.underlying23 rfl infoItemR ?_
      simp only [Act.put, List.setIfInBounds_toArray, List.set_cons_zero, List.set_cons_succ]
    | refine seq_pure (v := ?_) rfl (by rfl) (fun W hW => ?_) ?_
      rotate_left
      · clear hW
        go_simp
        with_reducible rfl
      simp only [Act.put, List.setIfInBounds_toArray, List.set_cons_zero, List.set_cons_succ]
  refine seq_make rfl (by rfl) (fun K hK => ?_)
  go_simp
  have hc := HTX.out w1.drew
  ((with_reducible refine hc.mono ?_))
  rintro e w2 ⟨rfl, hb⟩
  have B2 := Lib.hid (show Below w1.heap.size w1 w2 from below_of_drew hb)
  clear hc hb
  go_simp
  refine hK _ _ (fun W => Below w1.heap.size w1 W) (fun W h => h) B2.out ?_
  clear hK K
  refine seq_make rfl (by rfl) (fun K hK => ?_)
  go_simp
  have hc := HTY.out w2
  ((with_reducible refine hc.mono ?_))
  rintro e w3 ⟨rfl, hb⟩
  have B3 := Lib.hid (show Below w1.heap.size w1 w3 from B2.out.trans (hb.mono B2.out.size))
  clear hc hb
  go_simp
  refine hK _ _ (fun W => Below w1.heap.size w1 W) (fun W h => h) B3.out ?_
  clear hK K
  refine seq_make rfl (by rfl) (fun K hK => ?_)
  go_simp
  have hc := HU.out w3
  ((with_reducible refine hc.mono ?_))
  rintro e w4 ⟨rfl, hb⟩
  have B4 := Lib.hid (show Below w1.heap.size w1 w4 from B3.out.trans (hb.mono B3.out.size))
  clear hc hb
  go_simp
  refine hK _ _ (fun W => Below w1.heap.size w1 W) (fun W h => h) B4.out ?_
  clear hK K
  refine seq_make rfl (by rfl) (fun K hK => ?_)
  go_simp
  have hc := HR.out w4
  ((with_reducible refine hc.mono ?_))
  rintro e w5 ⟨rfl, hb⟩
  have B5 := Lib.hid (show Below w1.heap.size w1 w5 from B4.out.trans (hb.mono B4.out.size))
  clear hc hb
  go_simp
  refine hK _ _ (fun W => Below w1.heap.size w1 W) (fun W h => h) B5.out ?_
  clear hK K
  repeat first
    | refine seq_load8 rfl (by rfl) rfl rfl (fun W hW => HB.out.1.below hW) Try.underlying23 rfl infoItemR ?_
      simp only [Act.put, List.setIfInBounds_toArray, List.set_cons_zero, List.set_cons_succ]
    | refine seq_load8 rfl (by rfl) rfl rfl (fun W hW => HB.out.2.below hW) Try.underlying23 rfl infoItemR ?_
      simp only [Act.put, List.setIfInBounds_toArray, List.set_cons_zero, List.set_cons_succ]
    | refine seq_pure (v := ?_) rfl (by rfl) (fun W hW => ?_) ?_
      rotate_left
      · clear hW
        go_simp
        with_reducible rfl
      simp only [Act.put, List.setIfInBounds_toArray, List.set_cons_zero, List.set_cons_succ]
  refine seq_make rfl (by rfl) (fun K hK => ?_)
  go_simp
  have hc := alive10_calls w5
  ((with_reducible refine hc.mono ?_))
  rintro e w6 ⟨rfl, hb⟩
  have B6 := Lib.hid (show Below w1.heap.size w1 w6 from B5.out.trans (hb.mono B5.out.size))
  clear hc hb
  go_simp
  refine hK _ _ (fun W => Below w1.heap.size w1 W) (fun W h => h) B6.out ?_
  clear hK K
  repeat first
    | refine seq_load8 rfl (by rfl) rfl rfl (fun W hW => HB.out.1.below hW) Try.underlying23 rfl infoItemR ?_
      simp only [Act.put, List.setIfInBounds_toArray, List.set_cons_zero, List.set_cons_succ]
    | refine seq_load8 rfl (by rfl) rfl rfl (fun W hW => HB.out.2.below hW) Try.underlying23 rfl infoItemR ?_
      simp only [Act.put, List.setIfInBounds_toArray, List.set_cons_zero, List.set_cons_succ]
    | refine seq_pure (v := ?_) rfl (by rfl) (fun W hW => ?_) ?_
      rotate_left
      · clear hW
        go_simp
        with_reducible rfl
      simp only [Act.put, List.setIfInBounds_toArray, List.set_cons_zero, List.set_cons_succ]
  refine seq_done ?_
  go_wp2
  go_ret
  exact ⟨rfl, HL.out.trans (B6.out.mono HL.out.size)⟩
end Go.Proofs.Ytnjgffhhalaknaa
