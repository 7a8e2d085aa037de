/-
  The law GroupCovers, walked: for any two wants the answer is true, and nothing that was there has turned. Condition: groups are numbers of 32 bits.
-/
import Derived.Test.YtgfahcdhbpaofaaGroupAllowsW
namespace Go.Proofs.Ytgfahcdhbpaofaa
set_option maxRecDepth 100000
set_option linter.unusedVariables false
open Go.RowKit

theorem gcovers_walk (x y : Wn) (hx : WnOk x) (hy : WnOk y) (w : World) : Calls Try.prog 4 #[.agg #[.int .u64 (x.bw : Int), .int .i64 x.su, .int .i64 x.ho, .int .u32 (x.an : Int), .int .u32 (x.al : Int), .int .u32 (x.no : Int)], .agg #[.int .u64 (y.bw : Int), .int .i64 y.su, .int .i64 y.ho, .int .u32 (y.an : Int), .int .u32 (y.al : Int), .int .u32 (y.no : Int)]] w fun e w' => e = .returned (.bool true) ∧ Below w.heap.size w w' := by
  have hc : ∃ c, wCovers x y = c := ⟨_, rfl⟩
  obtain ⟨c, hc⟩ := hc
  have HU := Lib.hid (fun W => (show Calls Try.prog 13 #[.agg (wnc x).toArray, .agg (wnc y).toArray] W fun e w' => e = .returned (.bool c) ∧ Below W.heap.size W w' from hc ▸ covers12_calls x y hx hy W))
  have HR := Lib.hid (fun W => (show Calls Try.prog 14 #[.agg (wnc x).toArray, .agg (wnc y).toArray] W fun e w' => e = .returned (.bool c) ∧ Below W.heap.size W w' from hc ▸ rcovers12_calls x y hx hy W))
  have HA := Lib.hid (fun W => alive12_calls W)
  clear hc hx hy
  have ec : (c == c) = true := by cases c <;> rfl
  go_enter Try.func4, Try.ntmps4
  go_wp2_with fail
  have bl : Below w.heap.size w (((w.alloc (.cells #[.int .u64 (x.bw : Int), .int .i64 x.su, .int .i64 x.ho, .int .u32 (x.an : Int), .int .u32 (x.al : Int), .int .u32 (x.no : Int)] 25)).alloc (.cells #[.int .u64 (y.bw : Int), .int .i64 y.su, .int .i64 y.ho, .int .u32 (y.an : Int), .int .u32 (y.al : Int), .int .u32 (y.no : Int)] 25))) := bel_new (bel_new (Below.refl _ _) _) _
  have b0 : Blk (((w.alloc (.cells #[.int .u64 (x.bw : Int), .int .i64 x.su, .int .i64 x.ho, .int .u32 (x.an : Int), .int .u32 (x.al : Int), .int .u32 (x.no : Int)] 25)).alloc (.cells #[.int .u64 (y.bw : Int), .int .i64 y.su, .int .i64 y.ho, .int .u32 (y.an : Int), .int .u32 (y.al : Int), .int .u32 (y.no : Int)] 25))) w.heap.size 25 (wnc x) := by
    have := Blk.new w 25 (wnc x)
    have h2 := (show Blk (w.alloc (.cells #[.int .u64 (x.bw : Int), .int .i64 x.su, .int .i64 x.ho, .int .u32 (x.an : Int), .int .u32 (x.al : Int), .int .u32 (x.no : Int)] 25)) w.heap.size 25 (wnc x) by simpa [wnc] using this)
    exact (h2.alloc (.cells #[.int .u64 (y.bw : Int), .int .i64 y.su, .int .i64 y.ho, .int .u32 (y.an : Int), .int .u32 (y.al : Int), .int .u32 (y.no : Int)] 25))
  have b1 : Blk (((w.alloc (.cells #[.int .u64 (x.bw : Int), .int .i64 x.su, .int .i64 x.ho, .int .u32 (x.an : Int), .int .u32 (x.al : Int), .int .u32 (x.no : Int)] 25)).alloc (.cells #[.int .u64 (y.bw : Int), .int .i64 y.su, .int .i64 y.ho, .int .u32 (y.an : Int), .int .u32 (y.al : Int), .int .u32 (y.no : Int)] 25))) (w.heap.size + 1) 25 (wnc y) := by
    have := Blk.new (w.alloc (.cells #[.int .u64 (x.bw : Int), .int .i64 x.su, .int .i64 x.ho, .int .u32 (x.an : Int), .int .u32 (x.al : Int), .int .u32 (x.no : Int)] 25)) 25 (wnc y)
    have h2 := (show Blk ((w.alloc (.cells #[.int .u64 (x.bw : Int), .int .i64 x.su, .int .i64 x.ho, .int .u32 (x.an : Int), .int .u32 (x.al : Int), .int .u32 (x.no : Int)] 25)).alloc (.cells #[.int .u64 (y.bw : Int), .int .i64 y.su, .int .i64 y.ho, .int .u32 (y.an : Int), .int .u32 (y.al : Int), .int .u32 (y.no : Int)] 25)) (w.heap.size + 1) 25 (wnc y) by simpa [wnc] using this)
    exact h2
  generalize ((w.alloc (.cells #[.int .u64 (x.bw : Int), .int .i64 x.su, .int .i64 x.ho, .int .u32 (x.an : Int), .int .u32 (x.al : Int), .int .u32 (x.no : Int)] 25)).alloc (.cells #[.int .u64 (y.bw : Int), .int .i64 y.su, .int .i64 y.ho, .int .u32 (y.an : Int), .int .u32 (y.al : Int), .int .u32 (y.no : Int)] 25)) = w1 at *
  have HL := Lib.hid bl
  have HB := Lib.hid (And.intro b0 b1)
  clear bl b0 b1
  refine region_seq (fun W => Below w1.heap.size w1 W) [(0, true), (1, true), (3, true), (4, true), (2, false), (5, false), (6, true), (7, true), (8, false), (9, true), (10, true)]
    (by kernel_rfl) (by kernel_rfl) (by kernel_rfl) (by kernel_rfl) (fun _ _ _ _ _ h => h) (Below.refl _ _).drew ?_
  repeat first
    | refine seq_load8 rfl (by rfl) rfl rfl (fun W hW => HB.out.1.below hW) Try.underlying25 rfl infoWant ?_
      simp only [Act.put, List.setIfInBounds_toArray, List.set_cons_zero, List.set_cons_succ]
    | refine seq_load8 rfl (by rfl) rfl rfl (fun W hW => HB.out.2.below hW) Try.underlying25 rfl infoWant ?_
      simp only [Act.put, List.setIfInBounds_toArray, List.set_cons_zero, List.set_cons_succ]
    | refine seq_pure (v := ?_) rfl (by rfl) (fun W hW => ?_) ?_
      rotate_left
      · clear hW
        go_simp
        with_reducible rfl
      simp only [Act.put, List.setIfInBounds_toArray, List.set_cons_zero, List.set_cons_succ]
  refine seq_make rfl (by rfl) (fun K hK => ?_)
  go_simp
  have hc := HU.out w1.drew
  ((with_reducible refine hc.mono ?_))
  rintro e w3 ⟨rfl, hb⟩
  have B3 := Lib.hid (show Below w1.heap.size w1 w3 from below_of_drew hb)
  clear hc hb
  go_simp
  refine hK _ _ (fun W => Below w1.heap.size w1 W) (fun W h => h) B3.out ?_
  clear hK K
  refine seq_make rfl (by rfl) (fun K hK => ?_)
  go_simp
  have hc := HR.out w3
  ((with_reducible refine hc.mono ?_))
  rintro e w4 ⟨rfl, hb⟩
  have B4 := Lib.hid (show Below w1.heap.size w1 w4 from B3.out.trans (hb.mono B3.out.size))
  clear hc hb
  go_simp
  refine hK _ _ (fun W => Below w1.heap.size w1 W) (fun W h => h) B4.out ?_
  clear hK K
  repeat first
    | refine seq_load8 rfl (by rfl) rfl rfl (fun W hW => HB.out.1.below hW) Try.underlying25 rfl infoWant ?_
      simp only [Act.put, List.setIfInBounds_toArray, List.set_cons_zero, List.set_cons_succ]
    | refine seq_load8 rfl (by rfl) rfl rfl (fun W hW => HB.out.2.below hW) Try.underlying25 rfl infoWant ?_
      simp only [Act.put, List.setIfInBounds_toArray, List.set_cons_zero, List.set_cons_succ]
    | refine seq_pure (v := ?_) rfl (by rfl) (fun W hW => ?_) ?_
      rotate_left
      · clear hW
        go_simp
        with_reducible rfl
      simp only [Act.put, List.setIfInBounds_toArray, List.set_cons_zero, List.set_cons_succ]
  refine seq_make rfl (by rfl) (fun K hK => ?_)
  go_simp
  have hc := HA.out w4
  ((with_reducible refine hc.mono ?_))
  rintro e w5 ⟨rfl, hb⟩
  have B5 := Lib.hid (show Below w1.heap.size w1 w5 from B4.out.trans (hb.mono B4.out.size))
  clear hc hb
  go_simp
  refine hK _ _ (fun W => Below w1.heap.size w1 W) (fun W h => h) B5.out ?_
  clear hK K
  repeat first
    | refine seq_load8 rfl (by rfl) rfl rfl (fun W hW => HB.out.1.below hW) Try.underlying25 rfl infoWant ?_
      simp only [Act.put, List.setIfInBounds_toArray, List.set_cons_zero, List.set_cons_succ]
    | refine seq_load8 rfl (by rfl) rfl rfl (fun W hW => HB.out.2.below hW) Try.underlying25 rfl infoWant ?_
      simp only [Act.put, List.setIfInBounds_toArray, List.set_cons_zero, List.set_cons_succ]
    | refine seq_pure (v := ?_) rfl (by rfl) (fun W hW => ?_) ?_
      rotate_left
      · clear hW
        go_simp
        with_reducible rfl
      simp only [Act.put, List.setIfInBounds_toArray, List.set_cons_zero, List.set_cons_succ]
  refine seq_done ?_
  go_wp2
  go_ret
  exact ⟨rfl, HL.out.trans (B5.out.mono HL.out.size)⟩
end Go.Proofs.Ytgfahcdhbpaofaa
