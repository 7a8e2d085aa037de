/-
  Contracts of layer 8's Theirs and Ours. No condition.
-/
import Derived.Test.YthmgpffpiggomaaMsgG
namespace Go.Proofs.Ythmgpffpiggomaa
open Go.RowKit

/-- The same message. -/
def Like8Post (w : World) (M : Ms) (e : Ending) (w' : World) : Prop := e = .returned (.agg M.cells.toArray) ∧ Below w.heap.size w w'

set_option maxRecDepth 100000 in
set_option maxHeartbeats 1600000 in
theorem theirs8_calls (M : Ms) (w : World) : Calls Try.prog 10 #[.agg M.cells.toArray] w (Like8Post w M) := by
  have h2 := two8_new w 30 37 M.cells (Ms.bare 0 0).cells
  have HB0 := Lib.hid h2.1
  have HZ0 := Lib.hid h2.2.1
  have HL0 := Lib.hid h2.2.2
  clear h2
  go_enter Try.func10, Try.ntmps10
  go_upto_region 1 with fail
  obtain ⟨w1, hw1⟩ : ∃ w1, w1 = (w.alloc (.cells M.cells.toArray 30)).alloc (.cells (Ms.bare 0 0).cells.toArray 37) := ⟨_, rfl⟩
  have HB1 := Lib.hid (show Blk w1 w.heap.size 30 M.cells by rw [hw1]; exact HB0.out)
  have HZ1 := Lib.hid (show Blk w1 (w.heap.size + 1) 37 (Ms.bare 0 0).cells by rw [hw1]; exact HZ0.out)
  have HL1 := Lib.hid (show Below w.heap.size w w1 by rw [hw1]; exact HL0.out)
  have hw2 : w1 = (w.alloc (.cells M.cells.toArray 30)).alloc (.cells #[.int .i64 0, .int .i64 0, .int .i64 0, .int .i64 0, .int .i64 0, .int .i64 0, .int .i64 0, .int .i64 0, .int .i64 0, .int .u64 0, .int .i64 0, .int .i64 0, .int .u32 0, .int .u32 0, .int .u32 0, .slice none 0 0, .slice none 0 0, .int .i64 0, .int .i64 0, .int .i64 0] 37) := hw1
  rw [← hw2]
  clear hw1 hw2 HB0 HZ0 HL0
  have x0 : w1.cell? ⟨w.heap.size, 0, none⟩ = some (.int .i64 M.ty) := HB1.out.cell 0
  have x1 : w1.cell? ⟨w.heap.size, 1, none⟩ = some (.int .i64 M.tl) := HB1.out.cell 1
  have x2 : w1.cell? ⟨w.heap.size, 2, none⟩ = some (.int .i64 M.kt) := HB1.out.cell 2
  have x3 : w1.cell? ⟨w.heap.size, 3, none⟩ = some (.int .i64 M.ku) := HB1.out.cell 3
  have x4 : w1.cell? ⟨w.heap.size, 4, none⟩ = some (.int .i64 M.kh) := HB1.out.cell 4
  have x5 : w1.cell? ⟨w.heap.size, 5, none⟩ = some (.int .i64 M.kl) := HB1.out.cell 5
  have x6 : w1.cell? ⟨w.heap.size, 6, none⟩ = some (.int .i64 M.fr) := HB1.out.cell 6
  have x7 : w1.cell? ⟨w.heap.size, 7, none⟩ = some (.int .i64 M.pe) := HB1.out.cell 7
  have x8 : w1.cell? ⟨w.heap.size, 8, none⟩ = some (.int .i64 M.se) := HB1.out.cell 8
  have x9 : w1.cell? ⟨w.heap.size, 9, none⟩ = some (.int .u64 (M.w.bw : Int)) := HB1.out.cell 9
  have x10 : w1.cell? ⟨w.heap.size, 10, none⟩ = some (.int .i64 M.w.setup) := HB1.out.cell 10
  have x11 : w1.cell? ⟨w.heap.size, 11, none⟩ = some (.int .i64 M.w.hold) := HB1.out.cell 11
  have x12 : w1.cell? ⟨w.heap.size, 12, none⟩ = some (.int .u32 (M.w.any : Int)) := HB1.out.cell 12
  have x13 : w1.cell? ⟨w.heap.size, 13, none⟩ = some (.int .u32 (M.w.all : Int)) := HB1.out.cell 13
  have x14 : w1.cell? ⟨w.heap.size, 14, none⟩ = some (.int .u32 (M.w.non : Int)) := HB1.out.cell 14
  have x15 : w1.cell? ⟨w.heap.size, 15, none⟩ = some (.slice M.ra M.rn M.rc) := HB1.out.cell 15
  have x16 : w1.cell? ⟨w.heap.size, 16, none⟩ = some (.slice M.oa M.on M.oc) := HB1.out.cell 16
  have x17 : w1.cell? ⟨w.heap.size, 17, none⟩ = some (.int .i64 M.lb) := HB1.out.cell 17
  have x18 : w1.cell? ⟨w.heap.size, 18, none⟩ = some (.int .i64 M.wh) := HB1.out.cell 18
  have x19 : w1.cell? ⟨w.heap.size, 19, none⟩ = some (.int .i64 M.co) := HB1.out.cell 19
  go_wp2_with (refine step_store (o := ⟨none, _, _, _, _, _⟩) (vs := M.cells) rfl rfl rfl rfl HZ1.out rfl rfl (ms_one _) ?_; intro w6 hb6 hg6 hs6)
  refine bodyPost_ret (v := .agg M.cells.toArray) (results_one8 rfl _ rfl hb6 Try.underlying37 rfl rfl) rfl ?_
  exact ⟨rfl, bel_upd HL1.out hg6 (Nat.le_refl _) (by omega)⟩

set_option maxRecDepth 100000 in
set_option maxHeartbeats 1600000 in
theorem ours8_calls (M : Ms) (w : World) : Calls Try.prog 13 #[.agg M.cells.toArray] w (Like8Post w M) := by
  have h2 := two8_new w 37 30 M.cells (Ms.bare 0 0).cells
  have HB0 := Lib.hid h2.1
  have HZ0 := Lib.hid h2.2.1
  have HL0 := Lib.hid h2.2.2
  clear h2
  go_enter Try.func13, Try.ntmps13
  go_upto_region 1 with fail
  obtain ⟨w1, hw1⟩ : ∃ w1, w1 = (w.alloc (.cells M.cells.toArray 37)).alloc (.cells (Ms.bare 0 0).cells.toArray 30) := ⟨_, rfl⟩
  have HB1 := Lib.hid (show Blk w1 w.heap.size 37 M.cells by rw [hw1]; exact HB0.out)
  have HZ1 := Lib.hid (show Blk w1 (w.heap.size + 1) 30 (Ms.bare 0 0).cells by rw [hw1]; exact HZ0.out)
  have HL1 := Lib.hid (show Below w.heap.size w w1 by rw [hw1]; exact HL0.out)
  have hw2 : w1 = (w.alloc (.cells M.cells.toArray 37)).alloc (.cells #[.int .i64 0, .int .i64 0, .int .i64 0, .int .i64 0, .int .i64 0, .int .i64 0, .int .i64 0, .int .i64 0, .int .i64 0, .int .u64 0, .int .i64 0, .int .i64 0, .int .u32 0, .int .u32 0, .int .u32 0, .slice none 0 0, .slice none 0 0, .int .i64 0, .int .i64 0, .int .i64 0] 30) := hw1
  rw [← hw2]
  clear hw1 hw2 HB0 HZ0 HL0
  have x0 : w1.cell? ⟨w.heap.size, 0, none⟩ = some (.int .i64 M.ty) := HB1.out.cell 0
  have x1 : w1.cell? ⟨w.heap.size, 1, none⟩ = some (.int .i64 M.tl) := HB1.out.cell 1
  have x2 : w1.cell? ⟨w.heap.size, 2, none⟩ = some (.int .i64 M.kt) := HB1.out.cell 2
  have x3 : w1.cell? ⟨w.heap.size, 3, none⟩ = some (.int .i64 M.ku) := HB1.out.cell 3
  have x4 : w1.cell? ⟨w.heap.size, 4, none⟩ = some (.int .i64 M.kh) := HB1.out.cell 4
  have x5 : w1.cell? ⟨w.heap.size, 5, none⟩ = some (.int .i64 M.kl) := HB1.out.cell 5
  have x6 : w1.cell? ⟨w.heap.size, 6, none⟩ = some (.int .i64 M.fr) := HB1.out.cell 6
  have x7 : w1.cell? ⟨w.heap.size, 7, none⟩ = some (.int .i64 M.pe) := HB1.out.cell 7
  have x8 : w1.cell? ⟨w.heap.size, 8, none⟩ = some (.int .i64 M.se) := HB1.out.cell 8
  have x9 : w1.cell? ⟨w.heap.size, 9, none⟩ = some (.int .u64 (M.w.bw : Int)) := HB1.out.cell 9
  have x10 : w1.cell? ⟨w.heap.size, 10, none⟩ = some (.int .i64 M.w.setup) := HB1.out.cell 10
  have x11 : w1.cell? ⟨w.heap.size, 11, none⟩ = some (.int .i64 M.w.hold) := HB1.out.cell 11
  have x12 : w1.cell? ⟨w.heap.size, 12, none⟩ = some (.int .u32 (M.w.any : Int)) := HB1.out.cell 12
  have x13 : w1.cell? ⟨w.heap.size, 13, none⟩ = some (.int .u32 (M.w.all : Int)) := HB1.out.cell 13
  have x14 : w1.cell? ⟨w.heap.size, 14, none⟩ = some (.int .u32 (M.w.non : Int)) := HB1.out.cell 14
  have x15 : w1.cell? ⟨w.heap.size, 15, none⟩ = some (.slice M.ra M.rn M.rc) := HB1.out.cell 15
  have x16 : w1.cell? ⟨w.heap.size, 16, none⟩ = some (.slice M.oa M.on M.oc) := HB1.out.cell 16
  have x17 : w1.cell? ⟨w.heap.size, 17, none⟩ = some (.int .i64 M.lb) := HB1.out.cell 17
  have x18 : w1.cell? ⟨w.heap.size, 18, none⟩ = some (.int .i64 M.wh) := HB1.out.cell 18
  have x19 : w1.cell? ⟨w.heap.size, 19, none⟩ = some (.int .i64 M.co) := HB1.out.cell 19
  go_wp2_with (refine step_store (o := ⟨none, _, _, _, _, _⟩) (vs := M.cells) rfl rfl rfl rfl HZ1.out rfl rfl (ms_one _) ?_; intro w6 hb6 hg6 hs6)
  refine bodyPost_ret (v := .agg M.cells.toArray) (results_one8 rfl _ rfl hb6 Try.underlying30 rfl rfl) rfl ?_
  exact ⟨rfl, bel_upd HL1.out hg6 (Nat.le_refl _) (by omega)⟩
end Go.Proofs.Ythmgpffpiggomaa
