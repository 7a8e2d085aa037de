/-
  Contracts of package tedb: unused, New. Condition: a number of 64 bits in each link; at most 2^30 links.
-/
import Derived.Test.YtmfmjdkeoiebpaaTecB
import Derived.Test.YtmfmjdkeoiebpaaTedF
import Derived.Deep.CutBlock
namespace Go.Proofs.Ytmfmjdkeoiebpaa
set_option maxRecDepth 100000
set_option linter.unusedVariables false
open Go.RowKit

/-- Fifteen noughts. -/
def zr15 : List Value := [.int .i64 0, .int .i64 0, .int .u64 0, .int .i64 0, .int .u32 0, .int .i64 0, .bool false, .int .u64 0, .int .u64 0, .int .u64 0, .int .u64 0, .int .u64 0, .int .u64 0, .int .u64 0, .int .u64 0]
def Un15 (x : Ad) (w : World) (e : Ending) (w' : World) : Prop := e = .returned (.agg (adc x).toArray) ∧ Below w.heap.size w w'
set_option maxHeartbeats 3200000 in
theorem unused15_calls (f t m g : Int) (C : Nat) (w : World) : Calls Try.prog 32 #[.agg #[.int .i64 f, .int .i64 t, .int .u64 (C : Int), .int .i64 m, .int .u32 g]] w (Un15 ⟨⟨f, t, (C : Int), m, g⟩, 0, true, fl15 8 C⟩ w) := by
  unfold Un15
  have hb1 : Blk (w.alloc (.cells #[.int .i64 f, .int .i64 t, .int .u64 (C : Int), .int .i64 m, .int .u32 g] 37)) w.heap.size 37 (lkc ⟨f, t, (C : Int), m, g⟩) := Blk.new w _ (lkc ⟨f, t, (C : Int), m, g⟩)
  have hl1 := bel_new (Below.refl w.heap.size w) (.cells #[.int .i64 f, .int .i64 t, .int .u64 (C : Int), .int .i64 m, .int .u32 g] 37)
  have hs1 : (w.alloc (.cells #[.int .i64 f, .int .i64 t, .int .u64 (C : Int), .int .i64 m, .int .u32 g] 37)).heap.size = w.heap.size + 1 := by simp
  have B1 := Lib.hid hb1
  have L1 := Lib.hid hl1
  have S1 := Lib.hid hs1
  clear hb1 hl1 hs1
  go_enter Try.func32, Try.ntmps32
  go_upto_region 1 with fail
  generalize (w.alloc (.cells #[.int .i64 f, .int .i64 t, .int .u64 (C : Int), .int .i64 m, .int .u32 g] 37)) = w1 at *
  have hb2 : Blk (w1.alloc (.cells #[.int .i64 0, .int .i64 0, .int .u64 0, .int .i64 0, .int .u32 0, .int .i64 0, .bool false, .int .u64 0, .int .u64 0, .int .u64 0, .int .u64 0, .int .u64 0, .int .u64 0, .int .u64 0, .int .u64 0] 40)) (w.heap.size + 1) 40 zr15 := by
    have := Blk.new w1 40 zr15
    rw [S1.out] at this
    exact this
  have B2 := Lib.hid (And.intro hb2 (B1.out.below (bel_new (Below.refl w1.heap.size w1) (.cells #[.int .i64 0, .int .i64 0, .int .u64 0, .int .i64 0, .int .u32 0, .int .i64 0, .bool false, .int .u64 0, .int .u64 0, .int .u64 0, .int .u64 0, .int .u64 0, .int .u64 0, .int .u64 0, .int .u64 0] 40))))
  have L2 := Lib.hid (bel_new L1.out (.cells #[.int .i64 0, .int .i64 0, .int .u64 0, .int .i64 0, .int .u32 0, .int .i64 0, .bool false, .int .u64 0, .int .u64 0, .int .u64 0, .int .u64 0, .int .u64 0, .int .u64 0, .int .u64 0, .int .u64 0] 40))
  have S2 := Lib.hid (show (w1.alloc (.cells #[.int .i64 0, .int .i64 0, .int .u64 0, .int .i64 0, .int .u32 0, .int .i64 0, .bool false, .int .u64 0, .int .u64 0, .int .u64 0, .int .u64 0, .int .u64 0, .int .u64 0, .int .u64 0, .int .u64 0] 40)).heap.size = w.heap.size + 2 by simp [S1.out])
  clear hb2 B1 L1
  try rw [S1.out]
  clear S1
  generalize w1.alloc _ = w2 at *
  have z0 : w2.cell? ⟨w.heap.size, 0, none⟩ = some (.int .i64 f) := B2.out.2.cell 0
  have z1 : w2.cell? ⟨w.heap.size, 1, none⟩ = some (.int .i64 t) := B2.out.2.cell 1
  have z2 : w2.cell? ⟨w.heap.size, 2, none⟩ = some (.int .u64 (C : Int)) := B2.out.2.cell 2
  have z3 : w2.cell? ⟨w.heap.size, 3, none⟩ = some (.int .i64 m) := B2.out.2.cell 3
  have z4 : w2.cell? ⟨w.heap.size, 4, none⟩ = some (.int .u32 g) := B2.out.2.cell 4
  go_upto_region 2 with fail
  clear z0 z1 z2 z3 z4
  have hb3 : Blk (w2.alloc (.cells #[.int .i64 f, .int .i64 t, .int .u64 (C : Int), .int .i64 m, .int .u32 g, .int .i64 0, .bool true, .int .u64 0, .int .u64 0, .int .u64 0, .int .u64 0, .int .u64 0, .int .u64 0, .int .u64 0, .int .u64 0] 40)) (w.heap.size + 2) 40 (adc ⟨⟨f, t, (C : Int), m, g⟩, 0, true, fl15 0 C⟩) := by
    have := Blk.new w2 40 (adc ⟨⟨f, t, (C : Int), m, g⟩, 0, true, fl15 0 C⟩)
    rw [S2.out] at this
    exact this
  have hbl := bel_new (Below.refl w2.heap.size w2) (.cells #[.int .i64 f, .int .i64 t, .int .u64 (C : Int), .int .i64 m, .int .u32 g, .int .i64 0, .bool true, .int .u64 0, .int .u64 0, .int .u64 0, .int .u64 0, .int .u64 0, .int .u64 0, .int .u64 0, .int .u64 0] 40)
  have B3 := Lib.hid hb3
  have X3 := Lib.hid (And.intro (B2.out.1.below hbl) (B2.out.2.below hbl))
  have L3 := Lib.hid (L2.out.trans (hbl.mono L2.out.size))
  clear hb3 hbl B2 L2
  try rw [S2.out]
  clear S2
  generalize w2.alloc _ = w3 at *
  obtain ⟨q, hq⟩ : ∃ q, w.heap.size = q := ⟨_, rfl⟩
  go_wp2_with fail
  go_loopw [7] (fun s W => ∃ p : Nat, p ≤ 8 ∧ s = .int .i64 (p : Int) ∧ Blk W (w.heap.size + 2) 40 (adc ⟨⟨f, t, (C : Int), m, g⟩, 0, true, fl15 p C⟩) ∧ (Blk W (w.heap.size + 1) 40 zr15 ∧ Blk W w.heap.size 37 (lkc ⟨f, t, (C : Int), m, g⟩)) ∧ Below w.heap.size w W) (fun s W => 8 - (intOf s).toNat)
  case atStart => exact ⟨0, by omega, rfl, B3.out, X3.out, L3.out⟩
  case round =>
    obtain ⟨p, hp, rfl, hk, ha, hb⟩ := hrel
    have HK := Lib.hid hk
    have HA := Lib.hid ha
    have HB := Lib.hid hb
    clear hk ha hb B3 L3 X3 hq
    by_cases hp8 : p < 8
    · have p1 : (p : Int) < 8 := by omega
      have y2 : wr.cell? ⟨w.heap.size, 2, none⟩ = some (.int .u64 (C : Int)) := HA.out.2.cell 2
      have y0 : wr.cell? ⟨w.heap.size + 2, 7 + p, none⟩ = some (.int .u64 (((fl15 p C).getD p 0 : Nat) : Int)) := (HK.out.cell _).trans (adc_free _ hp8)
      have f0 := HK.out.free (7 + p)
      have HP8 := Lib.hid hp8
      go_wp2_with fail
      go_roundw
      case rel =>
        refine ⟨p + 1, by have := HP8.out; omega, by first | rfl | (simp; omega), ?_, ⟨?_, ?_⟩, ?_⟩
        · have := HK.out.set (7 + p) (.int .u64 (C : Int))
          rw [← adc_set _ _ _ (fl15_length (by omega) C) HP8.out C, fl15_set HP8.out] at this
          exact this
        · exact HA.out.1.other (p := ⟨w.heap.size + 2, 7 + p, none⟩) (by simp only; omega) _
        · exact HA.out.2.other (p := ⟨w.heap.size + 2, 7 + p, none⟩) (by simp only; omega) _
        · exact HB.out.setCell (p := ⟨w.heap.size + 2, 7 + p, none⟩) (show w.heap.size ≤ w.heap.size + 2 by omega) _
      case measure => have := HP8.out; simp [intOf]; omega
    · obtain rfl : p = 8 := by omega
      clear hp hp8
      have HI := Lib.hid (show (Try.prog.info? 40).map (·.size) = some (adc ⟨⟨f, t, (C : Int), m, g⟩, 0, true, fl15 8 C⟩).length from infoAdTS15)
      go_wp2_with (first | ((with_reducible refine step_load (o := ⟨some 16, _, _, _, _, _⟩) (x := .tmp 3) ?_ ?_ ?_ HK.out Try.underlying40 ?_ HI.out ?_); (rfl); (rfl); (rfl); (rfl)) | ((with_reducible refine step_store (o := ⟨none, _, _, _, _, _⟩) (vs := adc ⟨⟨f, t, (C : Int), m, g⟩, 0, true, fl15 8 C⟩) (ty := 40) (x := .tmp 2) (y := .tmp 16) ?_ ?_ ?_ ?_ HA.out.1 HI.out rfl (adc_one _) ?_); (rfl); (rfl); (rfl); (rfl); intro w4 hb5 hg5 hs5))
      refine bodyPost_ret (v := .agg (adc ⟨⟨f, t, (C : Int), m, g⟩, 0, true, fl15 8 C⟩).toArray) (results_one8 rfl _ rfl hb5 Try.underlying40 rfl HI.out) rfl ?_
      exact ⟨rfl, bel_upd HB.out hg5 (Nat.le_refl _) (by omega)⟩
end Go.Proofs.Ytmfmjdkeoiebpaa
