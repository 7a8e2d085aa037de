/-
  The laws' Theirs, Ours, None, all (viaductlaw15). Condition: fewer than 2^30 adverts.
-/
import Derived.Test.YtmfmjdkeoiebpaaTedD
namespace Go.Proofs.Ytmfmjdkeoiebpaa
set_option maxRecDepth 100000
set_option linter.unusedVariables false
open Go.RowKit

theorem infoAdT15 : (Try.prog.info? 40).map (fun i => (i.zero, i.size, i.bytes)) = some (some (.agg #[.int .i64 0, .int .i64 0, .int .u64 0, .int .i64 0, .int .u32 0, .int .i64 0, .bool false, .int .u64 0, .int .u64 0, .int .u64 0, .int .u64 0, .int .u64 0, .int .u64 0, .int .u64 0, .int .u64 0]), 15, 120) := by kernel_rfl
theorem infoAdTS15 : (Try.prog.info? 40).map (·.size) = some 15 := by kernel_rfl
/-- Adverts of the code that a call gathered. -/
def AccT15 (w : World) (base : Nat) (A : Option Addr) (c : Nat) (l : List Ad) : Prop := AccR adc 15 w base 40 A c l
theorem acct15_push {w : World} {base c : Nat} {A : Option Addr} {l : List Ad} (h : AccT15 w base A c l) (x : Ad) (hb : base ≤ w.heap.size) (hl : l.length ≤ 1099511627776) :
    ∃ A' c' w', (Builtin.append_ #[47, 47] 47 #[.slice A l.length c, .slice (some ⟨w.heap.size, 0, none⟩) 1 1]).run Try.prog (w.alloc (.cells #[.int .i64 x.k.f, .int .i64 x.k.t, .int .u64 x.k.c, .int .i64 x.k.m, .int .u32 x.k.g, .int .i64 x.q, .bool x.up, .int .u64 ((x.f[0]?.getD 0 : Nat) : Int), .int .u64 ((x.f[1]?.getD 0 : Nat) : Int), .int .u64 ((x.f[2]?.getD 0 : Nat) : Int), .int .u64 ((x.f[3]?.getD 0 : Nat) : Int), .int .u64 ((x.f[4]?.getD 0 : Nat) : Int), .int .u64 ((x.f[5]?.getD 0 : Nat) : Int), .int .u64 ((x.f[6]?.getD 0 : Nat) : Int), .int .u64 ((x.f[7]?.getD 0 : Nat) : Int)] 40)) = .ok (.slice A' (l.length + 1) c') w' ∧
      AccT15 w' base A' c' (l ++ [x]) ∧ w.grownBy w' (blk A) :=
  accr_push adc_length adc_one (by omega) h x Try.underlying47 infoAdT15 rfl hb (by omega) (by omega)
def Back15 (x : Ad) (w : World) (e : Ending) (w' : World) : Prop := e = .returned (.agg (adc x).toArray) ∧ Below w.heap.size w w'
set_option maxHeartbeats 1600000 in
theorem theirs15_calls (x : Ad) (w : World) : Calls Try.prog 16 #[.agg (adc x).toArray] w (Back15 x w) := by
  unfold Back15
  go_enter Try.func16, Try.ntmps16
  go_upto_region 1 with fail
  have hb0 := Blk.new w 42 (adc x)
  have hl0 := bel_new (Below.refl w.heap.size w) (.cells (adc x).toArray 42)
  have hs0 : (w.alloc (.cells (adc x).toArray 42)).heap.size = w.heap.size + 1 := by simp
  have HB0 := Lib.hid hb0
  have HL0 := Lib.hid hl0
  have HS0 := Lib.hid hs0
  clear hb0 hl0 hs0
  generalize (w.alloc (.cells (adc x).toArray 42)) = w1 at *
  have HZ := Lib.hid (show Blk (w1.alloc (.cells #[.int .i64 0, .int .i64 0, .int .u64 0, .int .i64 0, .int .u32 0, .int .i64 0, .bool false, .int .u64 0, .int .u64 0, .int .u64 0, .int .u64 0, .int .u64 0, .int .u64 0, .int .u64 0, .int .u64 0] 40)) (w.heap.size + 1) 40 [.int .i64 0, .int .i64 0, .int .u64 0, .int .i64 0, .int .u32 0, .int .i64 0, .bool false, .int .u64 0, .int .u64 0, .int .u64 0, .int .u64 0, .int .u64 0, .int .u64 0, .int .u64 0, .int .u64 0] from by
    have := Blk.new w1 40 [.int .i64 0, .int .i64 0, .int .u64 0, .int .i64 0, .int .u32 0, .int .i64 0, .bool false, .int .u64 0, .int .u64 0, .int .u64 0, .int .u64 0, .int .u64 0, .int .u64 0, .int .u64 0, .int .u64 0]
    rw [HS0.out] at this
    exact this)
  have HB1 := Lib.hid (HB0.out.below (bel_new (Below.refl w1.heap.size w1) (.cells #[.int .i64 0, .int .i64 0, .int .u64 0, .int .i64 0, .int .u32 0, .int .i64 0, .bool false, .int .u64 0, .int .u64 0, .int .u64 0, .int .u64 0, .int .u64 0, .int .u64 0, .int .u64 0, .int .u64 0] 40)))
  have HL1 := Lib.hid (bel_new HL0.out (.cells #[.int .i64 0, .int .i64 0, .int .u64 0, .int .i64 0, .int .u32 0, .int .i64 0, .bool false, .int .u64 0, .int .u64 0, .int .u64 0, .int .u64 0, .int .u64 0, .int .u64 0, .int .u64 0, .int .u64 0] 40))
  clear HB0 HL0 HS0
  generalize w1.alloc _ = w2 at *
  have y0 : w2.cell? ⟨w.heap.size, 0, none⟩ = some (.int .i64 x.k.f) := HB1.out.cell 0
  have y1 : w2.cell? ⟨w.heap.size, 1, none⟩ = some (.int .i64 x.k.t) := HB1.out.cell 1
  have y2 : w2.cell? ⟨w.heap.size, 2, none⟩ = some (.int .u64 x.k.c) := HB1.out.cell 2
  have y3 : w2.cell? ⟨w.heap.size, 3, none⟩ = some (.int .i64 x.k.m) := HB1.out.cell 3
  have y4 : w2.cell? ⟨w.heap.size, 4, none⟩ = some (.int .u32 x.k.g) := HB1.out.cell 4
  have y5 : w2.cell? ⟨w.heap.size, 5, none⟩ = some (.int .i64 x.q) := HB1.out.cell 5
  have y6 : w2.cell? ⟨w.heap.size, 6, none⟩ = some (.bool x.up) := HB1.out.cell 6
  have y7 : w2.cell? ⟨w.heap.size, 7, none⟩ = some (.int .u64 ((x.f[0]?.getD 0 : Nat) : Int)) := HB1.out.cell 7
  have y8 : w2.cell? ⟨w.heap.size, 8, none⟩ = some (.int .u64 ((x.f[1]?.getD 0 : Nat) : Int)) := HB1.out.cell 8
  have y9 : w2.cell? ⟨w.heap.size, 9, none⟩ = some (.int .u64 ((x.f[2]?.getD 0 : Nat) : Int)) := HB1.out.cell 9
  have y10 : w2.cell? ⟨w.heap.size, 10, none⟩ = some (.int .u64 ((x.f[3]?.getD 0 : Nat) : Int)) := HB1.out.cell 10
  have y11 : w2.cell? ⟨w.heap.size, 11, none⟩ = some (.int .u64 ((x.f[4]?.getD 0 : Nat) : Int)) := HB1.out.cell 11
  have y12 : w2.cell? ⟨w.heap.size, 12, none⟩ = some (.int .u64 ((x.f[5]?.getD 0 : Nat) : Int)) := HB1.out.cell 12
  have y13 : w2.cell? ⟨w.heap.size, 13, none⟩ = some (.int .u64 ((x.f[6]?.getD 0 : Nat) : Int)) := HB1.out.cell 13
  have y14 : w2.cell? ⟨w.heap.size, 14, none⟩ = some (.int .u64 ((x.f[7]?.getD 0 : Nat) : Int)) := HB1.out.cell 14
  go_wp2_with (refine step_store (o := ⟨none, _, _, _, _, _⟩) (vs := adc x) rfl rfl rfl rfl HZ.out infoAdTS15 rfl (adc_one _) ?_; intro w3 hb3 hg3 hs3)
  refine bodyPost_ret (results_one8 rfl _ rfl hb3 Try.underlying40 rfl infoAdTS15) rfl ?_
  exact ⟨rfl, HL1.out.grown hg3 HL1.out.size (fun k hk => by injection hk with e; omega)⟩
def OurP15 (l : List Ad) (w : World) (e : Ending) (w' : World) : Prop := ∃ A c, e = .returned (.slice A l.length c) ∧ Acc15 w' w.heap.size A c l ∧ Below w.heap.size w w'
set_option maxHeartbeats 3200000 in
theorem ours15_calls (a : Option Addr) (n c : Nat) (l : List Ad) (w : World) (hr : Row adc w w.heap.size a n l) (hn : n ≤ 1073741824) : Calls Try.prog 19 #[.slice a n c] w (OurP15 l w) := by
  have HR := Lib.hid hr
  have HN := Lib.hid (And.intro hr.1 hn)
  unfold OurP15
  clear hr
  go_enter Try.func19, Try.ntmps19
  go_wp2_with fail
  go_loopw [3, 8] (fun s t W => ∃ (i c1 : Nat) (A : Option Addr), s = .slice A i c1 ∧ t = .int .i64 (i : Int) ∧ i ≤ n ∧ Acc15 W w.heap.size A c1 (l.take i) ∧ Below w.heap.size w W) (fun s t W => n - (intOf t).toNat)
  case atStart => exact ⟨0, 0, none, rfl, rfl, Nat.zero_le _, AccR.nil _ _ _, Below.refl _ _⟩
  case round =>
    obtain ⟨i, c1, A, rfl, rfl, hin, ha, hb⟩ := hrel
    have HAC := Lib.hid ha
    have HBL := Lib.hid hb
    clear ha hb
    by_cases hin2 : i < n
    · have i1 : (i : Int) < (n : Int) := by omega
      have HII := Lib.hid hin2
      obtain ⟨b, o, x, rfl, hx, hb, hc⟩ := cells15 adc_length HR.out hin2
      have HX := Lib.hid hx
      have HCE := Lib.hid (hc wr HBL.out)
      clear hx hb hc hin hin2
      have z0 : wr.cell? ⟨b, o + i * 15, none⟩ = some (.int .i64 x.k.f) := HCE.out 0 _ rfl
      have z1 : wr.cell? ⟨b, o + i * 15 + 1, none⟩ = some (.int .i64 x.k.t) := HCE.out 1 _ rfl
      have z2 : wr.cell? ⟨b, o + i * 15 + 2, none⟩ = some (.int .u64 x.k.c) := HCE.out 2 _ rfl
      have z3 : wr.cell? ⟨b, o + i * 15 + 3, none⟩ = some (.int .i64 x.k.m) := HCE.out 3 _ rfl
      have z4 : wr.cell? ⟨b, o + i * 15 + 4, none⟩ = some (.int .u32 x.k.g) := HCE.out 4 _ rfl
      have z5 : wr.cell? ⟨b, o + i * 15 + 5, none⟩ = some (.int .i64 x.q) := HCE.out 5 _ rfl
      have z6 : wr.cell? ⟨b, o + i * 15 + 6, none⟩ = some (.bool x.up) := HCE.out 6 _ rfl
      have z7 : wr.cell? ⟨b, o + i * 15 + 7, none⟩ = some (.int .u64 ((x.f[0]?.getD 0 : Nat) : Int)) := HCE.out 7 _ rfl
      have z8 : wr.cell? ⟨b, o + i * 15 + 8, none⟩ = some (.int .u64 ((x.f[1]?.getD 0 : Nat) : Int)) := HCE.out 8 _ rfl
      have z9 : wr.cell? ⟨b, o + i * 15 + 9, none⟩ = some (.int .u64 ((x.f[2]?.getD 0 : Nat) : Int)) := HCE.out 9 _ rfl
      have z10 : wr.cell? ⟨b, o + i * 15 + 10, none⟩ = some (.int .u64 ((x.f[3]?.getD 0 : Nat) : Int)) := HCE.out 10 _ rfl
      have z11 : wr.cell? ⟨b, o + i * 15 + 11, none⟩ = some (.int .u64 ((x.f[4]?.getD 0 : Nat) : Int)) := HCE.out 11 _ rfl
      have z12 : wr.cell? ⟨b, o + i * 15 + 12, none⟩ = some (.int .u64 ((x.f[5]?.getD 0 : Nat) : Int)) := HCE.out 12 _ rfl
      have z13 : wr.cell? ⟨b, o + i * 15 + 13, none⟩ = some (.int .u64 ((x.f[6]?.getD 0 : Nat) : Int)) := HCE.out 13 _ rfl
      have z14 : wr.cell? ⟨b, o + i * 15 + 14, none⟩ = some (.int .u64 ((x.f[7]?.getD 0 : Nat) : Int)) := HCE.out 14 _ rfl
      go_upto_region 5 with fail
      clear z0 z1 z2 z3 z4 z5 z6 z7 z8 z9 z10 z11 z12 z13 z14
      have H5 := Lib.hid (show Blk (wr.alloc (.cells #[.int .i64 x.k.f, .int .i64 x.k.t, .int .u64 x.k.c, .int .i64 x.k.m, .int .u32 x.k.g, .int .i64 x.q, .bool x.up, .int .u64 ((x.f[0]?.getD 0 : Nat) : Int), .int .u64 ((x.f[1]?.getD 0 : Nat) : Int), .int .u64 ((x.f[2]?.getD 0 : Nat) : Int), .int .u64 ((x.f[3]?.getD 0 : Nat) : Int), .int .u64 ((x.f[4]?.getD 0 : Nat) : Int), .int .u64 ((x.f[5]?.getD 0 : Nat) : Int), .int .u64 ((x.f[6]?.getD 0 : Nat) : Int), .int .u64 ((x.f[7]?.getD 0 : Nat) : Int)] 40)) wr.heap.size 40 (adc x) from Blk.new wr 40 (adc x))
      have L5 := Lib.hid (bel_new HBL.out (.cells #[.int .i64 x.k.f, .int .i64 x.k.t, .int .u64 x.k.c, .int .i64 x.k.m, .int .u32 x.k.g, .int .i64 x.q, .bool x.up, .int .u64 ((x.f[0]?.getD 0 : Nat) : Int), .int .u64 ((x.f[1]?.getD 0 : Nat) : Int), .int .u64 ((x.f[2]?.getD 0 : Nat) : Int), .int .u64 ((x.f[3]?.getD 0 : Nat) : Int), .int .u64 ((x.f[4]?.getD 0 : Nat) : Int), .int .u64 ((x.f[5]?.getD 0 : Nat) : Int), .int .u64 ((x.f[6]?.getD 0 : Nat) : Int), .int .u64 ((x.f[7]?.getD 0 : Nat) : Int)] 40))
      have A5 := Lib.hid (AccR.alloc HAC.out (.cells #[.int .i64 x.k.f, .int .i64 x.k.t, .int .u64 x.k.c, .int .i64 x.k.m, .int .u32 x.k.g, .int .i64 x.q, .bool x.up, .int .u64 ((x.f[0]?.getD 0 : Nat) : Int), .int .u64 ((x.f[1]?.getD 0 : Nat) : Int), .int .u64 ((x.f[2]?.getD 0 : Nat) : Int), .int .u64 ((x.f[3]?.getD 0 : Nat) : Int), .int .u64 ((x.f[4]?.getD 0 : Nat) : Int), .int .u64 ((x.f[5]?.getD 0 : Nat) : Int), .int .u64 ((x.f[6]?.getD 0 : Nat) : Int), .int .u64 ((x.f[7]?.getD 0 : Nat) : Int)] 40))
      clear HCE
      generalize wr.alloc _ = w5 at *
      have y0 : w5.cell? ⟨wr.heap.size, 0, none⟩ = some (.int .i64 x.k.f) := H5.out.cell 0
      have y1 : w5.cell? ⟨wr.heap.size, 1, none⟩ = some (.int .i64 x.k.t) := H5.out.cell 1
      have y2 : w5.cell? ⟨wr.heap.size, 2, none⟩ = some (.int .u64 x.k.c) := H5.out.cell 2
      have y3 : w5.cell? ⟨wr.heap.size, 3, none⟩ = some (.int .i64 x.k.m) := H5.out.cell 3
      have y4 : w5.cell? ⟨wr.heap.size, 4, none⟩ = some (.int .u32 x.k.g) := H5.out.cell 4
      have y5 : w5.cell? ⟨wr.heap.size, 5, none⟩ = some (.int .i64 x.q) := H5.out.cell 5
      have y6 : w5.cell? ⟨wr.heap.size, 6, none⟩ = some (.bool x.up) := H5.out.cell 6
      have y7 : w5.cell? ⟨wr.heap.size, 7, none⟩ = some (.int .u64 ((x.f[0]?.getD 0 : Nat) : Int)) := H5.out.cell 7
      have y8 : w5.cell? ⟨wr.heap.size, 8, none⟩ = some (.int .u64 ((x.f[1]?.getD 0 : Nat) : Int)) := H5.out.cell 8
      have y9 : w5.cell? ⟨wr.heap.size, 9, none⟩ = some (.int .u64 ((x.f[2]?.getD 0 : Nat) : Int)) := H5.out.cell 9
      have y10 : w5.cell? ⟨wr.heap.size, 10, none⟩ = some (.int .u64 ((x.f[3]?.getD 0 : Nat) : Int)) := H5.out.cell 10
      have y11 : w5.cell? ⟨wr.heap.size, 11, none⟩ = some (.int .u64 ((x.f[4]?.getD 0 : Nat) : Int)) := H5.out.cell 11
      have y12 : w5.cell? ⟨wr.heap.size, 12, none⟩ = some (.int .u64 ((x.f[5]?.getD 0 : Nat) : Int)) := H5.out.cell 12
      have y13 : w5.cell? ⟨wr.heap.size, 13, none⟩ = some (.int .u64 ((x.f[6]?.getD 0 : Nat) : Int)) := H5.out.cell 13
      have y14 : w5.cell? ⟨wr.heap.size, 14, none⟩ = some (.int .u64 ((x.f[7]?.getD 0 : Nat) : Int)) := H5.out.cell 14
      have hlen : (l.take i).length = i := by rw [List.length_take]; have := HN.out.1; have := HII.out; omega
      obtain ⟨A8, c8, w8, r8, a8, g8⟩ := acc15_push A5.out x L5.out.size (by rw [hlen]; have := HN.out.2; have := HII.out; omega)
      rw [hlen] at r8
      rw [← take_snoc15 HX.out] at a8
      have B8 := Lib.hid (show Below w.heap.size w w8 from belr_acc L5.out A5.out g8)
      have A8' := Lib.hid a8
      have R8 := Lib.hid r8
      clear r8 a8 g8 hlen
      go_wp2_with (at_builtin; refine step_append rfl rfl rfl rfl R8.out ?_)
      go_roundw
      case rel => exact ⟨i + 1, c8, A8, rfl, by first | rfl | (simp; omega), HII.out, A8'.out, B8.out⟩
      case measure => have := HII.out; simp [intOf]; omega
    · obtain rfl : i = n := by omega
      have i1 : ¬ (i : Int) < (i : Int) := by omega
      clear hin hin2
      go_wp2_with fail
      go_ret
      have := HAC.out
      rw [List.take_of_length_le (by rw [HN.out.1]; exact Nat.le_refl _)] at this
      exact ⟨A, c1, by rw [HN.out.1]; rfl, this, HBL.out⟩
end Go.Proofs.Ytmfmjdkeoiebpaa
