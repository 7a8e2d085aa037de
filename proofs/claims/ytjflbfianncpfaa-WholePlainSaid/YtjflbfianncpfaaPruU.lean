/-
  The laws' Adverts, and what they ask first of all (alive; viaductlaw16). Condition: fewer than 2^30 adverts.
-/
import Derived.Test.YtjflbfianncpfaaPruRT
import Derived.Test.YtjflbfianncpfaaTedG
namespace Go.Proofs.Ytjflbfianncpfaa
set_option maxRecDepth 100000
set_option linter.unusedVariables false
open Go.RowKit

set_option maxHeartbeats 3200000 in
theorem adverts16_calls (a : Option Addr) (n c : Nat) (l : List Ad) (w : World) (hr : Row adc w w.heap.size a n l) (hn : n ≤ 1073741824) : Calls Try.prog 21 #[.slice a n c] w (OurT15 l w) := by
  have HR := Lib.hid hr
  have HN := Lib.hid (And.intro hr.1 hn)
  unfold OurT15
  clear hr
  go_enter Try.func21, Try.ntmps21
  go_wp2_with fail
  go_loopw [3, 8] (fun s t W => ∃ (i c1 : Nat) (A : Option Addr), s = .slice A i c1 ∧ t = .int .i64 (i : Int) ∧ i ≤ n ∧ AccT15 W w.heap.size A c1 (l.take i) ∧ Below w.heap.size w W) (fun s t W => n - (intOf t).toNat)
  case atStart => exact ⟨0, 0, none, rfl, rfl, Nat.zero_le _, AccR.nil _ _ _, Below.refl _ _⟩
  case round =>
    obtain ⟨i, c1, A, rfl, rfl, hin, ha, hb⟩ := hrel
    have HAC := Lib.hid ha
    have HBL := Lib.hid hb
    clear ha hb
    by_cases hin2 : i < n
    · have i1 : (i : Int) < (n : Int) := by omega
      have HII := Lib.hid hin2
      obtain ⟨b, o, x, rfl, hx, hb, hc⟩ := cells15 adc_length HR.out hin2
      have HX := Lib.hid hx
      have HCE := Lib.hid (hc wr HBL.out)
      clear hx hb hc hin hin2
      have z0 : wr.cell? ⟨b, o + i * 15, none⟩ = some (.int .i64 x.k.f) := HCE.out 0 _ rfl
      have z1 : wr.cell? ⟨b, o + i * 15 + 1, none⟩ = some (.int .i64 x.k.t) := HCE.out 1 _ rfl
      have z2 : wr.cell? ⟨b, o + i * 15 + 2, none⟩ = some (.int .u64 x.k.c) := HCE.out 2 _ rfl
      have z3 : wr.cell? ⟨b, o + i * 15 + 3, none⟩ = some (.int .i64 x.k.m) := HCE.out 3 _ rfl
      have z4 : wr.cell? ⟨b, o + i * 15 + 4, none⟩ = some (.int .u32 x.k.g) := HCE.out 4 _ rfl
      have z5 : wr.cell? ⟨b, o + i * 15 + 5, none⟩ = some (.int .i64 x.q) := HCE.out 5 _ rfl
      have z6 : wr.cell? ⟨b, o + i * 15 + 6, none⟩ = some (.bool x.up) := HCE.out 6 _ rfl
      have z7 : wr.cell? ⟨b, o + i * 15 + 7, none⟩ = some (.int .u64 ((x.f[0]?.getD 0 : Nat) : Int)) := HCE.out 7 _ rfl
      have z8 : wr.cell? ⟨b, o + i * 15 + 8, none⟩ = some (.int .u64 ((x.f[1]?.getD 0 : Nat) : Int)) := HCE.out 8 _ rfl
      have z9 : wr.cell? ⟨b, o + i * 15 + 9, none⟩ = some (.int .u64 ((x.f[2]?.getD 0 : Nat) : Int)) := HCE.out 9 _ rfl
      have z10 : wr.cell? ⟨b, o + i * 15 + 10, none⟩ = some (.int .u64 ((x.f[3]?.getD 0 : Nat) : Int)) := HCE.out 10 _ rfl
      have z11 : wr.cell? ⟨b, o + i * 15 + 11, none⟩ = some (.int .u64 ((x.f[4]?.getD 0 : Nat) : Int)) := HCE.out 11 _ rfl
      have z12 : wr.cell? ⟨b, o + i * 15 + 12, none⟩ = some (.int .u64 ((x.f[5]?.getD 0 : Nat) : Int)) := HCE.out 12 _ rfl
      have z13 : wr.cell? ⟨b, o + i * 15 + 13, none⟩ = some (.int .u64 ((x.f[6]?.getD 0 : Nat) : Int)) := HCE.out 13 _ rfl
      have z14 : wr.cell? ⟨b, o + i * 15 + 14, none⟩ = some (.int .u64 ((x.f[7]?.getD 0 : Nat) : Int)) := HCE.out 14 _ rfl
      go_upto_region 5 with fail
      clear z0 z1 z2 z3 z4 z5 z6 z7 z8 z9 z10 z11 z12 z13 z14
      have H5 := Lib.hid (show Blk (wr.alloc (.cells #[.int .i64 x.k.f, .int .i64 x.k.t, .int .u64 x.k.c, .int .i64 x.k.m, .int .u32 x.k.g, .int .i64 x.q, .bool x.up, .int .u64 ((x.f[0]?.getD 0 : Nat) : Int), .int .u64 ((x.f[1]?.getD 0 : Nat) : Int), .int .u64 ((x.f[2]?.getD 0 : Nat) : Int), .int .u64 ((x.f[3]?.getD 0 : Nat) : Int), .int .u64 ((x.f[4]?.getD 0 : Nat) : Int), .int .u64 ((x.f[5]?.getD 0 : Nat) : Int), .int .u64 ((x.f[6]?.getD 0 : Nat) : Int), .int .u64 ((x.f[7]?.getD 0 : Nat) : Int)] 76)) wr.heap.size 76 (adc x) from Blk.new wr 76 (adc x))
      have L5 := Lib.hid (bel_new HBL.out (.cells #[.int .i64 x.k.f, .int .i64 x.k.t, .int .u64 x.k.c, .int .i64 x.k.m, .int .u32 x.k.g, .int .i64 x.q, .bool x.up, .int .u64 ((x.f[0]?.getD 0 : Nat) : Int), .int .u64 ((x.f[1]?.getD 0 : Nat) : Int), .int .u64 ((x.f[2]?.getD 0 : Nat) : Int), .int .u64 ((x.f[3]?.getD 0 : Nat) : Int), .int .u64 ((x.f[4]?.getD 0 : Nat) : Int), .int .u64 ((x.f[5]?.getD 0 : Nat) : Int), .int .u64 ((x.f[6]?.getD 0 : Nat) : Int), .int .u64 ((x.f[7]?.getD 0 : Nat) : Int)] 76))
      have A5 := Lib.hid (AccR.alloc HAC.out (.cells #[.int .i64 x.k.f, .int .i64 x.k.t, .int .u64 x.k.c, .int .i64 x.k.m, .int .u32 x.k.g, .int .i64 x.q, .bool x.up, .int .u64 ((x.f[0]?.getD 0 : Nat) : Int), .int .u64 ((x.f[1]?.getD 0 : Nat) : Int), .int .u64 ((x.f[2]?.getD 0 : Nat) : Int), .int .u64 ((x.f[3]?.getD 0 : Nat) : Int), .int .u64 ((x.f[4]?.getD 0 : Nat) : Int), .int .u64 ((x.f[5]?.getD 0 : Nat) : Int), .int .u64 ((x.f[6]?.getD 0 : Nat) : Int), .int .u64 ((x.f[7]?.getD 0 : Nat) : Int)] 76))
      have K5 := Lib.hid (theirs15_lit x)
      clear HCE
      generalize wr.alloc _ = w5 at *
      have y0 : w5.cell? ⟨wr.heap.size, 0, none⟩ = some (.int .i64 x.k.f) := H5.out.cell 0
      have y1 : w5.cell? ⟨wr.heap.size, 1, none⟩ = some (.int .i64 x.k.t) := H5.out.cell 1
      have y2 : w5.cell? ⟨wr.heap.size, 2, none⟩ = some (.int .u64 x.k.c) := H5.out.cell 2
      have y3 : w5.cell? ⟨wr.heap.size, 3, none⟩ = some (.int .i64 x.k.m) := H5.out.cell 3
      have y4 : w5.cell? ⟨wr.heap.size, 4, none⟩ = some (.int .u32 x.k.g) := H5.out.cell 4
      have y5 : w5.cell? ⟨wr.heap.size, 5, none⟩ = some (.int .i64 x.q) := H5.out.cell 5
      have y6 : w5.cell? ⟨wr.heap.size, 6, none⟩ = some (.bool x.up) := H5.out.cell 6
      have y7 : w5.cell? ⟨wr.heap.size, 7, none⟩ = some (.int .u64 ((x.f[0]?.getD 0 : Nat) : Int)) := H5.out.cell 7
      have y8 : w5.cell? ⟨wr.heap.size, 8, none⟩ = some (.int .u64 ((x.f[1]?.getD 0 : Nat) : Int)) := H5.out.cell 8
      have y9 : w5.cell? ⟨wr.heap.size, 9, none⟩ = some (.int .u64 ((x.f[2]?.getD 0 : Nat) : Int)) := H5.out.cell 9
      have y10 : w5.cell? ⟨wr.heap.size, 10, none⟩ = some (.int .u64 ((x.f[3]?.getD 0 : Nat) : Int)) := H5.out.cell 10
      have y11 : w5.cell? ⟨wr.heap.size, 11, none⟩ = some (.int .u64 ((x.f[4]?.getD 0 : Nat) : Int)) := H5.out.cell 11
      have y12 : w5.cell? ⟨wr.heap.size, 12, none⟩ = some (.int .u64 ((x.f[5]?.getD 0 : Nat) : Int)) := H5.out.cell 12
      have y13 : w5.cell? ⟨wr.heap.size, 13, none⟩ = some (.int .u64 ((x.f[6]?.getD 0 : Nat) : Int)) := H5.out.cell 13
      have y14 : w5.cell? ⟨wr.heap.size, 14, none⟩ = some (.int .u64 ((x.f[7]?.getD 0 : Nat) : Int)) := H5.out.cell 14
      go_wp2_with fail
      ((with_reducible refine (K5.out w5).mono ?_))
      rintro e w6 ⟨rfl, h6⟩
      have A6 := Lib.hid (AccR.bel A5.out h6)
      have L6 := Lib.hid (L5.out.trans (h6.mono L5.out.size))
      clear h6 K5 A5 L5 H5 y0 y1 y2 y3 y4 y5 y6 y7 y8 y9 y10 y11 y12 y13 y14
      have hlen : (l.take i).length = i := by rw [List.length_take]; have := HN.out.1; have := HII.out; omega
      obtain ⟨A8, c8, w8, r8, a8, g8⟩ := acct15_push A6.out x L6.out.size (by rw [hlen]; have := HN.out.2; have := HII.out; omega)
      rw [hlen] at r8
      rw [← take_snoc15 HX.out] at a8
      have B8 := Lib.hid (show Below w.heap.size w w8 from belr_acc L6.out A6.out g8)
      have A8' := Lib.hid a8
      have R8 := Lib.hid r8
      clear r8 a8 g8 hlen
      go_wp2_with (at_builtin; refine step_append rfl rfl rfl rfl R8.out ?_)
      go_roundw
      case rel => exact ⟨i + 1, c8, A8, rfl, by first | rfl | (simp; omega), HII.out, A8'.out, B8.out⟩
      case measure => have := HII.out; simp [intOf]; omega
    · obtain rfl : i = n := by omega
      have i1 : ¬ (i : Int) < (i : Int) := by omega
      clear hin hin2
      go_wp2_with fail
      go_ret
      have := HAC.out
      rw [List.take_of_length_le (by rw [HN.out.1]; exact Nat.le_refl _)] at this
      exact ⟨A, c1, by rw [HN.out.1]; rfl, this, HBL.out⟩

def ax16 : Ad := ⟨⟨0, 1, 10, 1, 0⟩, 0, true, [10, 10, 10, 4, 4, 4, 4, 4]⟩
def w516 : Wn := ⟨5, 3, 0, 0, 0, 0⟩
def w016 : Wn := ⟨0, 0, 0, 0, 0, 0⟩
theorem ax16_ok : AdOk ax16 := ⟨rfl, by decide, by decide, by decide, by decide, by decide⟩
theorem no16 (W : World) (x : Wn) (h : x.an < 4294967296 ∧ x.al < 4294967296 ∧ x.no < 4294967296) : AkOk ⟨x, [], [], []⟩ ∧ AkIn W W.heap.size ⟨x, [], [], []⟩ ⟨none, 0, 0, none, 0, 0, none, 0, 0, 0⟩ :=
  ⟨⟨h, by simp⟩, ⟨Row.nil, Row.nil, Row.nil, by simp, by simp, by simp⟩⟩
theorem al16_1 : fit16 ⟨w516, [], [], []⟩ ax16 = false := by decide
theorem al16_2 : fit16 ⟨w516, [], [], [⟨0, 1, 1⟩]⟩ ax16 = true := by decide
theorem al16_3 : (lks16 [ax16] ⟨w016, [], [], []⟩).length = 1 := by decide
end Go.Proofs.Ytjflbfianncpfaa
