/-
  The law GroupMore, walked: for any want and any groups the answer is true, and nothing that was there has turned. Condition: groups are numbers of 32 bits.
-/
import Derived.Test.YtgfahcdhbpaofaaGroupAllowsW
import Derived.Deep.CutBlock
namespace Go.Proofs.Ytgfahcdhbpaofaa
set_option maxRecDepth 100000
set_option linter.unusedVariables false
open Go.RowKit

theorem gmore_walk (x : Wn) (hx : WnOk x) (g : Int) (hg : 0 ≤ g ∧ g < 4294967296) (m : Int) (hm : 0 ≤ m ∧ m < 4294967296) (w : World) : Calls Try.prog 7 #[.agg #[.int .u64 (x.bw : Int), .int .i64 x.su, .int .i64 x.ho, .int .u32 (x.an : Int), .int .u32 (x.al : Int), .int .u32 (x.no : Int)], .int .u32 g, .int .u32 m] w fun e w' => e = .returned (.bool true) ∧ Below w.heap.size w w' := by
  obtain ⟨g, rfl⟩ := Int.eq_ofNat_of_zero_le hg.1
  have hg' : g < 4294967296 := by omega
  obtain ⟨m, rfl⟩ := Int.eq_ofNat_of_zero_le hm.1
  have hm' : m < 4294967296 := by omega
  have hor : g ||| m < 4294967296 := Nat.or_lt_two_pow (n := 32) hg' hm'
  have F : bits .or .u32 (g : Int) (m : Int) = ((g ||| m : Nat) : Int) := u32_or_nat g m hg' hm'
  obtain ⟨xb, xs, xh, xan, xal, xno⟩ := x
  have hx0 : WnOk ⟨xb, xs, xh, xan, xal, 0⟩ := ⟨hx.1, hx.2.1, (by decide : 0 < 4294967296)⟩
  have hl := wAllows_more (w := ⟨xb, xs, xh, xan, xal, 0⟩) (g := g) (m := m) rfl
  have hd : ∃ d, wAllows ⟨xb, xs, xh, xan, xal, 0⟩ g = d := ⟨_, rfl⟩
  obtain ⟨d, hd⟩ := hd
  have hf : ∃ f, wAllows ⟨xb, xs, xh, xan, xal, 0⟩ (g ||| m) = f := ⟨_, rfl⟩
  obtain ⟨f, hf⟩ := hf
  have HZ := Lib.hid (fun W => (show Calls Try.prog 9 #[.agg #[.int .u64 (xb : Int), .int .i64 xs, .int .i64 xh, .int .u32 0, .int .u32 0, .int .u32 0], .int .u32 (g : Int)] W fun e w' => e = .returned (.bool true) ∧ Below W.heap.size W w' from wAllows_none xb xs xh g ▸ allows12_calls ⟨xb, xs, xh, 0, 0, 0⟩ ⟨(by decide : 0 < 4294967296), (by decide : 0 < 4294967296), (by decide : 0 < 4294967296)⟩ g hg' W))
  have HX := Lib.hid (fun W => (show Calls Try.prog 9 #[.agg #[.int .u64 (xb : Int), .int .i64 xs, .int .i64 xh, .int .u32 (xan : Int), .int .u32 (xal : Int), .int .u32 0], .int .u32 (g : Int)] W fun e w' => e = .returned (.bool d) ∧ Below W.heap.size W w' from hd ▸ allows12_calls ⟨xb, xs, xh, xan, xal, 0⟩ hx0 g hg' W))
  have HM := Lib.hid (fun W => (show Calls Try.prog 9 #[.agg #[.int .u64 (xb : Int), .int .i64 xs, .int .i64 xh, .int .u32 (xan : Int), .int .u32 (xal : Int), .int .u32 0], .int .u32 ((g ||| m : Nat) : Int)] W fun e w' => e = .returned (.bool f) ∧ Below W.heap.size W w' from hf ▸ allows12_calls ⟨xb, xs, xh, xan, xal, 0⟩ hx0 (g ||| m) hor W))
  rw [hd, hf] at hl
  have HH := Lib.hid hl
  clear hl
  generalize g ||| m = r at *
  have HA := Lib.hid (fun W => alive12_calls W)
  clear hd hf hx hx0 hg hg' hm hm' hor
  go_enter Try.func7, Try.ntmps7
  go_wp2_with fail
  have b0 : Blk (w.alloc (.cells #[.int .u64 (xb : Int), .int .i64 xs, .int .i64 xh, .int .u32 (xan : Int), .int .u32 (xal : Int), .int .u32 (xno : Int)] 25)) w.heap.size 25 [.int .u64 (xb : Int), .int .i64 xs, .int .i64 xh, .int .u32 (xan : Int), .int .u32 (xal : Int), .int .u32 (xno : Int)] := Blk.new w 25 [.int .u64 (xb : Int), .int .i64 xs, .int .i64 xh, .int .u32 (xan : Int), .int .u32 (xal : Int), .int .u32 (xno : Int)]
  have k0 : Below w.heap.size w (w.alloc (.cells #[.int .u64 (xb : Int), .int .i64 xs, .int .i64 xh, .int .u32 (xan : Int), .int .u32 (xal : Int), .int .u32 (xno : Int)] 25)) := bel_new (Below.refl _ _) _
  have HB := Lib.hid b0
  have K1 := Lib.hid k0
  clear b0 k0
  generalize w.alloc (.cells #[.int .u64 (xb : Int), .int .i64 xs, .int .i64 xh, .int .u32 (xan : Int), .int .u32 (xal : Int), .int .u32 (xno : Int)] 25) = w1 at *
  ((with_reducible refine (HA.out _).mono ?_))
  rintro e w2 ⟨rfl, hb⟩
  have B2 := Lib.hid (HB.out.below hb)
  have K2 := Lib.hid (K1.out.trans (hb.mono K1.out.size))
  clear hb HB K1 w1
  have c0 : w2.cell? ⟨w.heap.size, 0, none⟩ = some (.int .u64 (xb : Int)) := B2.out.cell 0
  have c1 : w2.cell? ⟨w.heap.size, 1, none⟩ = some (.int .i64 xs) := B2.out.cell 1
  have c2 : w2.cell? ⟨w.heap.size, 2, none⟩ = some (.int .i64 xh) := B2.out.cell 2
  go_wp2_with fail
  ((with_reducible refine (HZ.out _).mono ?_))
  rintro e w3 ⟨rfl, hb⟩
  have B3 := Lib.hid (B2.out.below hb)
  have K3 := Lib.hid (K2.out.trans (hb.mono K2.out.size))
  clear hb B2 K2 c0 c1 c2 w2
  have c5 : w3.cell? ⟨w.heap.size, 5, none⟩ = some (.int .u32 (xno : Int)) := B3.out.cell 5
  have f5 := B3.out.free 5
  go_upto_region 6 with fail
  have K4 := Lib.hid (K3.out.setCell (p := ⟨w.heap.size, 5, none⟩) (Nat.le_refl _) (.int .u32 0))
  have B4 := Lib.hid (show Blk (w3.setCell ⟨w.heap.size, 5, none⟩ (.int .u32 0)) w.heap.size 25 [.int .u64 (xb : Int), .int .i64 xs, .int .i64 xh, .int .u32 (xan : Int), .int .u32 (xal : Int), .int .u32 0] from B3.out.set 5 _)
  clear K3 B3 c5 f5
  generalize w3.setCell ⟨w.heap.size, 5, none⟩ (.int .u32 0) = w4 at *
  go_wp2_with (refine step_load (o := ⟨some 20, _, _, _, _, _⟩) rfl rfl rfl B4.out Try.underlying25 rfl infoWant ?_)
  ((with_reducible refine (HX.out _).mono ?_))
  rintro e w5 ⟨rfl, hb⟩
  have B5 := Lib.hid (B4.out.below hb)
  have K5 := Lib.hid (K4.out.trans (hb.mono K4.out.size))
  clear hb
  cases d with
  | false =>
    go_wp2_with fail
    go_ret
    exact ⟨rfl, K5.out⟩
  | true =>
    obtain rfl : f = true := by have h9 := HH.out; simpa using h9
    go_wp2_with (refine step_load_want (o := ⟨some 25, _, _, _, _, _⟩) (by rfl) rfl rfl B5.out Try.underlying25 rfl infoWant ?_)
    ((with_reducible refine (HM.out _).mono ?_))
    rintro e w6 ⟨rfl, hb⟩
    have B6 := Lib.hid (B5.out.below hb)
    have K6 := Lib.hid (K5.out.trans (hb.mono K5.out.size))
    clear hb
    go_wp2_with fail
    go_ret
    exact ⟨rfl, K6.out⟩
end Go.Proofs.Ytgfahcdhbpaofaa
