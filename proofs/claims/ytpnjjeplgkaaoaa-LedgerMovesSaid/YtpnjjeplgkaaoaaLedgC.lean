/-
  What the code of layer 13 (ledger) must keep, and what the laws ask first of all, under that. Condition: as its theorems say.
-/
import Derived.Test.YtpnjjeplgkaaoaaLedgT
namespace Go.Proofs.Ytpnjjeplgkaaoaa
set_option maxRecDepth 100000
set_option linter.unusedVariables false
open Go.RowKit

def AddOk13 : Prop := ∀ a b : Nat, a < 18446744073709551616 → b < 18446744073709551616 → ∀ w, Calls Try.prog 11 #[.int .u64 (a : Int), .int .u64 (b : Int)] w (Two13 (a + b) w)
def SumOk13 : Prop := ∀ l, LgOk l → ∀ w, Calls Try.prog 13 #[.agg (lgc l).toArray] w (Two13 l.held.sum w)
def RightOk13 : Prop := ∀ l, LgOk l → ∀ w, Calls Try.prog 16 #[.agg (lgc l).toArray] w fun e w' => e = .returned (.bool (lRight l)) ∧ Below w.heap.size w w'
def FreeOk13 : Prop := ∀ l, LgOk l → ∀ w, Calls Try.prog 18 #[.agg (lgc l).toArray] w fun e w' => e = .returned (.agg (hlc (lFree l)).toArray) ∧ Below w.heap.size w w'
def PutOk13 : Prop := ∀ l, LgOk l → ∀ p : Int, -9223372036854775808 ≤ p → p < 9223372036854775808 → ∀ b : Nat, b < 18446744073709551616 → ∀ w, Calls Try.prog 20 #[.agg (lgc l).toArray, .int .i64 p, .int .u64 (b : Int)] w (Lgn13 (lPut l p b) w)
def TakeOk13 : Prop := ∀ l, LgOk l → ∀ p : Int, -9223372036854775808 ≤ p → p < 9223372036854775808 → ∀ b : Nat, b < 18446744073709551616 → ∀ w, Calls Try.prog 22 #[.agg (lgc l).toArray, .int .i64 p, .int .u64 (b : Int)] w (Lgn13 (lTake l p b) w)
theorem infoLedg9 (l : Lg) (h : LgOk l) : (Try.prog.info? 30).map (·.size) = some (lgc l).length := by rw [lgc_length h]; exact infoLedgL
theorem infoLedg9R (l : Lg) (h : LgOk l) : (Try.prog.info? 25).map (·.size) = some (lgc l).length := by rw [lgc_length h]; exact infoLedgR

theorem alive13_calls (h1 : AddOk13) (h2 : RightOk13) (h3 : FreeOk13) (h4 : PutOk13) (w : World) : Calls Try.prog 10 #[] w fun e w' => e = .returned (.bool true) ∧ Below w.heap.size w w' := by
  have okA : LgOk ⟨10, [0, 0, 0, 4, 0, 0, 0, 3]⟩ := ⟨rfl, by decide, by decide⟩
  have p1 : ∀ w, Calls Try.prog 20 #[.agg #[.int .u64 10, .int .u64 0, .int .u64 0, .int .u64 0, .int .u64 4, .int .u64 0, .int .u64 0, .int .u64 0, .int .u64 3], .int .i64 3, .int .u64 3] w fun e w' => e = .returned (.tuple #[.agg #[.int .u64 10, .int .u64 0, .int .u64 0, .int .u64 0, .int .u64 7, .int .u64 0, .int .u64 0, .int .u64 0, .int .u64 3], .int .i64 0]) ∧ Below w.heap.size w w' :=
    h4 _ okA 3 (by decide) (by decide) 3 (by decide)
  have p2 : ∀ w, Calls Try.prog 20 #[.agg #[.int .u64 10, .int .u64 0, .int .u64 0, .int .u64 0, .int .u64 4, .int .u64 0, .int .u64 0, .int .u64 0, .int .u64 3], .int .i64 3, .int .u64 4] w fun e w' => e = .returned (.tuple #[.agg #[.int .u64 0, .int .u64 0, .int .u64 0, .int .u64 0, .int .u64 0, .int .u64 0, .int .u64 0, .int .u64 0, .int .u64 0], .int .i64 14]) ∧ Below w.heap.size w w' :=
    h4 _ okA 3 (by decide) (by decide) 4 (by decide)
  have p3 : ∀ w, Calls Try.prog 11 #[.int .u64 18446744073709551615, .int .u64 1] w fun e w' => e = .returned (.tuple #[.int .u64 0, .bool false]) ∧ Below w.heap.size w w' := h1 18446744073709551615 1 (by decide) (by decide)
  have p4 : ∀ w, Calls Try.prog 16 #[.agg #[.int .u64 10, .int .u64 0, .int .u64 0, .int .u64 0, .int .u64 4, .int .u64 0, .int .u64 0, .int .u64 0, .int .u64 3]] w fun e w' => e = .returned (.bool true) ∧ Below w.heap.size w w' := h2 _ okA
  have p5 : ∀ w, Calls Try.prog 18 #[.agg #[.int .u64 10, .int .u64 0, .int .u64 0, .int .u64 0, .int .u64 4, .int .u64 0, .int .u64 0, .int .u64 0, .int .u64 3]] w fun e w' => e = .returned (.agg #[.int .u64 10, .int .u64 10, .int .u64 10, .int .u64 6, .int .u64 6, .int .u64 6, .int .u64 6, .int .u64 3]) ∧ Below w.heap.size w w' := h3 _ okA
  have pe : ∀ w, (binOp .eql 23 (.agg #[.int .u64 10, .int .u64 10, .int .u64 10, .int .u64 6, .int .u64 6, .int .u64 6, .int .u64 6, .int .u64 3]) (.agg #[.int .u64 10, .int .u64 10, .int .u64 10, .int .u64 6, .int .u64 6, .int .u64 6, .int .u64 6, .int .u64 3])).run Try.prog w = .ok (.bool true) w := fun w =>
    eq_hl (a := [10, 10, 10, 6, 6, 6, 6, 3]) (b := [10, 10, 10, 6, 6, 6, 6, 3]) rfl rfl w true ⟨fun _ => rfl, fun _ => rfl⟩
  have P1 := Lib.hid p1
  have P2 := Lib.hid p2
  have P3 := Lib.hid p3
  have P4 := Lib.hid p4
  have P5 := Lib.hid p5
  clear h1 h2 h3 h4 p1 p2 p3 p4 p5 okA
  go_enter Try.func10, Try.ntmps10
  go_upto_region 2 with fail
  have b0 := Blk.new w 30 [.int .u64 10, .int .u64 0, .int .u64 0, .int .u64 0, .int .u64 4, .int .u64 0, .int .u64 0, .int .u64 0, .int .u64 3]
  have B1 := Lib.hid b0
  have L1 := Lib.hid (bel_new (Below.refl w.heap.size w) (.cells #[.int .u64 10, .int .u64 0, .int .u64 0, .int .u64 0, .int .u64 4, .int .u64 0, .int .u64 0, .int .u64 0, .int .u64 3] 30))
  clear b0
  generalize w.alloc _ = w1 at *
  have hI : (Try.prog.info? 30).map (·.size) = some ([.int .u64 10, .int .u64 0, .int .u64 0, .int .u64 0, .int .u64 4, .int .u64 0, .int .u64 0, .int .u64 0, .int .u64 3] : List Value).length := infoLedgL
  have HI := Lib.hid hI
  clear hI
  go_wp2_with ((with_reducible refine step_load (o := ⟨some 11, _, _, _, _, _⟩) (x := .tmp 1) ?_ ?_ ?_ B1.out Try.underlying30 ?_ HI.out ?_); (rfl); (rfl); (rfl); (rfl))
  ((with_reducible refine (P1.out w1).mono ?_))
  rintro e w2 ⟨rfl, hb⟩
  have B2 := Lib.hid (B1.out.below hb)
  have L2 := Lib.hid (L1.out.trans (hb.mono L1.out.size))
  clear hb B1 L1
  go_upto_region 3 with fail
  have C2 := Lib.hid (Blk.new w2 30 [.int .u64 10, .int .u64 0, .int .u64 0, .int .u64 0, .int .u64 7, .int .u64 0, .int .u64 0, .int .u64 0, .int .u64 3])
  have B3 := Lib.hid (B2.out.alloc (.cells #[.int .u64 10, .int .u64 0, .int .u64 0, .int .u64 0, .int .u64 7, .int .u64 0, .int .u64 0, .int .u64 0, .int .u64 3] 30))
  have L3 := Lib.hid (bel_new L2.out (.cells #[.int .u64 10, .int .u64 0, .int .u64 0, .int .u64 0, .int .u64 7, .int .u64 0, .int .u64 0, .int .u64 0, .int .u64 3] 30))
  clear B2 L2
  generalize w2.alloc (.cells #[.int .u64 10, .int .u64 0, .int .u64 0, .int .u64 0, .int .u64 7, .int .u64 0, .int .u64 0, .int .u64 0, .int .u64 3] 30) = w3 at *
  generalize w2.heap.size = q at *
  go_wp2_with ((with_reducible refine step_load (o := ⟨some 16, _, _, _, _, _⟩) (x := .tmp 1) ?_ ?_ ?_ B3.out Try.underlying30 ?_ HI.out ?_); (rfl); (rfl); (rfl); (rfl))
  ((with_reducible refine (P2.out w3).mono ?_))
  rintro e w4 ⟨rfl, hb⟩
  have B4 := Lib.hid (B3.out.below hb)
  have C4 := Lib.hid (C2.out.below hb)
  have L4 := Lib.hid (L3.out.trans (hb.mono L3.out.size))
  clear hb B3 C2 L3
  go_upto_region 4 with fail
  have B5 := Lib.hid (B4.out.alloc (.cells #[.int .u64 0, .int .u64 0, .int .u64 0, .int .u64 0, .int .u64 0, .int .u64 0, .int .u64 0, .int .u64 0, .int .u64 0] 30))
  have C5 := Lib.hid (C4.out.alloc (.cells #[.int .u64 0, .int .u64 0, .int .u64 0, .int .u64 0, .int .u64 0, .int .u64 0, .int .u64 0, .int .u64 0, .int .u64 0] 30))
  have L5 := Lib.hid (bel_new L4.out (.cells #[.int .u64 0, .int .u64 0, .int .u64 0, .int .u64 0, .int .u64 0, .int .u64 0, .int .u64 0, .int .u64 0, .int .u64 0] 30))
  clear B4 C4 L4
  generalize w4.alloc (.cells #[.int .u64 0, .int .u64 0, .int .u64 0, .int .u64 0, .int .u64 0, .int .u64 0, .int .u64 0, .int .u64 0, .int .u64 0] 30) = w5 at *
  generalize w4.heap.size = q2 at *
  go_wp2_with fail
  ((with_reducible refine (P3.out w5).mono ?_))
  rintro e w6 ⟨rfl, hb⟩
  have B6 := Lib.hid (B5.out.below hb)
  have C6 := Lib.hid (C5.out.below hb)
  have L6 := Lib.hid (L5.out.trans (hb.mono L5.out.size))
  clear hb B5 C5 L5
  go_wp2_with ((with_reducible refine step_load (o := ⟨some 24, _, _, _, _, _⟩) (x := .tmp 1) ?_ ?_ ?_ B6.out Try.underlying30 ?_ HI.out ?_); (rfl); (rfl); (rfl); (rfl))
  ((with_reducible refine (P4.out w6).mono ?_))
  rintro e w7 ⟨rfl, hb⟩
  have B7 := Lib.hid (B6.out.below hb)
  have C7 := Lib.hid (C6.out.below hb)
  have L7 := Lib.hid (L6.out.trans (hb.mono L6.out.size))
  clear hb B6 C6 L6
  go_wp2_with ((with_reducible refine step_load_want (o := ⟨some 27, _, _, _, _, _⟩) (x := .tmp 1) ?_ ?_ ?_ B7.out Try.underlying30 ?_ HI.out ?_); (rfl); (rfl); (rfl); (rfl))
  ((with_reducible refine (P5.out w7).mono ?_))
  rintro e w8 ⟨rfl, hb⟩
  have C8 := Lib.hid (C7.out.below hb)
  have L8 := Lib.hid (L7.out.trans (hb.mono L7.out.size))
  clear hb B7 C7 L7
  have c4 : w8.cell? ⟨q, 4, none⟩ = some (.int .u64 7) := C8.out.cell 4
  go_wp2_with fail
  go_ret
  exact ⟨rfl, L8.out⟩
end Go.Proofs.Ytpnjjeplgkaaoaa
