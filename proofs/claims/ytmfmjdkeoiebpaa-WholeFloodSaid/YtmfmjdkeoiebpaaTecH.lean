/-
  Contract of package tedb: read. Condition: 88 bytes are there.
-/
import Derived.Test.YtmfmjdkeoiebpaaTecG
namespace Go.Proofs.Ytmfmjdkeoiebpaa
set_option maxRecDepth 100000
set_option linter.unusedVariables false
open Go.RowKit

theorem num_cut (l : List UInt8) (n : Nat) : num (l.take n) < 256 ^ n := by
  have h := num_lt (l.take n)
  have h2 : 256 ^ (l.take n).length ≤ 256 ^ n := Nat.pow_le_pow_right (by omega) (by rw [List.length_take]; omega)
  omega
/-- The 88 bytes from a place on. -/
def ch15 (l : List UInt8) (i : Nat) : List UInt8 := (l.drop i).take 88
theorem ch15_cut (l : List UInt8) (i j n : Nat) (h : j + n ≤ 88) : (l.drop (i + j)).take n = ((ch15 l i).drop j).take n := by
  unfold ch15
  rw [List.drop_take, List.take_take, List.drop_drop, Nat.min_eq_left (by omega)]
section
variable {w : World} {r g : Nat} {l : List UInt8} {i : Nat}
theorem rd15_uint {j : Nat} (h : Rdr w r g l (i + j) 0) (n : Nat) (h1 : 1 ≤ n) (h8 : n ≤ 8) (hj : j + n ≤ 88) (hl : i + 88 ≤ l.length) :
    Calls Try.prog 57 #[.pointer (some ⟨r, 0, none⟩), .int .i64 (n : Int)] w fun e w' => e = .returned (.int .u64 ((num (((ch15 l i).drop j).take n) : Nat) : Int)) ∧ Rdr w' r g l (i + (j + n)) 0 ∧ w.grownBy w' (some r) := by
  refine (uint_ok h n h1 h8 (by omega)).mono ?_
  rintro e w' ⟨rfl, h2, h3⟩
  refine ⟨by rw [ch15_cut l i j n hj], ?_, h3⟩
  rw [show i + (j + n) = i + j + n by omega]
  exact h2
end
/-- The first p of eight numbers. -/
def ld15 (F : List Nat) (p : Nat) : List Nat := F.take p ++ List.replicate (8 - p) 0
theorem ld15_length {F : List Nat} (h : F.length = 8) {p : Nat} (hp : p ≤ 8) : (ld15 F p).length = 8 := by unfold ld15; rw [List.length_append, List.length_take, List.length_replicate]; omega
theorem ld15_set {F : List Nat} (h : F.length = 8) {p : Nat} (hp : p < 8) : (ld15 F p).set p (F.getD p 0) = ld15 F (p + 1) := by
  obtain ⟨a, b, c, d, e, f, g, i, rfl⟩ := list_eight h
  rcases p with _ | _ | _ | _ | _ | _ | _ | _ | p
  iterate 8 rfl
  omega
theorem ld15_all {F : List Nat} (h : F.length = 8) : ld15 F 8 = F := by unfold ld15; rw [List.take_of_length_le (by omega)]; simp
theorem gsA_is (b : List UInt8) : gsA b = ⟨⟨(num ((b.drop 0).take 1) : Nat), (num ((b.drop 1).take 1) : Nat), (num ((b.drop 8).take 8) : Nat), (num ((b.drop 16).take 4) : Nat), (num ((b.drop 20).take 4) : Nat)⟩, (num ((b.drop 4).take 4) : Nat), num ((b.drop 2).take 1) == 1, (gsA b).f⟩ := by
  simp [gsA, wid15, cuts, ofV, List.drop_drop]
theorem gsA_free (b : List UInt8) {p : Nat} (hp : p < 8) : num ((b.drop (24 + 8 * p)).take 8) = (gsA b).f.getD p 0 := by
  rcases p with _ | _ | _ | _ | _ | _ | _ | _ | p
  iterate 8 simp [gsA, wid15, cuts, ofV, List.drop_drop]
  omega
theorem grown_far15 {w W : World} {r q i : Nat} (h : w.grownBy W (some r)) (hq : w.heap.size ≤ q) (v : Value) : w.grownBy (W.setCell ⟨q, i, none⟩ v) (some r) :=
  ⟨h.os, h.tape, h.output, by simpa [World.setCell] using h.size, fun k hk hne => (Below.heap_setCell _ _ _ _ (by simp only; omega)).trans (h.block k hk hne)⟩
theorem Rdr.apart15 {W : World} {r g i q j : Nat} {l : List UInt8} {err : Int} (h : Rdr W r g l i err) (h1 : r ≠ q) (h2 : g ≠ q) (v : Value) : Rdr (W.setCell ⟨q, j, none⟩ v) r g l i err :=
  h.same (Below.heap_setCell _ _ _ _ h1) (Below.heap_setCell _ _ _ _ h2)
/-- An operation behind a guard that does not hold is not carried out. -/
theorem seq_unmake15 {P : Program} {ops : Array Oper} {Q : Exit → Act → World → Prop} {S : World → Prop} {i : Nat} {r : List (Nat × Bool)} {a : Act} {w : World} {o : Oper} (ho : ops.toList[i]? = some o) (hw : Region.wanted o (yielded ops a.tmps) = false) (hS : S w)
    (h : wpSeq P ops Q S r (a.put o.dst undef) w) : wpSeq P ops Q S ((i, false) :: r) a w := by
  refine wpOp_step (o := o) (by rw [← Array.getElem?_toList]; exact ho) (fun K hK => ?_)
  rw [if_neg (by rw [hw]; exact Bool.false_ne_true)]
  exact hK _ _ ⟨S, fun _ h => h, hS, h⟩
/-- What read answers. -/
def Rd15 (r g : Nat) (l : List UInt8) (i : Nat) (w : World) (e : Ending) (w' : World) : Prop :=
  e = .returned (.tuple #[.agg (adc (gsA (ch15 l i))).toArray, .bool (fineB (ch15 l i) && vldA (gsA (ch15 l i)))]) ∧ Rdr w' r g l (i + 88) 0 ∧ w.grownBy w' (some r)
set_option maxHeartbeats 12800000 in
theorem read15_calls (r g : Nat) (l : List UInt8) (i : Nat) (w : World) (h : Rdr w r g l i 0) (hl : i + 88 ≤ l.length) : Calls Try.prog 44 #[.pointer (some ⟨r, 0, none⟩)] w (Rd15 r g l i w) := by
  obtain ⟨b, hb⟩ : ∃ b, ch15 l i = b := ⟨_, rfl⟩
  unfold Rd15
  rw [hb]
  obtain ⟨X, hX⟩ : ∃ X, gsA b = X := ⟨_, rfl⟩
  rw [hX]
  have hok : AdOk X := by rw [← hX]; exact gsA_ok b
  have hi := gsA_is b
  have hfr := fun p hp => gsA_free b (p := p) hp
  rw [hX] at hi hfr
  have HUI := Lib.hid (fun (j n : Nat) (W : World) (h : Rdr W r g l (i + j) 0) (h1 : 1 ≤ n) (h8 : n ≤ 8) (hj : j + n ≤ 88) => (rd15_uint h n h1 h8 hj hl))
  rw [hb] at HUI
  have HFI := Lib.hid (show fineB b = decide (num ((b.drop 2).take 1) ≤ 1 ∧ num ((b.drop 3).take 1) = 0) from rfl)
  have hl0 := num_cut (b.drop 0) 1
  obtain ⟨v0, hv0⟩ : ∃ v, num ((b.drop 0).take 1) = v := ⟨_, rfl⟩
  have HV0 := Lib.hid hv0
  rw [hv0] at hl0 hi
  clear hv0
  have l0 : v0 < 256 := hl0
  clear hl0
  have hl1 := num_cut (b.drop 1) 1
  obtain ⟨v1, hv1⟩ : ∃ v, num ((b.drop 1).take 1) = v := ⟨_, rfl⟩
  have HV1 := Lib.hid hv1
  rw [hv1] at hl1 hi
  clear hv1
  have l1 : v1 < 256 := hl1
  clear hl1
  have hl2 := num_cut (b.drop 2) 1
  obtain ⟨v2, hv2⟩ : ∃ v, num ((b.drop 2).take 1) = v := ⟨_, rfl⟩
  have HV2 := Lib.hid hv2
  rw [hv2] at hl2 hi HFI
  clear hv2
  have l2 : v2 < 256 := hl2
  clear hl2
  have hl3 := num_cut (b.drop 3) 1
  obtain ⟨v3, hv3⟩ : ∃ v, num ((b.drop 3).take 1) = v := ⟨_, rfl⟩
  have HV3 := Lib.hid hv3
  rw [hv3] at hl3 HFI
  clear hv3
  have l3 : v3 < 256 := hl3
  clear hl3
  have hl4 := num_cut (b.drop 4) 4
  obtain ⟨v4, hv4⟩ : ∃ v, num ((b.drop 4).take 4) = v := ⟨_, rfl⟩
  have HV4 := Lib.hid hv4
  rw [hv4] at hl4 hi
  clear hv4
  have l4 : v4 < 4294967296 := hl4
  clear hl4
  have hl8 := num_cut (b.drop 8) 8
  obtain ⟨v8, hv8⟩ : ∃ v, num ((b.drop 8).take 8) = v := ⟨_, rfl⟩
  have HV8 := Lib.hid hv8
  rw [hv8] at hl8 hi
  clear hv8
  have l8 : v8 < 18446744073709551616 := hl8
  clear hl8
  have hl16 := num_cut (b.drop 16) 4
  obtain ⟨v16, hv16⟩ : ∃ v, num ((b.drop 16).take 4) = v := ⟨_, rfl⟩
  have HV16 := Lib.hid hv16
  rw [hv16] at hl16 hi
  clear hv16
  have l16 : v16 < 4294967296 := hl16
  clear hl16
  have hl20 := num_cut (b.drop 20) 4
  obtain ⟨v20, hv20⟩ : ∃ v, num ((b.drop 20).take 4) = v := ⟨_, rfl⟩
  have HV20 := Lib.hid hv20
  rw [hv20] at hl20 hi
  clear hv20
  have l20 : v20 < 4294967296 := hl20
  clear hl20
  obtain ⟨F, hF⟩ : ∃ F, X.f = F := ⟨_, rfl⟩
  have hFl : F.length = 8 := by rw [← hF]; exact hok.len
  rw [hF] at hi hfr
  have HI := Lib.hid hi
  have HFR := Lib.hid hfr
  have HFL := Lib.hid hFl
  have HOK := Lib.hid hok
  have HR0 := Lib.hid h
  have hrg : r < w.heap.size ∧ g < w.heap.size := ⟨h.lt, h.2.1.lt⟩
  have HRG := Lib.hid hrg
  have HB := Lib.hid hb
  have HIN := Lib.hid (fun x : Ad => (show (Try.prog.info? 40).map (·.size) = some (adc x).length from infoAdTS15))
  clear hi hfr hFl hok h hrg hb hX hF hl
  have k2 : Blk ((w.alloc (.cells #[.int .i64 0, .int .i64 0, .int .u64 0, .int .i64 0, .int .u32 0, .int .i64 0, .bool false, .int .u64 0, .int .u64 0, .int .u64 0, .int .u64 0, .int .u64 0, .int .u64 0, .int .u64 0, .int .u64 0] 40)).alloc (.cells #[.int .i64 0, .int .i64 0, .int .u64 0, .int .i64 0, .int .u32 0, .int .i64 0, .bool false, .int .u64 0, .int .u64 0, .int .u64 0, .int .u64 0, .int .u64 0, .int .u64 0, .int .u64 0, .int .u64 0] 40)) w.heap.size 40 zr15 := (show Blk (w.alloc (.cells #[.int .i64 0, .int .i64 0, .int .u64 0, .int .i64 0, .int .u32 0, .int .i64 0, .bool false, .int .u64 0, .int .u64 0, .int .u64 0, .int .u64 0, .int .u64 0, .int .u64 0, .int .u64 0, .int .u64 0] 40)) w.heap.size 40 zr15 from Blk.new w _ zr15).alloc _
  have k4 : Blk ((w.alloc (.cells #[.int .i64 0, .int .i64 0, .int .u64 0, .int .i64 0, .int .u32 0, .int .i64 0, .bool false, .int .u64 0, .int .u64 0, .int .u64 0, .int .u64 0, .int .u64 0, .int .u64 0, .int .u64 0, .int .u64 0] 40)).alloc (.cells #[.int .i64 0, .int .i64 0, .int .u64 0, .int .i64 0, .int .u32 0, .int .i64 0, .bool false, .int .u64 0, .int .u64 0, .int .u64 0, .int .u64 0, .int .u64 0, .int .u64 0, .int .u64 0, .int .u64 0] 40)) (w.heap.size + 1) 40 (adc ⟨⟨0, 0, 0, 0, 0⟩, 0, false, ld15 F 0⟩) := by
    have : Blk ((w.alloc (.cells #[.int .i64 0, .int .i64 0, .int .u64 0, .int .i64 0, .int .u32 0, .int .i64 0, .bool false, .int .u64 0, .int .u64 0, .int .u64 0, .int .u64 0, .int .u64 0, .int .u64 0, .int .u64 0, .int .u64 0] 40)).alloc (.cells #[.int .i64 0, .int .i64 0, .int .u64 0, .int .i64 0, .int .u32 0, .int .i64 0, .bool false, .int .u64 0, .int .u64 0, .int .u64 0, .int .u64 0, .int .u64 0, .int .u64 0, .int .u64 0, .int .u64 0] 40)) (w.alloc (.cells #[.int .i64 0, .int .i64 0, .int .u64 0, .int .i64 0, .int .u32 0, .int .i64 0, .bool false, .int .u64 0, .int .u64 0, .int .u64 0, .int .u64 0, .int .u64 0, .int .u64 0, .int .u64 0, .int .u64 0] 40)).heap.size 40 zr15 := Blk.new (w.alloc (.cells #[.int .i64 0, .int .i64 0, .int .u64 0, .int .i64 0, .int .u32 0, .int .i64 0, .bool false, .int .u64 0, .int .u64 0, .int .u64 0, .int .u64 0, .int .u64 0, .int .u64 0, .int .u64 0, .int .u64 0] 40)) 40 zr15
    rw [show (w.alloc (.cells #[.int .i64 0, .int .i64 0, .int .u64 0, .int .i64 0, .int .u32 0, .int .i64 0, .bool false, .int .u64 0, .int .u64 0, .int .u64 0, .int .u64 0, .int .u64 0, .int .u64 0, .int .u64 0, .int .u64 0] 40)).heap.size = w.heap.size + 1 by simp] at this
    exact this
  have lb := bel_new (bel_new (Below.refl w.heap.size w) (.cells #[.int .i64 0, .int .i64 0, .int .u64 0, .int .i64 0, .int .u32 0, .int .i64 0, .bool false, .int .u64 0, .int .u64 0, .int .u64 0, .int .u64 0, .int .u64 0, .int .u64 0, .int .u64 0, .int .u64 0] 40)) (.cells #[.int .i64 0, .int .i64 0, .int .u64 0, .int .i64 0, .int .u32 0, .int .i64 0, .bool false, .int .u64 0, .int .u64 0, .int .u64 0, .int .u64 0, .int .u64 0, .int .u64 0, .int .u64 0, .int .u64 0] 40)
  have K2 := Lib.hid k2
  have K4 := Lib.hid k4
  have G0 := Lib.hid (upd_below lb (some r))
  have R0 := Lib.hid (HR0.out.bel lb)
  clear k2 k4 lb HR0
  go_enter Try.func44, Try.ntmps44
  go_upto_region 2 with fail
  generalize ((w.alloc (.cells #[.int .i64 0, .int .i64 0, .int .u64 0, .int .i64 0, .int .u32 0, .int .i64 0, .bool false, .int .u64 0, .int .u64 0, .int .u64 0, .int .u64 0, .int .u64 0, .int .u64 0, .int .u64 0, .int .u64 0] 40)).alloc (.cells #[.int .i64 0, .int .i64 0, .int .u64 0, .int .i64 0, .int .u32 0, .int .i64 0, .bool false, .int .u64 0, .int .u64 0, .int .u64 0, .int .u64 0, .int .u64 0, .int .u64 0, .int .u64 0, .int .u64 0] 40)) = w1 at *
  have K2w1 := Lib.hid K2.out
  have K4w1 := Lib.hid K4.out
  have Gw1 := Lib.hid G0.out
  have Rw1 := Lib.hid (show Rdr w1 r g l (i + 0) 0 from R0.out)
  clear K2 K4 G0 R0
  have hp : Calls Try.prog 57 #[.pointer (some ⟨r, 0, none⟩), .int .i64 1] w1 fun e w' => e = .returned (.int .u64 (v0 : Int)) ∧ Rdr w' r g l (i + 1) 0 ∧ w1.grownBy w' (some r) := by
    have := HUI.out 0 1 w1 Rw1.out (by omega) (by omega) (by omega)
    rw [HV0.out] at this
    exact this
  have HP := Lib.hid hp
  clear hp
  go_wp2_with fail
  ((with_reducible refine HP.out.mono ?_))
  rintro e w2 ⟨rfl, hr, hg⟩
  have Rw2 := Lib.hid hr
  have Gw2 := Lib.hid (Gw1.out.trans hg)
  have K2w2 := Lib.hid (K2w1.out.same (hg.block _ K2w1.out.lt (fun e => by injection e with e; have := HRG.out; omega)))
  have K4w2 := Lib.hid (K4w1.out.same (hg.block _ K4w1.out.lt (fun e => by injection e with e; have := HRG.out; omega)))
  clear hr hg Rw1 Gw1 K2w1 K4w1 HP
  have y0 := K4w2.out.cell 0
  have f0 := K4w2.out.free 0
  go_upto_region 3 with fail
  clear y0 f0
  have K4w3 := Lib.hid (show Blk (w2.setCell ⟨w.heap.size + 1, 0, none⟩ (.int .i64 (v0 : Int))) (w.heap.size + 1) 40 (adc ⟨⟨(v0 : Int), 0, 0, 0, 0⟩, 0, false, ld15 F 0⟩) from K4w2.out.set 0 _)
  have K2w3 := Lib.hid (K2w2.out.other (p := ⟨w.heap.size + 1, 0, none⟩) (by simp only; omega) (.int .i64 (v0 : Int)))
  have Rw3 := Lib.hid (Rw2.out.apart15 (q := w.heap.size + 1) (j := 0) (by have := HRG.out; omega) (by have := HRG.out; omega) (.int .i64 (v0 : Int)))
  have Gw3 := Lib.hid (grown_far15 (q := w.heap.size + 1) (i := 0) Gw2.out (by omega) (.int .i64 (v0 : Int)))
  clear K4w2 K2w2 Rw2 Gw2
  generalize w2.setCell ⟨w.heap.size + 1, 0, none⟩ (.int .i64 (v0 : Int)) = w3 at *
  have hp : Calls Try.prog 57 #[.pointer (some ⟨r, 0, none⟩), .int .i64 1] w3 fun e w' => e = .returned (.int .u64 (v1 : Int)) ∧ Rdr w' r g l (i + 2) 0 ∧ w3.grownBy w' (some r) := by
    have := HUI.out 1 1 w3 Rw3.out (by omega) (by omega) (by omega)
    rw [HV1.out] at this
    exact this
  have HP := Lib.hid hp
  clear hp
  go_wp2_with fail
  ((with_reducible refine HP.out.mono ?_))
  rintro e w4 ⟨rfl, hr, hg⟩
  have Rw4 := Lib.hid hr
  have Gw4 := Lib.hid (Gw3.out.trans hg)
  have K2w4 := Lib.hid (K2w3.out.same (hg.block _ K2w3.out.lt (fun e => by injection e with e; have := HRG.out; omega)))
  have K4w4 := Lib.hid (K4w3.out.same (hg.block _ K4w3.out.lt (fun e => by injection e with e; have := HRG.out; omega)))
  clear hr hg Rw3 Gw3 K2w3 K4w3 HP
  have y0 := K4w4.out.cell 1
  have f0 := K4w4.out.free 1
  go_upto_region 4 with fail
  clear y0 f0
  have K4w5 := Lib.hid (show Blk (w4.setCell ⟨w.heap.size + 1, 1, none⟩ (.int .i64 (v1 : Int))) (w.heap.size + 1) 40 (adc ⟨⟨(v0 : Int), (v1 : Int), 0, 0, 0⟩, 0, false, ld15 F 0⟩) from K4w4.out.set 1 _)
  have K2w5 := Lib.hid (K2w4.out.other (p := ⟨w.heap.size + 1, 1, none⟩) (by simp only; omega) (.int .i64 (v1 : Int)))
  have Rw5 := Lib.hid (Rw4.out.apart15 (q := w.heap.size + 1) (j := 1) (by have := HRG.out; omega) (by have := HRG.out; omega) (.int .i64 (v1 : Int)))
  have Gw5 := Lib.hid (grown_far15 (q := w.heap.size + 1) (i := 1) Gw4.out (by omega) (.int .i64 (v1 : Int)))
  clear K4w4 K2w4 Rw4 Gw4
  generalize w4.setCell ⟨w.heap.size + 1, 1, none⟩ (.int .i64 (v1 : Int)) = w5 at *
  have hp : Calls Try.prog 57 #[.pointer (some ⟨r, 0, none⟩), .int .i64 1] w5 fun e w' => e = .returned (.int .u64 (v2 : Int)) ∧ Rdr w' r g l (i + 3) 0 ∧ w5.grownBy w' (some r) := by
    have := HUI.out 2 1 w5 Rw5.out (by omega) (by omega) (by omega)
    rw [HV2.out] at this
    exact this
  have HP := Lib.hid hp
  clear hp
  go_wp2_with fail
  ((with_reducible refine HP.out.mono ?_))
  rintro e w6 ⟨rfl, hr, hg⟩
  have Rw6 := Lib.hid hr
  have Gw6 := Lib.hid (Gw5.out.trans hg)
  have K2w6 := Lib.hid (K2w5.out.same (hg.block _ K2w5.out.lt (fun e => by injection e with e; have := HRG.out; omega)))
  have K4w6 := Lib.hid (K4w5.out.same (hg.block _ K4w5.out.lt (fun e => by injection e with e; have := HRG.out; omega)))
  clear hr hg Rw5 Gw5 K2w5 K4w5 HP
  have hp : Calls Try.prog 57 #[.pointer (some ⟨r, 0, none⟩), .int .i64 1] w6 fun e w' => e = .returned (.int .u64 (v3 : Int)) ∧ Rdr w' r g l (i + 4) 0 ∧ w6.grownBy w' (some r) := by
    have := HUI.out 3 1 w6 Rw6.out (by omega) (by omega) (by omega)
    rw [HV3.out] at this
    exact this
  have HP := Lib.hid hp
  clear hp
  go_wp2_with fail
  ((with_reducible refine HP.out.mono ?_))
  rintro e w7 ⟨rfl, hr, hg⟩
  have Rw7 := Lib.hid hr
  have Gw7 := Lib.hid (Gw6.out.trans hg)
  have K2w7 := Lib.hid (K2w6.out.same (hg.block _ K2w6.out.lt (fun e => by injection e with e; have := HRG.out; omega)))
  have K4w7 := Lib.hid (K4w6.out.same (hg.block _ K4w6.out.lt (fun e => by injection e with e; have := HRG.out; omega)))
  clear hr hg Rw6 Gw6 K2w6 K4w6 HP
  go_wp2_with fail
  ((with_reducible refine (bit15_calls true w7).mono ?_))
  rintro e w9 ⟨rfl, rfl⟩
  obtain ⟨up, hup⟩ : ∃ up, (v2 == 1) = up := ⟨_, rfl⟩
  have HUP := Lib.hid hup
  have d2 : decide ((v2 : Int) = ((bnum true : Nat) : Int)) = up := by
    rw [← hup]
    rw [Bool.eq_iff_iff]
    simp [bnum]
    omega
  have d3 : ((v2 : Int) == ((bnum true : Nat) : Int)) = up := by
    rw [← hup]
    rw [Bool.eq_iff_iff]
    simp [bnum]
    omega
  have y0 := K4w7.out.cell 6
  have f0 := K4w7.out.free 6
  go_upto_region 7 with fail
  clear y0 f0
  have K4w8 := Lib.hid (show Blk (w7.setCell ⟨w.heap.size + 1, 6, none⟩ (.bool up)) (w.heap.size + 1) 40 (adc ⟨⟨(v0 : Int), (v1 : Int), 0, 0, 0⟩, 0, up, ld15 F 0⟩) from K4w7.out.set 6 _)
  have K2w8 := Lib.hid (K2w7.out.other (p := ⟨w.heap.size + 1, 6, none⟩) (by simp only; omega) (.bool up))
  have Rw8 := Lib.hid (Rw7.out.apart15 (q := w.heap.size + 1) (j := 6) (by have := HRG.out; omega) (by have := HRG.out; omega) (.bool up))
  have Gw8 := Lib.hid (grown_far15 (q := w.heap.size + 1) (i := 6) Gw7.out (by omega) (.bool up))
  clear K4w7 K2w7 Rw7 Gw7
  generalize w7.setCell ⟨w.heap.size + 1, 6, none⟩ (.bool up) = w8 at *
  clear d2 d3 hup
  have hp : Calls Try.prog 57 #[.pointer (some ⟨r, 0, none⟩), .int .i64 4] w8 fun e w' => e = .returned (.int .u64 (v4 : Int)) ∧ Rdr w' r g l (i + 8) 0 ∧ w8.grownBy w' (some r) := by
    have := HUI.out 4 4 w8 Rw8.out (by omega) (by omega) (by omega)
    rw [HV4.out] at this
    exact this
  have HP := Lib.hid hp
  clear hp
  go_wp2_with fail
  ((with_reducible refine HP.out.mono ?_))
  rintro e w9 ⟨rfl, hr, hg⟩
  have Rw9 := Lib.hid hr
  have Gw9 := Lib.hid (Gw8.out.trans hg)
  have K2w9 := Lib.hid (K2w8.out.same (hg.block _ K2w8.out.lt (fun e => by injection e with e; have := HRG.out; omega)))
  have K4w9 := Lib.hid (K4w8.out.same (hg.block _ K4w8.out.lt (fun e => by injection e with e; have := HRG.out; omega)))
  clear hr hg Rw8 Gw8 K2w8 K4w8 HP
  have y0 := K4w9.out.cell 5
  have f0 := K4w9.out.free 5
  go_upto_region 8 with fail
  clear y0 f0
  have K4w10 := Lib.hid (show Blk (w9.setCell ⟨w.heap.size + 1, 5, none⟩ (.int .i64 (v4 : Int))) (w.heap.size + 1) 40 (adc ⟨⟨(v0 : Int), (v1 : Int), 0, 0, 0⟩, (v4 : Int), up, ld15 F 0⟩) from K4w9.out.set 5 _)
  have K2w10 := Lib.hid (K2w9.out.other (p := ⟨w.heap.size + 1, 5, none⟩) (by simp only; omega) (.int .i64 (v4 : Int)))
  have Rw10 := Lib.hid (Rw9.out.apart15 (q := w.heap.size + 1) (j := 5) (by have := HRG.out; omega) (by have := HRG.out; omega) (.int .i64 (v4 : Int)))
  have Gw10 := Lib.hid (grown_far15 (q := w.heap.size + 1) (i := 5) Gw9.out (by omega) (.int .i64 (v4 : Int)))
  clear K4w9 K2w9 Rw9 Gw9
  generalize w9.setCell ⟨w.heap.size + 1, 5, none⟩ (.int .i64 (v4 : Int)) = w10 at *
  have hp : Calls Try.prog 57 #[.pointer (some ⟨r, 0, none⟩), .int .i64 8] w10 fun e w' => e = .returned (.int .u64 (v8 : Int)) ∧ Rdr w' r g l (i + 16) 0 ∧ w10.grownBy w' (some r) := by
    have := HUI.out 8 8 w10 Rw10.out (by omega) (by omega) (by omega)
    rw [HV8.out] at this
    exact this
  have HP := Lib.hid hp
  clear hp
  go_wp2_with fail
  ((with_reducible refine HP.out.mono ?_))
  rintro e w11 ⟨rfl, hr, hg⟩
  have Rw11 := Lib.hid hr
  have Gw11 := Lib.hid (Gw10.out.trans hg)
  have K2w11 := Lib.hid (K2w10.out.same (hg.block _ K2w10.out.lt (fun e => by injection e with e; have := HRG.out; omega)))
  have K4w11 := Lib.hid (K4w10.out.same (hg.block _ K4w10.out.lt (fun e => by injection e with e; have := HRG.out; omega)))
  clear hr hg Rw10 Gw10 K2w10 K4w10 HP
  have y0 := K4w11.out.cell 2
  have f0 := K4w11.out.free 2
  go_upto_region 9 with fail
  clear y0 f0
  have K4w12 := Lib.hid (show Blk (w11.setCell ⟨w.heap.size + 1, 2, none⟩ (.int .u64 (v8 : Int))) (w.heap.size + 1) 40 (adc ⟨⟨(v0 : Int), (v1 : Int), (v8 : Int), 0, 0⟩, (v4 : Int), up, ld15 F 0⟩) from K4w11.out.set 2 _)
  have K2w12 := Lib.hid (K2w11.out.other (p := ⟨w.heap.size + 1, 2, none⟩) (by simp only; omega) (.int .u64 (v8 : Int)))
  have Rw12 := Lib.hid (Rw11.out.apart15 (q := w.heap.size + 1) (j := 2) (by have := HRG.out; omega) (by have := HRG.out; omega) (.int .u64 (v8 : Int)))
  have Gw12 := Lib.hid (grown_far15 (q := w.heap.size + 1) (i := 2) Gw11.out (by omega) (.int .u64 (v8 : Int)))
  clear K4w11 K2w11 Rw11 Gw11
  generalize w11.setCell ⟨w.heap.size + 1, 2, none⟩ (.int .u64 (v8 : Int)) = w12 at *
  have hp : Calls Try.prog 57 #[.pointer (some ⟨r, 0, none⟩), .int .i64 4] w12 fun e w' => e = .returned (.int .u64 (v16 : Int)) ∧ Rdr w' r g l (i + 20) 0 ∧ w12.grownBy w' (some r) := by
    have := HUI.out 16 4 w12 Rw12.out (by omega) (by omega) (by omega)
    rw [HV16.out] at this
    exact this
  have HP := Lib.hid hp
  clear hp
  go_wp2_with fail
  ((with_reducible refine HP.out.mono ?_))
  rintro e w13 ⟨rfl, hr, hg⟩
  have Rw13 := Lib.hid hr
  have Gw13 := Lib.hid (Gw12.out.trans hg)
  have K2w13 := Lib.hid (K2w12.out.same (hg.block _ K2w12.out.lt (fun e => by injection e with e; have := HRG.out; omega)))
  have K4w13 := Lib.hid (K4w12.out.same (hg.block _ K4w12.out.lt (fun e => by injection e with e; have := HRG.out; omega)))
  clear hr hg Rw12 Gw12 K2w12 K4w12 HP
  have y0 := K4w13.out.cell 3
  have f0 := K4w13.out.free 3
  go_upto_region 10 with fail
  clear y0 f0
  have K4w14 := Lib.hid (show Blk (w13.setCell ⟨w.heap.size + 1, 3, none⟩ (.int .i64 (v16 : Int))) (w.heap.size + 1) 40 (adc ⟨⟨(v0 : Int), (v1 : Int), (v8 : Int), (v16 : Int), 0⟩, (v4 : Int), up, ld15 F 0⟩) from K4w13.out.set 3 _)
  have K2w14 := Lib.hid (K2w13.out.other (p := ⟨w.heap.size + 1, 3, none⟩) (by simp only; omega) (.int .i64 (v16 : Int)))
  have Rw14 := Lib.hid (Rw13.out.apart15 (q := w.heap.size + 1) (j := 3) (by have := HRG.out; omega) (by have := HRG.out; omega) (.int .i64 (v16 : Int)))
  have Gw14 := Lib.hid (grown_far15 (q := w.heap.size + 1) (i := 3) Gw13.out (by omega) (.int .i64 (v16 : Int)))
  clear K4w13 K2w13 Rw13 Gw13
  generalize w13.setCell ⟨w.heap.size + 1, 3, none⟩ (.int .i64 (v16 : Int)) = w14 at *
  have hp : Calls Try.prog 57 #[.pointer (some ⟨r, 0, none⟩), .int .i64 4] w14 fun e w' => e = .returned (.int .u64 (v20 : Int)) ∧ Rdr w' r g l (i + 24) 0 ∧ w14.grownBy w' (some r) := by
    have := HUI.out 20 4 w14 Rw14.out (by omega) (by omega) (by omega)
    rw [HV20.out] at this
    exact this
  have HP := Lib.hid hp
  clear hp
  go_wp2_with fail
  ((with_reducible refine HP.out.mono ?_))
  rintro e w15 ⟨rfl, hr, hg⟩
  have Rw15 := Lib.hid hr
  have Gw15 := Lib.hid (Gw14.out.trans hg)
  have K2w15 := Lib.hid (K2w14.out.same (hg.block _ K2w14.out.lt (fun e => by injection e with e; have := HRG.out; omega)))
  have K4w15 := Lib.hid (K4w14.out.same (hg.block _ K4w14.out.lt (fun e => by injection e with e; have := HRG.out; omega)))
  clear hr hg Rw14 Gw14 K2w14 K4w14 HP
  have y0 := K4w15.out.cell 4
  have f0 := K4w15.out.free 4
  go_upto_region 11 with fail
  clear y0 f0
  have K4w16 := Lib.hid (show Blk (w15.setCell ⟨w.heap.size + 1, 4, none⟩ (.int .u32 (v20 : Int))) (w.heap.size + 1) 40 (adc ⟨⟨(v0 : Int), (v1 : Int), (v8 : Int), (v16 : Int), (v20 : Int)⟩, (v4 : Int), up, ld15 F 0⟩) from K4w15.out.set 4 _)
  have K2w16 := Lib.hid (K2w15.out.other (p := ⟨w.heap.size + 1, 4, none⟩) (by simp only; omega) (.int .u32 (v20 : Int)))
  have Rw16 := Lib.hid (Rw15.out.apart15 (q := w.heap.size + 1) (j := 4) (by have := HRG.out; omega) (by have := HRG.out; omega) (.int .u32 (v20 : Int)))
  have Gw16 := Lib.hid (grown_far15 (q := w.heap.size + 1) (i := 4) Gw15.out (by omega) (.int .u32 (v20 : Int)))
  clear K4w15 K2w15 Rw15 Gw15
  generalize w15.setCell ⟨w.heap.size + 1, 4, none⟩ (.int .u32 (v20 : Int)) = w16 at *
  go_wp2_with fail
  go_loopw [44] (fun s W => ∃ p : Nat, p ≤ 8 ∧ s = .int .i64 (p : Int) ∧ Blk W (w.heap.size + 1) 40 (adc ⟨⟨(v0 : Int), (v1 : Int), (v8 : Int), (v16 : Int), (v20 : Int)⟩, (v4 : Int), up, ld15 F p⟩) ∧ Blk W w.heap.size 40 zr15 ∧ Rdr W r g l (i + (24 + 8 * p)) 0 ∧ w.grownBy W (some r)) (fun s W => 8 - (intOf s).toNat)
  case atStart => exact ⟨0, by omega, rfl, K4w16.out, K2w16.out, Rw16.out, Gw16.out⟩
  case round =>
    clear K4w16 K2w16 Rw16 Gw16
    obtain ⟨p, hp, rfl, hk4, hk2, hr, hg⟩ := hrel
    have K4 := Lib.hid hk4
    have K2 := Lib.hid hk2
    have R := Lib.hid hr
    have G := Lib.hid hg
    clear hk4 hk2 hr hg
    by_cases hp8 : p < 8
    · have p1 : (p : Int) < 8 := by omega
      have HP8 := Lib.hid hp8
      have hp : Calls Try.prog 57 #[.pointer (some ⟨r, 0, none⟩), .int .i64 8] wr fun e w' => e = .returned (.int .u64 ((F.getD p 0 : Nat) : Int)) ∧ Rdr w' r g l (i + (24 + 8 * p + 8)) 0 ∧ wr.grownBy w' (some r) := by
        have := HUI.out (24 + 8 * p) 8 wr R.out (by omega) (by omega) (by omega)
        rw [HFR.out p HP8.out] at this
        exact this
      obtain ⟨v, hv⟩ : ∃ v, F.getD p 0 = v := ⟨_, rfl⟩
      rw [hv] at hp
      have HVV := Lib.hid hv
      have HP := Lib.hid hp
      clear hp hv hp8
      go_wp2_with fail
      ((with_reducible refine HP.out.mono ?_))
      rintro e w9 ⟨rfl, hr, hg⟩
      have R9 := Lib.hid (show Rdr w9 r g l (i + (24 + 8 * (p + 1))) 0 from by rw [show 24 + 8 * (p + 1) = 24 + 8 * p + 8 by omega]; exact hr)
      have G9 := Lib.hid (G.out.trans hg)
      have K29 := Lib.hid (K2.out.same (hg.block _ K2.out.lt (fun e => by injection e with e; have := HRG.out; omega)))
      have K49 := Lib.hid (K4.out.same (hg.block _ K4.out.lt (fun e => by injection e with e; have := HRG.out; omega)))
      clear hr hg R G K2 K4 HP
      have y0 : w9.cell? ⟨w.heap.size + 1, 7 + p, none⟩ = some (.int .u64 (((ld15 F p).getD p 0 : Nat) : Int)) := (K49.out.cell _).trans (adc_free _ HP8.out)
      have f0 := K49.out.free (7 + p)
      go_wp2_with fail
      go_roundw
      case rel =>
        refine ⟨p + 1, by have := HP8.out; omega, by first | rfl | (simp; omega), ?_, ?_, ?_, ?_⟩
        · have := K49.out.set (7 + p) (.int .u64 (v : Int))
          rw [← adc_set _ _ _ (ld15_length HFL.out (by have := HP8.out; omega)) HP8.out v, ← HVV.out, ld15_set HFL.out HP8.out] at this
          rw [← HVV.out]
          exact this
        · exact K29.out.other (p := ⟨w.heap.size + 1, 7 + p, none⟩) (by simp only; omega) _
        · exact R9.out.apart15 (by have := HRG.out; omega) (by have := HRG.out; omega) _
        · exact grown_far15 G9.out (by omega) _
      case measure => have := HP8.out; simp [intOf]; omega
    · obtain rfl : p = 8 := by omega
      clear hp hp8
      have hX : adc ⟨⟨(v0 : Int), (v1 : Int), (v8 : Int), (v16 : Int), (v20 : Int)⟩, (v4 : Int), up, ld15 F 8⟩ = adc X := by
        rw [ld15_all HFL.out]
        have := HI.out
        rw [HUP.out] at this
        rw [this]
      have hk := K4.out
      rw [hX] at hk
      have HK := Lib.hid hk
      have RR := Lib.hid (show Rdr wr r g l (i + 88) 0 from R.out)
      have hq : I15 X.q := by
        rw [HI.out]
        unfold I15
        simp only
        omega
      have HQ := Lib.hid hq
      have hup : X.up = up := by rw [HI.out]; exact HUP.out
      have HUX := Lib.hid hup
      have HMAY := Lib.hid (fun W => may15c_calls X HOK.out HQ.out W)
      unfold Yes15 at HMAY
      clear hX hk hq hup K4 R
      have y6 : ∀ W, Blk W (w.heap.size + 1) 40 (adc X) → W.cell? ⟨w.heap.size + 1, 6, none⟩ = some (.bool up) := fun W h => by rw [← HUX.out]; exact h.cell 6
      have HY6 := Lib.hid y6
      obtain ⟨z, hz⟩ : ∃ z, bnum up = z := ⟨_, rfl⟩
      have HZ := Lib.hid hz
      have hbit := fun W => bit15_calls up W
      rw [hz] at hbit
      have HBIT := Lib.hid hbit
      have hf : fineB b = (decide (v2 = z) && decide (v3 = 0)) := by
        rw [HFI.out, ← HZ.out, ← HUP.out, Bool.eq_iff_iff]
        simp only [decide_eq_true_eq, Bool.and_eq_true]
        have : v2 ≤ 1 ↔ v2 = bnum (v2 == 1) := by
          constructor
          · intro h
            rcases (show v2 = 0 ∨ v2 = 1 by omega) with h | h <;> subst h <;> rfl
          · intro h
            have : bnum (v2 == 1) ≤ 1 := by cases (v2 == 1) <;> decide
            omega
        rw [this]
      have HD := Lib.hid hf
      clear y6 hz hbit hf
      by_cases h2 : v2 = z
      · have h2i : (v2 : Int) = (z : Int) := by omega
        by_cases h3 : v3 = 0
        · have hdd := HD.out
          rw [decide_eq_true h2, decide_eq_true h3, Bool.true_and] at hdd
          have HDD := Lib.hid hdd
          have h3i : (v3 : Int) = 0 := by omega
          clear hdd h2 h3
          go_wp2_with fail
          refine region_seq (fun W => Blk W (w.heap.size + 1) 40 (adc X)) [(0, true), (1, true), (2, true), (3, true), (4, false), (5, true), (6, true), (7, true), (8, true), (9, true), (10, true), (11, true), (12, false), (13, true), (14, false), (15, true)] (by kernel_rfl) (by kernel_rfl) (by kernel_rfl) (by kernel_rfl) (fun _ _ _ _ _ h => h) HK.out.drew ?_
          repeat first
            | refine seq_load8 (x := .tmp 4) rfl (by rfl) rfl rfl (fun W hW => hW) Try.underlying40 rfl (HIN.out _) ?_
              simp only [Act.put, List.setIfInBounds_toArray, List.set_cons_zero, List.set_cons_succ]
            | refine seq_skip rfl (by rfl) ?_
              simp only [Act.put, List.setIfInBounds_toArray, List.set_cons_zero, List.set_cons_succ]
            | refine seq_pure (v := ?_) rfl (by rfl) (fun W hW => ?_) ?_
              rotate_left
              · have c6 := HY6.out W hW
                clear hW
                go_simp
                with_reducible rfl
              simp only [Act.put, List.setIfInBounds_toArray, List.set_cons_zero, List.set_cons_succ]
          refine seq_make rfl (by rfl) (fun K hK => ?_)
          go_simp
          ((with_reducible refine (HBIT.out _).mono ?_))
          rintro e w9 ⟨rfl, rfl⟩
          go_simp
          refine hK _ _ (fun W => Blk W (w.heap.size + 1) 40 (adc X)) (fun W h => h) HK.out.drew ?_
          clear hK K
          repeat first
            | refine seq_load8 (x := .tmp 4) rfl (by rfl) rfl rfl (fun W hW => hW) Try.underlying40 rfl (HIN.out _) ?_
              simp only [Act.put, List.setIfInBounds_toArray, List.set_cons_zero, List.set_cons_succ]
            | refine seq_skip rfl (by rfl) ?_
              simp only [Act.put, List.setIfInBounds_toArray, List.set_cons_zero, List.set_cons_succ]
            | refine seq_pure (v := ?_) rfl (by rfl) (fun W hW => ?_) ?_
              rotate_left
              · have c6 := HY6.out W hW
                clear hW
                go_simp
                with_reducible rfl
              simp only [Act.put, List.setIfInBounds_toArray, List.set_cons_zero, List.set_cons_succ]
          have K2d := Lib.hid K2.out.drew
          have RRd := Lib.hid (show Rdr wr.drew r g l (i + 88) 0 from RR.out)
          have Gd := Lib.hid (show w.grownBy wr.drew (some r) from ⟨G.out.os, G.out.tape, G.out.output, G.out.size, G.out.block⟩)
          have HKd := Lib.hid HK.out.drew
          clear K2 RR G HK
          generalize wr.drew = x1 at *
          refine seq_make rfl (by rfl) (fun K hK => ?_)
          go_simp
          ((with_reducible refine (HMAY.out x1).mono ?_))
          rintro e x5 ⟨rfl, hb⟩
          have K25 := Lib.hid (K2d.out.below hb)
          have RR5 := Lib.hid (RRd.out.bel hb)
          have G5 := Lib.hid (Gd.out.trans (upd_below hb (some r)))
          have HK5 := Lib.hid (HKd.out.below hb)
          go_simp
          refine hK _ x5 (fun W => Blk W (w.heap.size + 1) 40 (adc X)) (fun W h => h) HK5.out ?_
          clear hK K hb K2d RRd Gd HKd HMAY
          repeat first
            | refine seq_load8 (x := .tmp 4) rfl (by rfl) rfl rfl (fun W hW => hW) Try.underlying40 rfl (HIN.out _) ?_
              simp only [Act.put, List.setIfInBounds_toArray, List.set_cons_zero, List.set_cons_succ]
            | refine seq_skip rfl (by rfl) ?_
              simp only [Act.put, List.setIfInBounds_toArray, List.set_cons_zero, List.set_cons_succ]
            | refine seq_pure (v := ?_) rfl (by rfl) (fun W hW => ?_) ?_
              rotate_left
              · have c6 := HY6.out W hW
                clear hW
                go_simp
                with_reducible rfl
              simp only [Act.put, List.setIfInBounds_toArray, List.set_cons_zero, List.set_cons_succ]
          refine seq_make rfl (by rfl) (fun K hK => ?_)
          refine wp_store8 (vs := adc X) rfl rfl rfl K25.out (HIN.out X) rfl (adc_one X) ?_
          intro x6 hbs hgs hss
          have hq2 : w.heap.size < x5.heap.size := K25.out.lt
          have K6 := Lib.hid hbs
          have HK6 := Lib.hid (HK5.out.same (hgs.block _ HK5.out.lt (fun e => by injection e with e; omega)))
          have RR6 := Lib.hid (RR5.out.same (hgs.block _ (RR5.out.lt) (fun e => by injection e with e; have := HRG.out; omega)) (hgs.block _ RR5.out.2.1.lt (fun e => by injection e with e; have := HRG.out; omega)))
          have G6 := Lib.hid (show w.grownBy x6 (some r) from ⟨hgs.os.trans G5.out.os, hgs.tape.trans G5.out.tape, hgs.output.trans G5.out.output, Nat.le_trans G5.out.size hgs.size, fun k hk hne => (hgs.block k (Nat.lt_of_lt_of_le hk G5.out.size) (fun e => by injection e with e; omega)).trans (G5.out.block k hk hne)⟩)
          clear hbs hgs hss hq2 K25 RR5 G5 HK5
          refine hK _ x6 (fun W => Blk W (w.heap.size + 1) 40 (adc X)) (fun W h => h) HK6.out ?_
          clear hK K
          repeat first
            | refine seq_load8 (x := .tmp 4) rfl (by rfl) rfl rfl (fun W hW => hW) Try.underlying40 rfl (HIN.out _) ?_
              simp only [Act.put, List.setIfInBounds_toArray, List.set_cons_zero, List.set_cons_succ]
            | refine seq_skip rfl (by rfl) ?_
              simp only [Act.put, List.setIfInBounds_toArray, List.set_cons_zero, List.set_cons_succ]
            | refine seq_pure (v := ?_) rfl (by rfl) (fun W hW => ?_) ?_
              rotate_left
              · have c6 := HY6.out W hW
                clear hW
                go_simp
                with_reducible rfl
              simp only [Act.put, List.setIfInBounds_toArray, List.set_cons_zero, List.set_cons_succ]
          refine seq_done ?_
          go_wp2_with fail
          refine bodyPost_ret (results_two8 rfl _ rfl K6.out Try.underlying40 rfl (HIN.out X) rfl) rfl ?_
          exact ⟨by rw [HDD.out]; rfl, RR6.out, G6.out⟩
        · have hdd := HD.out
          rw [decide_eq_true h2, decide_eq_false h3, Bool.true_and] at hdd
          have HDD := Lib.hid hdd
          have h3i : ((v3 : Int) == 0) = false := by simpa using h3
          clear hdd h2
          go_wp2_with fail
          refine region_seq (fun W => Blk W (w.heap.size + 1) 40 (adc X)) [(0, true), (1, true), (2, true), (3, true), (4, false), (5, true), (6, true), (7, true), (8, true), (9, true), (10, true), (11, true), (12, false), (13, true), (14, false), (15, true)] (by kernel_rfl) (by kernel_rfl) (by kernel_rfl) (by kernel_rfl) (fun _ _ _ _ _ h => h) HK.out.drew ?_
          repeat first
            | refine seq_load8 (x := .tmp 4) rfl (by rfl) rfl rfl (fun W hW => hW) Try.underlying40 rfl (HIN.out _) ?_
              simp only [Act.put, List.setIfInBounds_toArray, List.set_cons_zero, List.set_cons_succ]
            | refine seq_skip rfl (by rfl) ?_
              simp only [Act.put, List.setIfInBounds_toArray, List.set_cons_zero, List.set_cons_succ]
            | refine seq_pure (v := ?_) rfl (by rfl) (fun W hW => ?_) ?_
              rotate_left
              · have c6 := HY6.out W hW
                clear hW
                go_simp
                with_reducible rfl
              simp only [Act.put, List.setIfInBounds_toArray, List.set_cons_zero, List.set_cons_succ]
          refine seq_make rfl (by rfl) (fun K hK => ?_)
          go_simp
          ((with_reducible refine (HBIT.out _).mono ?_))
          rintro e w9 ⟨rfl, rfl⟩
          go_simp
          refine hK _ _ (fun W => Blk W (w.heap.size + 1) 40 (adc X)) (fun W h => h) HK.out.drew ?_
          clear hK K
          repeat first
            | refine seq_load8 (x := .tmp 4) rfl (by rfl) rfl rfl (fun W hW => hW) Try.underlying40 rfl (HIN.out _) ?_
              simp only [Act.put, List.setIfInBounds_toArray, List.set_cons_zero, List.set_cons_succ]
            | refine seq_skip rfl (by rfl) ?_
              simp only [Act.put, List.setIfInBounds_toArray, List.set_cons_zero, List.set_cons_succ]
            | refine seq_pure (v := ?_) rfl (by rfl) (fun W hW => ?_) ?_
              rotate_left
              · have c6 := HY6.out W hW
                clear hW
                go_simp
                with_reducible rfl
              simp only [Act.put, List.setIfInBounds_toArray, List.set_cons_zero, List.set_cons_succ]
          have K2d := Lib.hid K2.out.drew
          have RRd := Lib.hid (show Rdr wr.drew r g l (i + 88) 0 from RR.out)
          have Gd := Lib.hid (show w.grownBy wr.drew (some r) from ⟨G.out.os, G.out.tape, G.out.output, G.out.size, G.out.block⟩)
          have HKd := Lib.hid HK.out.drew
          clear K2 RR G HK
          generalize wr.drew = x1 at *
          refine seq_unmake15 rfl (by rfl) HKd.out ?_
          simp only [Act.put, List.setIfInBounds_toArray, List.set_cons_zero, List.set_cons_succ]
          repeat first
            | refine seq_load8 (x := .tmp 4) rfl (by rfl) rfl rfl (fun W hW => hW) Try.underlying40 rfl (HIN.out _) ?_
              simp only [Act.put, List.setIfInBounds_toArray, List.set_cons_zero, List.set_cons_succ]
            | refine seq_skip rfl (by rfl) ?_
              simp only [Act.put, List.setIfInBounds_toArray, List.set_cons_zero, List.set_cons_succ]
            | refine seq_pure (v := ?_) rfl (by rfl) (fun W hW => ?_) ?_
              rotate_left
              · have c6 := HY6.out W hW
                clear hW
                go_simp
                with_reducible rfl
              simp only [Act.put, List.setIfInBounds_toArray, List.set_cons_zero, List.set_cons_succ]
          have K25 := Lib.hid K2d.out
          have RR5 := Lib.hid RRd.out
          have G5 := Lib.hid Gd.out
          have HK5 := Lib.hid HKd.out
          clear K2d RRd Gd HKd HMAY
          refine seq_make rfl (by rfl) (fun K hK => ?_)
          refine wp_store8 (vs := adc X) rfl rfl rfl K25.out (HIN.out X) rfl (adc_one X) ?_
          intro x6 hbs hgs hss
          have hq2 : w.heap.size < x1.heap.size := K25.out.lt
          have K6 := Lib.hid hbs
          have HK6 := Lib.hid (HK5.out.same (hgs.block _ HK5.out.lt (fun e => by injection e with e; omega)))
          have RR6 := Lib.hid (RR5.out.same (hgs.block _ (RR5.out.lt) (fun e => by injection e with e; have := HRG.out; omega)) (hgs.block _ RR5.out.2.1.lt (fun e => by injection e with e; have := HRG.out; omega)))
          have G6 := Lib.hid (show w.grownBy x6 (some r) from ⟨hgs.os.trans G5.out.os, hgs.tape.trans G5.out.tape, hgs.output.trans G5.out.output, Nat.le_trans G5.out.size hgs.size, fun k hk hne => (hgs.block k (Nat.lt_of_lt_of_le hk G5.out.size) (fun e => by injection e with e; omega)).trans (G5.out.block k hk hne)⟩)
          clear hbs hgs hss hq2 K25 RR5 G5 HK5
          refine hK _ x6 (fun W => Blk W (w.heap.size + 1) 40 (adc X)) (fun W h => h) HK6.out ?_
          clear hK K
          repeat first
            | refine seq_load8 (x := .tmp 4) rfl (by rfl) rfl rfl (fun W hW => hW) Try.underlying40 rfl (HIN.out _) ?_
              simp only [Act.put, List.setIfInBounds_toArray, List.set_cons_zero, List.set_cons_succ]
            | refine seq_skip rfl (by rfl) ?_
              simp only [Act.put, List.setIfInBounds_toArray, List.set_cons_zero, List.set_cons_succ]
            | refine seq_pure (v := ?_) rfl (by rfl) (fun W hW => ?_) ?_
              rotate_left
              · have c6 := HY6.out W hW
                clear hW
                go_simp
                with_reducible rfl
              simp only [Act.put, List.setIfInBounds_toArray, List.set_cons_zero, List.set_cons_succ]
          refine seq_done ?_
          go_wp2_with fail
          refine bodyPost_ret (results_two8 rfl _ rfl K6.out Try.underlying40 rfl (HIN.out X) rfl) rfl ?_
          exact ⟨by rw [HDD.out]; rfl, RR6.out, G6.out⟩
      · have h2i : ((v2 : Int) == (z : Int)) = false := by rw [beq_eq_false_iff_ne]; omega
        have h2d : decide (v2 = z) = false := decide_eq_false h2
        have hdd := HD.out
        rw [decide_eq_false h2, Bool.false_and] at hdd
        have HDD := Lib.hid hdd
        clear hdd
        go_wp2_with fail
        refine region_seq (fun W => Blk W (w.heap.size + 1) 40 (adc X)) [(0, true), (1, true), (2, true), (3, true), (4, false), (5, true), (6, true), (7, true), (8, true), (9, true), (10, true), (11, true), (12, false), (13, true), (14, false), (15, true)] (by kernel_rfl) (by kernel_rfl) (by kernel_rfl) (by kernel_rfl) (fun _ _ _ _ _ h => h) HK.out.drew ?_
        repeat first
          | refine seq_load8 (x := .tmp 4) rfl (by rfl) rfl rfl (fun W hW => hW) Try.underlying40 rfl (HIN.out _) ?_
            simp only [Act.put, List.setIfInBounds_toArray, List.set_cons_zero, List.set_cons_succ]
          | refine seq_skip rfl (by rfl) ?_
            simp only [Act.put, List.setIfInBounds_toArray, List.set_cons_zero, List.set_cons_succ]
          | refine seq_pure (v := ?_) rfl (by rfl) (fun W hW => ?_) ?_
            rotate_left
            · have c6 := HY6.out W hW
              clear hW
              go_simp
              with_reducible rfl
            simp only [Act.put, List.setIfInBounds_toArray, List.set_cons_zero, List.set_cons_succ]
        refine seq_make rfl (by rfl) (fun K hK => ?_)
        go_simp
        ((with_reducible refine (HBIT.out _).mono ?_))
        rintro e w9 ⟨rfl, rfl⟩
        go_simp
        refine hK _ _ (fun W => Blk W (w.heap.size + 1) 40 (adc X)) (fun W h => h) HK.out.drew ?_
        clear hK K
        repeat first
          | refine seq_load8 (x := .tmp 4) rfl (by rfl) rfl rfl (fun W hW => hW) Try.underlying40 rfl (HIN.out _) ?_
            simp only [Act.put, List.setIfInBounds_toArray, List.set_cons_zero, List.set_cons_succ]
          | refine seq_skip rfl (by rfl) ?_
            simp only [Act.put, List.setIfInBounds_toArray, List.set_cons_zero, List.set_cons_succ]
          | refine seq_pure (v := ?_) rfl (by rfl) (fun W hW => ?_) ?_
            rotate_left
            · have c6 := HY6.out W hW
              clear hW
              go_simp
              with_reducible rfl
            simp only [Act.put, List.setIfInBounds_toArray, List.set_cons_zero, List.set_cons_succ]
        have K2d := Lib.hid K2.out.drew
        have RRd := Lib.hid (show Rdr wr.drew r g l (i + 88) 0 from RR.out)
        have Gd := Lib.hid (show w.grownBy wr.drew (some r) from ⟨G.out.os, G.out.tape, G.out.output, G.out.size, G.out.block⟩)
        have HKd := Lib.hid HK.out.drew
        clear K2 RR G HK
        generalize wr.drew = x1 at *
        refine seq_unmake15 rfl (by rfl) HKd.out ?_
        simp only [Act.put, List.setIfInBounds_toArray, List.set_cons_zero, List.set_cons_succ]
        repeat first
          | refine seq_load8 (x := .tmp 4) rfl (by rfl) rfl rfl (fun W hW => hW) Try.underlying40 rfl (HIN.out _) ?_
            simp only [Act.put, List.setIfInBounds_toArray, List.set_cons_zero, List.set_cons_succ]
          | refine seq_skip rfl (by rfl) ?_
            simp only [Act.put, List.setIfInBounds_toArray, List.set_cons_zero, List.set_cons_succ]
          | refine seq_pure (v := ?_) rfl (by rfl) (fun W hW => ?_) ?_
            rotate_left
            · have c6 := HY6.out W hW
              clear hW
              go_simp
              with_reducible rfl
            simp only [Act.put, List.setIfInBounds_toArray, List.set_cons_zero, List.set_cons_succ]
        have K25 := Lib.hid K2d.out
        have RR5 := Lib.hid RRd.out
        have G5 := Lib.hid Gd.out
        have HK5 := Lib.hid HKd.out
        clear K2d RRd Gd HKd HMAY
        refine seq_make rfl (by rfl) (fun K hK => ?_)
        refine wp_store8 (vs := adc X) rfl rfl rfl K25.out (HIN.out X) rfl (adc_one X) ?_
        intro x6 hbs hgs hss
        have hq2 : w.heap.size < x1.heap.size := K25.out.lt
        have K6 := Lib.hid hbs
        have HK6 := Lib.hid (HK5.out.same (hgs.block _ HK5.out.lt (fun e => by injection e with e; omega)))
        have RR6 := Lib.hid (RR5.out.same (hgs.block _ (RR5.out.lt) (fun e => by injection e with e; have := HRG.out; omega)) (hgs.block _ RR5.out.2.1.lt (fun e => by injection e with e; have := HRG.out; omega)))
        have G6 := Lib.hid (show w.grownBy x6 (some r) from ⟨hgs.os.trans G5.out.os, hgs.tape.trans G5.out.tape, hgs.output.trans G5.out.output, Nat.le_trans G5.out.size hgs.size, fun k hk hne => (hgs.block k (Nat.lt_of_lt_of_le hk G5.out.size) (fun e => by injection e with e; omega)).trans (G5.out.block k hk hne)⟩)
        clear hbs hgs hss hq2 K25 RR5 G5 HK5
        refine hK _ x6 (fun W => Blk W (w.heap.size + 1) 40 (adc X)) (fun W h => h) HK6.out ?_
        clear hK K
        repeat first
          | refine seq_load8 (x := .tmp 4) rfl (by rfl) rfl rfl (fun W hW => hW) Try.underlying40 rfl (HIN.out _) ?_
            simp only [Act.put, List.setIfInBounds_toArray, List.set_cons_zero, List.set_cons_succ]
          | refine seq_skip rfl (by rfl) ?_
            simp only [Act.put, List.setIfInBounds_toArray, List.set_cons_zero, List.set_cons_succ]
          | refine seq_pure (v := ?_) rfl (by rfl) (fun W hW => ?_) ?_
            rotate_left
            · have c6 := HY6.out W hW
              clear hW
              go_simp
              with_reducible rfl
            simp only [Act.put, List.setIfInBounds_toArray, List.set_cons_zero, List.set_cons_succ]
        refine seq_done ?_
        go_wp2_with fail
        refine bodyPost_ret (results_two8 rfl _ rfl K6.out Try.underlying40 rfl (HIN.out X) rfl) rfl ?_
        exact ⟨by rw [HDD.out]; rfl, RR6.out, G6.out⟩
end Go.Proofs.Ytmfmjdkeoiebpaa
