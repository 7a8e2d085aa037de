/-
  The answers that the document fixes for layer 9 ('alive') come out. No condition.
-/
import Derived.Test.YtpgbfjeejkeibaaGraphS
import Derived.Test.YtpgbfjeejkeibaaGraphG
import Derived.Test.YtpgbfjeejkeibaaGraphH
namespace Go.Proofs.Ytpgbfjeejkeibaa
open Go.RowKit

/-- The network of the chapter. -/
def net3 : List Lk := [⟨0, 1, 0, 5, 0⟩, ⟨1, 2, 0, 7, 0⟩, ⟨1, 0, 0, 1, 0⟩]
theorem net3_outs : OutsOk net3 1 [2, 1] where
  order := by decide
  mem x := by
    simp only [List.mem_cons, List.not_mem_nil, or_false]
    constructor
    · rintro (rfl | rfl)
      · exact ⟨2, by decide, by decide, rfl⟩
      · exact ⟨1, by decide, by decide, rfl⟩
    · rintro ⟨k, hk, hf, rfl⟩
      have hk3 : k < 3 := hk
      match k, hk3 with
      | 0, _ => exact absurd hf (by decide)
      | 1, _ => exact .inr rfl
      | 2, _ => exact .inl rfl
  len := by decide
theorem alive_cells : lkc ⟨0, 1, 0, 5, 0⟩ ++ lkc ⟨1, 2, 0, 7, 0⟩ ++ lkc ⟨1, 0, 0, 1, 0⟩ = net3.flatMap lkc := rfl

theorem blk_rowG {α : Type} {enc : α → List Value} {w : World} {g : Nat} {T : TypeId} {l : List α} (h : Blk w g T (l.flatMap enc)) : Row enc w (g + 1) (some ⟨g, 0, none⟩) l.length l :=
  ⟨rfl, fun _ => ⟨g, 0, rfl, by omega, fun i hi => by rw [Nat.zero_add, h.cell]; simp⟩⟩
theorem net3_route : RouteOk net3 [0, 1, 2] := ⟨by decide, by decide, fun j h1 h2 => by
  have h3 : j < 3 := h2
  match j, h1, h3 with
  | 1, _, _ => exact ⟨by decide, by decide⟩
  | 2, _, _ => exact ⟨by decide, by decide⟩⟩
theorem net3_noroute : ¬ RouteOk net3 [0, 1, 0] := fun h => absurd (h.2.2 2 (by omega) (by decide)).2 (by decide)
theorem net3_small : SmallL net3 := by unfold SmallL net3; decide

set_option maxRecDepth 100000 in
set_option maxHeartbeats 3200000 in
theorem alive9_calls (w : World) : Calls Try.prog 9 #[] w fun e w' => e = .returned (.bool true) ∧ Below w.heap.size w w' := by
  have q0 := Lib.hid (Blk.new w 50 (net3.flatMap lkc))
  have b0 := Lib.hid (bel_new (Below.refl w.heap.size w) (.cells (net3.flatMap lkc).toArray 50))
  rw [← alive_cells] at q0 b0
  simp only [lkc, List.cons_append, List.nil_append] at q0 b0
  go_enter Try.func9, Try.ntmps9
  go_upto_region 2 with fail
  generalize hw1 : w.alloc (.cells #[.int .i64 0, .int .i64 1, .int .u64 0, .int .i64 5, .int .u32 0, .int .i64 1, .int .i64 2, .int .u64 0, .int .i64 7, .int .u32 0, .int .i64 1, .int .i64 0, .int .u64 0, .int .i64 1, .int .u32 0] 50) = w1 at *
  clear hw1
  have B1 := Lib.hid b0.out
  have R1 := Lib.hid ((show Row lkc w1 (w.heap.size + 1) (some ⟨w.heap.size, 0, none⟩) 3 net3 from blk_rowG (l := net3) q0.out).more (Blk.lt q0.out))
  clear q0 b0
  have RW : ∀ W, Below w1.heap.size w1 W → Row lkc W W.heap.size (some ⟨w.heap.size, 0, none⟩) 3 net3 := fun W hW => (R1.out.below hW).more hW.size
  have HRW := Lib.hid RW
  clear RW
  have k2 := Lib.hid (bel_new (Below.refl w1.heap.size w1) (.cells #[.int .i64 0, .int .i64 1, .int .i64 2] 3))
  have i2 := Lib.hid (blk_rowG (enc := ei) (l := [0, 1, 2]) (Blk.new w1 3 [.int .i64 0, .int .i64 1, .int .i64 2]))
  go_wp2_with fail
  refine (route_calls (some ⟨w.heap.size, 0, none⟩) (some ⟨w1.heap.size, 0, none⟩) 3 3 3 3 _ net3 [0, 1, 2] _ (HRW.out _ k2.out) i2.out (by simp) (by omega) (by omega) net3_small).mono ?_
  rintro e w3 ⟨b3, ⟨_, rfl⟩ | ⟨hno, _⟩⟩
  rotate_left
  · exact absurd net3_route hno
  have e12 : cst net3 [0, 1, 2] 3 = 12 := by decide
  have K3 := Lib.hid (bel_more k2.out (Nat.le_refl _) b3)
  rw [show [(0 : Int), 1, 2].length = 3 from rfl, e12]
  clear e12 b3 k2 i2
  have k4 := Lib.hid (bel_alloc K3.out (Nat.le_refl _) (.cells #[.int .i64 0, .int .i64 1, .int .i64 0] 3))
  have i4 := Lib.hid (blk_rowG (enc := ei) (l := [0, 1, 0]) (Blk.new w3 3 [.int .i64 0, .int .i64 1, .int .i64 0]))
  go_wp2_with fail
  refine (route_calls (some ⟨w.heap.size, 0, none⟩) (some ⟨w3.heap.size, 0, none⟩) 3 3 3 3 _ net3 [0, 1, 0] _ (HRW.out _ k4.out) i4.out (by simp) (by omega) (by omega) net3_small).mono ?_
  rintro e w5 ⟨b5, ⟨hyes, _⟩ | ⟨_, rfl⟩⟩
  · exact absurd hyes net3_noroute
  have K5 := Lib.hid (bel_more k4.out (Nat.le_refl _) b5)
  clear b5 k4 i4 K3
  go_wp2_with fail
  refine (check_calls 3 (some ⟨w.heap.size, 0, none⟩) 3 3 net3 w5 (HRW.out _ K5.out) (by omega) (by omega) (by omega)).mono ?_
  rintro e w6 ⟨rfl, b6⟩
  have K6 := Lib.hid (bel_more K5.out (Nat.le_refl _) b6)
  rw [show chk 3 net3 = 0 by decide]
  clear b6 K5
  go_wp2_with fail
  refine (check_calls 2 (some ⟨w.heap.size, 0, none⟩) 3 3 net3 w6 (HRW.out _ K6.out) (by omega) (by omega) (by omega)).mono ?_
  rintro e w7 ⟨rfl, b7⟩
  have K7 := Lib.hid (bel_more K6.out (Nat.le_refl _) b7)
  rw [show chk 2 net3 = 2 by decide]
  clear b7 K6
  go_wp2_with fail
  refine (find_calls 1 2 (some ⟨w.heap.size, 0, none⟩) 3 3 net3 w7 (HRW.out _ K7.out) (by omega)).mono ?_
  rintro e w8 ⟨rfl, b8⟩
  have K8 := Lib.hid (bel_more K7.out (Nat.le_refl _) b8)
  rw [show fndL net3 1 2 = 1 by decide]
  clear b8 K7
  go_wp2_with fail
  refine (outs_calls 1 (some ⟨w.heap.size, 0, none⟩) 3 3 net3 w8 (HRW.out _ K8.out) (by omega)).mono ?_
  rintro e w9 ⟨o, A, c, rfl, a9, ho, b9⟩
  obtain rfl := outs_unique ho net3_outs
  have K9 := Lib.hid (bel_more K8.out (Nat.le_refl _) b9)
  have i9 := Lib.hid (AccR.row (AccR.alloc a9 (.cells #[.int .i64 2, .int .i64 1] 3)))
  have i10 := Lib.hid (blk_rowG (enc := ei) (l := [2, 1]) (Blk.new w9 3 [.int .i64 2, .int .i64 1]))
  have K10 := Lib.hid (bel_alloc K9.out (Nat.le_refl _) (.cells #[.int .i64 2, .int .i64 1] 3))
  clear b9 K8 a9 ho
  rw [show [(2 : Int), 1].length = 2 from rfl]
  go_wp2_with fail
  refine (sameints_calls A (some ⟨w9.heap.size, 0, none⟩) 2 2 c 2 _ _ [2, 1] [2, 1] _ i9.out i10.out (by omega) (by omega)).mono ?_
  rintro e w11 ⟨rfl, j, rfl⟩
  rw [show decide ([(2 : Int), 1] = [2, 1]) = true by decide]
  go_wp2_with fail
  refine (reach_calls 3 2 (some ⟨w.heap.size, 0, none⟩) 3 3 net3 _ (HRW.out _ (bel_drewN K10.out j)) (by omega) (by omega) (by omega)).mono ?_
  rintro e w12 ⟨b12, ⟨hno, _⟩ | ⟨_, _, _, rb, bs, rfl, _, _, hl, _⟩⟩
  · exact absurd ⟨by decide, by decide, by decide⟩ hno
  have hl3 : bs.length = 3 := by omega
  rw [hl3]
  have K12 := Lib.hid (bel_more (bel_drewN K10.out j) (Nat.le_refl _) b12)
  clear b12 hl hl3
  go_wp2_with fail
  go_ret
  exact ⟨rfl, ⟨K12.out.os.trans B1.out.os, K12.out.tape.trans B1.out.tape, K12.out.output.trans B1.out.output, Nat.le_trans B1.out.size K12.out.size, fun k hk => (K12.out.block k (Nat.lt_of_lt_of_le hk B1.out.size)).trans (B1.out.block k hk)⟩⟩
end Go.Proofs.Ytpgbfjeejkeibaa
