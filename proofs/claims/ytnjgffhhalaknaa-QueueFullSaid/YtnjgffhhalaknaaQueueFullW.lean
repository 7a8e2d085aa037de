/-
  The law QueueFull, walked: for every item and number the answer is true, and nothing that was there has turned. No condition.
-/
import Derived.Test.YtnjgffhhalaknaaQueueJ
import Derived.Test.YtnjgffhhalaknaaQueueN
import Derived.Deep.CutBlock
namespace Go.Proofs.Ytnjgffhhalaknaa
open Go.RowKit

set_option maxRecDepth 100000 in
set_option maxHeartbeats 3200000 in
theorem full_walk (x : Itm) (n : Int) (w : World) (hn0 : 0 ≤ n) : Calls Try.prog 6 #[.agg #[.int .i64 x.cost, .int .i64 x.hops, .int .i64 x.node], .int .u8 n] w fun e w' => e = .returned (.bool true) ∧ Below w.heap.size w w' := by
  go_enter Try.func6, Try.ntmps6
  go_wp2_with fail
  have b1 : Below w.heap.size w (w.alloc (.cells #[.int .i64 x.cost, .int .i64 x.hops, .int .i64 x.node] 23)) := bel_new (Below.refl _ _) _
  have x1 : Blk (w.alloc (.cells #[.int .i64 x.cost, .int .i64 x.hops, .int .i64 x.node] 23)) w.heap.size 23 (itL x) := Blk.new w _ (itL x)
  generalize w.alloc (.cells #[.int .i64 x.cost, .int .i64 x.hops, .int .i64 x.node] 23) = w1 at *
  have B1 := Lib.hid b1
  have X1 := Lib.hid x1
  clear b1 x1
  ((with_reducible refine (alive10_calls w1).mono ?_))
  rintro e w2 ⟨rfl, hb2⟩
  have B2 := Lib.hid (B1.out.trans (hb2.mono B1.out.size))
  have X2 := Lib.hid (X1.out.below hb2)
  clear hb2
  go_wp2_with fail
  have hz3 : Blk ((w2.alloc (.cells #[.pointer none] 50)).alloc (.cells #[.pointer none, .pointer (some ⟨w2.heap.size, 0, none⟩)] 30)) w2.heap.size 50 [.pointer none] := (Blk.new w2 _ _).alloc _
  have hs3 : Blk ((w2.alloc (.cells #[.pointer none] 50)).alloc (.cells #[.pointer none, .pointer (some ⟨w2.heap.size, 0, none⟩)] 30)) (w2.heap.size + 1) 30 [.pointer none, .pointer (some ⟨w2.heap.size, 0, none⟩)] := by
    have := Blk.new (w2.alloc (.cells #[.pointer none] 50)) 30 [.pointer none, .pointer (some ⟨w2.heap.size, 0, none⟩)]
    simpa using this
  have hb3 : Below w2.heap.size w2 ((w2.alloc (.cells #[.pointer none] 50)).alloc (.cells #[.pointer none, .pointer (some ⟨w2.heap.size, 0, none⟩)] 30)) := bel_new (bel_new (Below.refl _ _) _) _
  generalize (w2.alloc (.cells #[.pointer none] 50)).alloc (.cells #[.pointer none, .pointer (some ⟨w2.heap.size, 0, none⟩)] 30) = w3 at *
  generalize w2.heap.size + 1 = sb at *
  generalize hqz : w2.heap.size = qz at hz3 hs3 ⊢
  have B3 := Lib.hid (B2.out.trans (hb3.mono B2.out.size))
  have X3 := Lib.hid (X2.out.below hb3)
  have Z3 := Lib.hid hz3
  have S3 := Lib.hid hs3
  clear hb3 hz3 hs3 hqz
  go_wp2_with fail
  go_loopw [19] (fun t wr => ∃ i : Nat, i ≤ 2 ∧ t = .int .i64 (i : Int) ∧ Below w3.heap.size w3 wr) (fun t wr => 2 - (intOf t).toNat)
  case atStart => exact ⟨0, by omega, rfl, Below.refl _ _⟩
  case round =>
    obtain ⟨i, hi, rfl, hb⟩ := hrel
    have C := Lib.hid hb
    clear hb
    by_cases hlt : i < 2
    · obtain ⟨v, hv, hno⟩ : ∃ v, wr.cell? ⟨sb, i, none⟩ = some v ∧ NoQ wr v := by
        have hs := S3.out.below C.out
        have h01 : i = 0 ∨ i = 1 := by omega
        rcases h01 with rfl | rfl
        · exact ⟨_, hs.cell 0, noq_nil wr⟩
        · exact ⟨_, hs.cell 1, noq_zero (Z3.out.below C.out)⟩
      have i1 : (i : Int) < 2 := by omega
      have HNO := Lib.hid hno
      have hpp := npop_calls hno
      rw [show (Value.agg (itL ⟨0, 0, 0⟩).toArray) = .agg #[.int .i64 0, .int .i64 0, .int .i64 0] from rfl] at hpp
      clear hno
      go_wp2_with fail
      ((with_reducible refine hpp.mono ?_))
      rintro e w5 ⟨rfl, hb5⟩
      have C5 := Lib.hid (C.out.trans (hb5.mono C.out.size))
      have N5 := Lib.hid (HNO.out.bel hb5)
      clear hb5 hpp hv
      go_upto_region 7 with fail
      have bz : Below w5.heap.size w5 (w5.alloc (.cells #[.int .i64 0, .int .i64 0, .int .i64 0] 25)) := bel_new (Below.refl _ _) _
      have z6 := Blk.new w5 25 (itL ⟨0, 0, 0⟩)
      have Z6 := Lib.hid (show Blk (w5.alloc (.cells #[.int .i64 0, .int .i64 0, .int .i64 0] 25)) w5.heap.size 25 [.int .i64 0, .int .i64 0, .int .i64 0] from z6)
      have C6 := Lib.hid (C5.out.trans (bz.mono C5.out.size))
      have N6 := Lib.hid (N5.out.bel bz)
      clear bz z6
      generalize w5.alloc (.cells #[.int .i64 0, .int .i64 0, .int .i64 0] 25) = w6 at *
      generalize w5.heap.size = zb at *
      have hx6 := X3.out.below C6.out
      have a0 : w6.cell? ⟨w.heap.size, 0, none⟩ = some (.int .i64 x.cost) := hx6.cell 0
      have a1 : w6.cell? ⟨w.heap.size, 1, none⟩ = some (.int .i64 x.hops) := hx6.cell 1
      have a2 : w6.cell? ⟨w.heap.size, 2, none⟩ = some (.int .i64 x.node) := hx6.cell 2
      have ht : Calls Try.prog 9 #[.agg #[.int .i64 x.cost, .int .i64 x.hops, .int .i64 x.node]] w6 (AggPost x w6) := theirs10_calls x w6
      clear hx6
      go_wp2_with fail
      ((with_reducible refine ht.mono ?_))
      rintro e w7 ⟨rfl, hb7⟩
      have C7 := Lib.hid (C6.out.trans (hb7.mono C6.out.size))
      have N7 := Lib.hid (N6.out.bel hb7)
      have Z7 := Lib.hid (Z6.out.below hb7)
      clear ht hb7 a0 a1 a2
      have hp := npush_calls N7.out x
      go_wp2_with fail
      ((with_reducible refine hp.mono ?_))
      rintro e w8 ⟨rfl, hb8⟩
      have C8 := Lib.hid (C7.out.trans (hb8.mono C7.out.size))
      have N8 := Lib.hid (N7.out.bel hb8)
      have Z8 := Z7.out.below hb8
      clear hb8 hp
      have a0 : w8.cell? ⟨zb, 0, none⟩ = some (.int .i64 0) := Z8.cell 0
      have a1 : w8.cell? ⟨zb, 1, none⟩ = some (.int .i64 0) := Z8.cell 1
      have a2 : w8.cell? ⟨zb, 2, none⟩ = some (.int .i64 0) := Z8.cell 2
      have hl := nlen_calls N8.out
      clear Z8
      go_wp2_with fail
      ((with_reducible refine hl.mono ?_))
      rintro e w9 ⟨rfl, rfl⟩
      clear hl
      go_wp2_with fail
      go_roundw
      case rel => exact ⟨i + 1, by omega, rfl, C8.out⟩
      case measure => simp [intOf]; omega
    · obtain rfl : i = 2 := by omega
      obtain ⟨w4, hw4⟩ : ∃ w4, w4 = wr := ⟨_, rfl⟩
      subst hw4
      have B4 := Lib.hid (B3.out.trans (C.out.mono B3.out.size))
      have X4 := Lib.hid (X3.out.below C.out)
      have hn := qs_new (Below.refl w4.heap.size w4)
      clear hlt hi
      go_wp2_with fail
      ((with_reducible refine hn.mono ?_))
      rintro e w5 ⟨q, rfl, h5⟩
      have H5 := Lib.hid h5
      clear h5 hn
      go_wp2_with fail
      go_loopw [51] (fun t wo => ∃ (k : Nat) (l : List Itm), k ≤ 1024 ∧ t = .int .i64 (k : Int) ∧ Qs w4 wo q l ∧ l.length = k ∧ ∀ y ∈ l, y.cost = x.cost) (fun t wo => 1024 - (intOf t).toNat)
      case atStart => exact ⟨0, [], by omega, rfl, H5.out, rfl, by simp⟩
      case round =>
        obtain ⟨k, l, hk, rfl, h6, hlk, hly⟩ := hrel
        have H6 := Lib.hid h6
        have LY := Lib.hid hly
        have LK := Lib.hid hlk
        clear h6 hly hlk
        by_cases hkl : k < 1024
        · have k1 : (k : Int) < 1024 := by omega
          have x6 : wr.cell? ⟨w.heap.size, 0, none⟩ = some (.int .i64 x.cost) := (X4.out.below H6.out.1).cell 0
          have hp : Calls Try.prog 17 #[.pointer (some ⟨q, 0, none⟩), .agg #[.int .i64 x.cost, .int .i64 0, .int .i64 (k : Int)]] wr (QsPush w4 q l ⟨x.cost, 0, (k : Int)⟩) := qs_push H6.out ⟨x.cost, 0, (k : Int)⟩
          have hfull : ¬ 1024 ≤ l.length := by rw [LK.out]; omega
          unfold QsPush at hp
          rw [if_neg hfull, if_neg hfull] at hp
          clear hfull
          go_wp2_with fail
          ((with_reducible refine hp.mono ?_))
          rintro e w7 ⟨rfl, h7⟩
          have H7 := Lib.hid h7
          clear h7 hp x6
          go_wp2_with fail
          go_roundw
          case rel =>
            refine ⟨k + 1, insQ ⟨x.cost, 0, (k : Int)⟩ l, by omega, rfl, H7.out, by rw [insQ_length, LK.out], fun y hy => ?_⟩
            rcases List.mem_cons.1 ((insQ_perm _ l).mem_iff.1 hy) with rfl | hy
            · rfl
            · exact LY.out y hy
          case measure => simp [intOf]; omega
        · have LK' := Lib.hid (show l.length = 1024 by rw [LK.out]; omega)
          have gk : ¬ (k : Int) < 1024 := by omega
          obtain ⟨w7, hw7⟩ : ∃ w7, w7 = wr := ⟨_, rfl⟩
          subst hw7
          obtain ⟨m, hm⟩ : ∃ m : Nat, n.tmod 9 = (m : Int) := ⟨(n.tmod 9).toNat, by rw [Int.toNat_of_nonneg (Int.tmod_nonneg 9 hn0)]⟩
          have hm9 : m < 9 := by have := Int.tmod_lt_of_pos n (show (0 : Int) < 9 by omega); omega
          clear hkl hk
          go_wp2_with fail
          go_loopw [65] (fun t wo => ∃ (k : Nat) (l : List Itm), k ≤ m ∧ t = .int .i64 (k : Int) ∧ Qs w4 wo q l ∧ l.length = 1024 ∧ ∀ y ∈ l, y.cost = x.cost) (fun t wo => m - (intOf t).toNat)
          case atStart => exact ⟨0, l, by omega, rfl, H6.out, LK'.out, LY.out⟩
          case round =>
            obtain ⟨k, l8, hk, rfl, h8, hlk, hly⟩ := hrel
            have H8 := Lib.hid h8
            have LY8 := Lib.hid hly
            have LK8 := Lib.hid hlk
            clear h8 hly hlk
            by_cases hkl : k < m
            · have k1 : (k : Int) < (m : Int) := by omega
              have hx8 := X4.out.below H8.out.1
              have a0 : wr.cell? ⟨w.heap.size, 0, none⟩ = some (.int .i64 x.cost) := hx8.cell 0
              have a1 : wr.cell? ⟨w.heap.size, 1, none⟩ = some (.int .i64 x.hops) := hx8.cell 1
              have a2 : wr.cell? ⟨w.heap.size, 2, none⟩ = some (.int .i64 x.node) := hx8.cell 2
              have ht : Calls Try.prog 9 #[.agg #[.int .i64 x.cost, .int .i64 x.hops, .int .i64 x.node]] wr (AggPost x wr) := theirs10_calls x wr
              clear hx8
              go_wp2_with fail
              ((with_reducible refine ht.mono ?_))
              rintro e w9 ⟨rfl, hb9⟩
              have H9 := Lib.hid (H8.out.bel hb9)
              clear ht hb9 a0 a1 a2
              have hp := qs_push H9.out x
              unfold QsPush at hp
              rw [if_pos (by rw [LK8.out]; exact Nat.le_refl _), if_pos (by rw [LK8.out]; exact Nat.le_refl _)] at hp
              go_wp2_with fail
              ((with_reducible refine hp.mono ?_))
              rintro e w10 ⟨rfl, h10⟩
              have H10 := Lib.hid h10
              clear hp h10
              obtain ⟨z, r, hz⟩ : ∃ z r, l8 = z :: r := by
                cases l8 with
                | nil => have := LK8.out; simp at this
                | cons z r => exact ⟨z, r, rfl⟩
              subst hz
              have hpp := qs_pop H10.out
              unfold QsPop at hpp
              have hzc : z.cost = x.cost := LY8.out z (List.mem_cons_self ..)
              have ez : (Value.agg (itL (hdQ (z :: r))).toArray) = .agg #[.int .i64 x.cost, .int .i64 z.hops, .int .i64 z.node] := by rw [← hzc]; rfl
              have ee : erQ (z :: r) = 0 := rfl
              rw [ez, ee] at hpp
              have HZC := Lib.hid hzc
              clear ez ee hzc
              go_wp2_with fail
              ((with_reducible refine hpp.mono ?_))
              rintro e w11 ⟨rfl, h11⟩
              have H11 := Lib.hid (show Qs w4 w11 q r from h11)
              clear hpp h11
              go_upto_region 24 with fail
              have bz : Below w11.heap.size w11 (w11.alloc (.cells #[.int .i64 x.cost, .int .i64 z.hops, .int .i64 z.node] 25)) := bel_new (Below.refl _ _) _
              have z12 := Blk.new w11 25 [.int .i64 x.cost, .int .i64 z.hops, .int .i64 z.node]
              have H12 := Lib.hid (H11.out.bel bz)
              have Z12 := Lib.hid (show Blk (w11.alloc (.cells #[.int .i64 x.cost, .int .i64 z.hops, .int .i64 z.node] 25)) w11.heap.size 25 [.int .i64 x.cost, .int .i64 z.hops, .int .i64 z.node] from z12)
              clear bz z12
              generalize w11.alloc (.cells #[.int .i64 x.cost, .int .i64 z.hops, .int .i64 z.node] 25) = w12 at *
              generalize w11.heap.size = zb at *
              have b0 : w12.cell? ⟨zb, 0, none⟩ = some (.int .i64 x.cost) := Z12.out.cell 0
              have b1 : w12.cell? ⟨zb, 1, none⟩ = some (.int .i64 z.hops) := Z12.out.cell 1
              have b2 : w12.cell? ⟨zb, 2, none⟩ = some (.int .i64 z.node) := Z12.out.cell 2
              have a0 : w12.cell? ⟨w.heap.size, 0, none⟩ = some (.int .i64 x.cost) := (X4.out.below H12.out.1).cell 0
              have hr1024 : r.length = 1023 := by have := LK8.out; simp at this; exact this
              have hp : Calls Try.prog 17 #[.pointer (some ⟨q, 0, none⟩), .agg #[.int .i64 x.cost, .int .i64 z.hops, .int .i64 z.node]] w12 (QsPush w4 q r ⟨x.cost, z.hops, z.node⟩) := qs_push H12.out ⟨x.cost, z.hops, z.node⟩
              unfold QsPush at hp
              rw [if_neg (by omega), if_neg (by omega)] at hp
              have HR1 := Lib.hid hr1024
              clear hr1024
              go_wp2_with fail
              ((with_reducible refine hp.mono ?_))
              rintro e w13 ⟨rfl, h13⟩
              have H13 := Lib.hid h13
              clear hp h13 a0 b0 b1 b2
              go_wp2_with fail
              go_roundw
              case rel =>
                refine ⟨k + 1, _, by omega, rfl, H13.out, by rw [insQ_length, HR1.out], fun y hy => ?_⟩
                rcases List.mem_cons.1 ((insQ_perm _ r).mem_iff.1 hy) with rfl | hy
                · rfl
                · exact LY8.out y (List.mem_cons_of_mem _ hy)
              case measure => simp [intOf]; omega
            · obtain rfl : k = m := by omega
              have hl := qs_len H8.out
              rw [LK8.out] at hl
              go_wp2_with fail
              ((with_reducible refine hl.mono ?_))
              rintro e w9 ⟨rfl, rfl⟩
              go_wp2
              go_ret
              exact ⟨rfl, B4.out.trans (H8.out.1.mono B4.out.size)⟩
end Go.Proofs.Ytnjgffhhalaknaa
