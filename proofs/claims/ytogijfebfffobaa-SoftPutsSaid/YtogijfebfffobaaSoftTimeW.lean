/-
  The law SoftTime, walked: for any calls and any ticks the answer is true, and nothing that was there has turned. Condition: none.
-/
import Derived.Test.YtogijfebfffobaaSofX
import Derived.Test.YtogijfebfffobaaSofOpen
import Derived.Deep.CutBlock
namespace Go.Proofs.Ytogijfebfffobaa
set_option maxRecDepth 100000
set_option linter.unusedVariables false
open Go.RowKit

theorem act_s18 {W : World} {b k : Nat} {x : Ac18} (h : ∀ j v, (ac18 x)[j]? = some v → W.cell? ⟨b, k + j, none⟩ = some v) : W.rangeAt b (k + 1) (ssc x.s) := fun j v hv => by
  rw [Nat.add_assoc, Nat.add_comm 1 j]
  refine h (j + 1) v ?_
  unfold ac18
  rw [List.getElem?_cons_succ, List.getElem?_append_left (List.getElem?_eq_some_iff.1 hv).1]
  exact hv
theorem key_snoc18 {ls : List Ss} {i : Nat} {x : Ss} (hx : ls[i]? = some x) : (ls.take (i + 1)).map (fun s => s.p.k) = (ls.take i).map (fun s => s.p.k) ++ [x.p.k] := by
  rw [List.take_add_one, hx, List.map_append]; rfl
set_option maxHeartbeats 12800000 in
theorem time18_walk (a : Option Addr) (n c : Nat) (now : Int) (later : Nat) (w : World) (hn : n ≤ maxLen) (hnow : -9223372036854775808 ≤ now ∧ now < 9223372036854775808) (hlat : later < 256) (h : ∃ es, Row ac18 w w.heap.size a n es ∧ ∀ x ∈ es, Lies18 w x.s) :
    Calls Try.prog 4 #[.slice a n c, .int .i64 now, .int .u8 (later : Int)] w fun e w' => e = .returned (.bool true) ∧ Below w.heap.size w w' := by
  obtain ⟨es, hr, hok⟩ := h
  unfold maxLen at hn
  have HOK := Lib.hid hok
  have HR := Lib.hid hr
  have HNW := Lib.hid (And.intro hnow hlat)
  have hal := fun W => alive18_calls W
  unfold Yes14 at hal
  have HAL := Lib.hid hal
  have HIN := Lib.hid (fun s : Ss => (show (Try.prog.info? 40).map (·.size) = some (ssc s).length from infoSsC))
  have HIR := Lib.hid (fun s : Ss => (show (Try.prog.info? 37).map (·.size) = some (ssc s).length from infoSsR))
  have HIZ := Lib.hid (fun k : Ky => (show (Try.prog.info? 30).map (fun i => (i.zero, i.size, i.bytes)) = some (some (.agg #[.int .i64 0, .int .i64 0, .int .i64 0, .int .i64 0]), (kyc k).length, 32) from infoKy18))
  have HON := Lib.hid ssc_one
  clear hok hr hal
  go_enter Try.func4, Try.ntmps4
  go_wp2_with fail
  ((with_reducible refine (HAL.out _).mono ?_))
  rintro e w2 ⟨rfl, b1⟩
  have B1 := Lib.hid b1
  clear b1 HAL
  go_wp2_with fail
  ((with_reducible refine (new18_all w2).mono ?_))
  intro e w3 hnew
  obtain ⟨q, S, rfl, st⟩ := St18.start B1.out hnew
  have ST := Lib.hid st
  clear st hnew B1
  go_upto_block 0 with fail
  go_cut [8] from 18 to 43 (fun s W => ∃ (l : List Sp) (S : List Nat), Hid (l.length ≤ 80) ∧ Hid (St18 w W q 64 l S))
  case first =>
    go_wp2_with fail
    go_loopw [8] (fun u W => ∃ (i : Nat) (l : List Sp) (S : List Nat), i ≤ n ∧ i ≤ 80 ∧ u = .int .i64 (i : Int) ∧ Hid (l.length ≤ i) ∧ Hid (St18 w W q 64 l S)) (fun u W => 80 - (intOf u).toNat)
    case atStart => exact ⟨0, [], S, Nat.zero_le _, Nat.zero_le _, rfl, Lib.hid (Nat.le_refl _), ST⟩
    case round =>
      clear ST
      obtain ⟨i, l, S1, hin, hi80, rfl, HLN, HS⟩ := hrel
      by_cases h1 : i < n
      · have i1 : (i : Int) < (n : Int) := by omega
        by_cases h2 : i < 80
        · have i2 : (i : Int) < 80 := by omega
          obtain ⟨b, o, x, rfl, hx, hbb, hc⟩ := row_cells ac18_length HR.out h1
          have HXO := Lib.hid (HOK.out x (List.mem_of_getElem? hx))
          have HC := Lib.hid (fun W (hW : Below w.heap.size w W) => hc W hW)
          have HI := Lib.hid (And.intro h1 h2)
          have i3 : IntKind.i64.wrap ((i : Int) + 1) = ((i + 1 : Nat) : Int) := by rw [IntWalk.i64_in _ (by omega)]; omega
          have i0 : ¬ (i : Int) < 0 := by omega
          have x11 : wr.cell? ⟨b, o + i * 19 + 11, none⟩ = some (.slice x.s.a x.s.n x.s.c) := hc wr HS.out.bel 11 _ rfl
          clear hx hbb hc h1 h2 hin hi80
          by_cases hrl : x.s.n ≤ 1000
          · have j1 : (x.s.n : Int) ≤ 1000 := by omega
            have HRL := Lib.hid hrl
            have HX := Lib.hid (act_s18 (W := wr) (b := b) (k := o + i * 19) (x := x) (fun j v hv => HC.out wr HS.out.bel j v hv))
            have HTH := Lib.hid theirs18_calls
            have HPT := Lib.hid (fun W (hS : St18 w W q 64 l S1) => put18c_calls q 64 l S1 x.s W hS.p ((HXO.out.1.below hS.bel).more hS.bel.size) (by omega))
            clear hrl
            go_wp2_with (refine step_load_at (o := ⟨some 41, _, _, _, _, _⟩) rfl rfl rfl HX.out Try.underlying37 rfl (HIR.out _) ?_)
            ((with_reducible refine (HTH.out _ _).mono ?_))
            rintro e w4 ⟨rfl, hb⟩
            have HS4 := Lib.hid (HS.out.below hb)
            have hpt := HPT.out w4 HS4.out
            unfold Prt18 at hpt
            have HP := Lib.hid hpt
            have HLL := Lib.hid (show (cput18 64 l x.s.p).1.length ≤ i + 1 by
              have := HLN.out
              unfold cput18
              split
              · show l.length ≤ i + 1; omega
              · split
                · show l.length ≤ i + 1; omega
                · show (put18 Sp.k l x.s.p).length ≤ i + 1
                  rw [put18_len HS4.out.p.tbl.srt]
                  split <;> omega)
            clear hb HS HTH HPT x11 HX hpt
            go_wp2_with fail
            ((with_reducible refine HP.out.mono ?_))
            rintro e w5 ⟨S2, rfl, hp, hm⟩
            have HS5 := Lib.hid (HS4.out.mv hp hm)
            clear hp hm HS4 HP
            go_wp2_with fail
            go_roundw
            case rel => exact ⟨i + 1, _, S2, by have := HI.out; omega, by have := HI.out; omega, by first | rfl | (simp; omega), HLL, HS5⟩
            case measure => have := HI.out; simp [intOf]; omega
          · have j1 : ¬ (x.s.n : Int) ≤ 1000 := by omega
            clear hrl
            go_wp2_with fail
            go_roundw
            case rel => exact ⟨i + 1, l, S1, by have := HI.out; omega, by have := HI.out; omega, by first | rfl | (simp; omega), Lib.hid (by have := HLN.out; omega), HS⟩
            case measure => have := HI.out; simp [intOf]; omega
        · have i2 : ¬ (i : Int) < 80 := by omega
          have HM := Lib.hid (And.intro hi80 h2)
          clear h1 h2
          go_wp2_with fail
          go_meet
          exact ⟨l, S1, Lib.hid (by have := HLN.out; have := HM.out; omega), HS⟩
      · have i1 : ¬ (i : Int) < (n : Int) := by omega
        have HM := Lib.hid hi80
        clear h1
        go_wp2_with fail
        go_meet
        exact ⟨l, S1, Lib.hid (by have := HLN.out; have := HM.out; omega), HS⟩
  case rest =>
    obtain ⟨l, S1, HLN, HS⟩ := hcut
    clear ST
    by_cases hbig : 1125899906842624 < now
    · clear HIN HIR HIZ HON
      go_wp2_with fail
      go_ret
      exact ⟨rfl, HS.out.bel⟩
    · have g0 : ¬ 1125899906842624 < now := hbig
      have e1 : IntKind.i64.wrap (now + (later : Int)) = now + (later : Int) := by have := HNW.out; rw [IntWalk.i64_in _ (by omega)]
      have HTL := Lib.hid HS.out.p.tbl.len
      have hta := HS.out.p.tbl.bnd
      have hall := all18_calls q 64 l S1 wc HS.out.p
      unfold All18 at hall
      have HA := Lib.hid hall
      have HBG := Lib.hid hbig
      clear hall hbig hta
      go_wp2_with fail
      ((with_reducible refine HA.out.mono ?_))
      rintro e w6 ⟨ls, A6, c6, rfl, hmap, hacc, hsts, hb⟩
      have HS6 := Lib.hid (HS.out.below hb)
      have HMP := Lib.hid hmap
      have HLS := Lib.hid (show ls.length = l.length by rw [← hmap, List.length_map])
      have HRW := Lib.hid hacc.row
      clear hmap hacc hsts hb HS HA
      obtain ⟨N, hN⟩ : ∃ N, ls.length = N := ⟨_, rfl⟩
      rw [hN] at HRW HLS
      rw [hN]
      have HNN := Lib.hid hN
      clear hN
      go_wp2_with fail
      go_loopw [9, 49] (fun s u W => ∃ (i : Nat) (A2 : Option Addr) (c2 : Nat), i ≤ N ∧ s = .slice A2 i c2 ∧ u = .int .i64 (i : Int) ∧ Hid (AccR kyc 4 W w6.heap.size 30 A2 c2 ((ls.take i).map fun s => s.p.k)) ∧ Hid (Below w6.heap.size w6 W)) (fun s u W => N - (intOf u).toNat)
      case atStart => exact ⟨0, none, 0, Nat.zero_le _, rfl, rfl, Lib.hid (by rw [List.take_zero]; exact AccR.nil _ _ _), Lib.hid (Below.refl _ _)⟩
      case round =>
        obtain ⟨i, A2, c2, hi, rfl, rfl, HA2, HB⟩ := hrel
        by_cases hin : i < N
        · have i1 : (i : Int) < (N : Int) := by omega
          obtain ⟨b, o, x, rfl, hx, hbb, hc⟩ := row_key18 HRW.out hin
          have HX := Lib.hid (hc wr HB.out)
          have HXX := Lib.hid hx
          have HI := Lib.hid hin
          have i3 : IntKind.i64.wrap ((i : Int) + 1) = ((i + 1 : Nat) : Int) := by rw [IntWalk.i64_in _ (by have := HTL.out; have := HLS.out; omega)]; omega
          clear hx hbb hc hin hi
          have bz := bel_new (Below.refl wr.heap.size wr) (.cells #[.int .i64 0, .int .i64 0, .int .i64 0, .int .i64 0, .int .u64 0, .int .i64 0, .int .i64 0, .int .u32 0, .int .u32 0, .int .u32 0, .slice none 0 0, .int .i64 0, .int .i64 0, .int .i64 0, .int .i64 0, .int .i64 0, .int .i64 0] 40)
          have BZ := Lib.hid (show Blk (wr.alloc (.cells #[.int .i64 0, .int .i64 0, .int .i64 0, .int .i64 0, .int .u64 0, .int .i64 0, .int .i64 0, .int .u32 0, .int .u32 0, .int .u32 0, .slice none 0 0, .int .i64 0, .int .i64 0, .int .i64 0, .int .i64 0, .int .i64 0, .int .i64 0] 40)) wr.heap.size 40 (ssc z18) from Blk.new wr _ (ssc z18))
          have HBZ := Lib.hid bz
          clear bz
          go_upto_region 17 with (first | (refine step_load_at (o := ⟨some 52, _, _, _, _, _⟩) rfl rfl rfl HX.out Try.underlying40 rfl (HIN.out _) ?_) | ((with_reducible refine step_store (o := ⟨none, _, _, _, _, _⟩) (vs := ssc x) (ty := 40) (x := .tmp 11) (y := .tmp 52) ?_ ?_ ?_ ?_ BZ.out (HIN.out _) rfl (HON.out _) ?_); (rfl); (rfl); (rfl); (rfl); intro w2 hb5 hg5 hs5))
          have VB := Lib.hid hb5
          have hv : Below wr.heap.size wr w2 := bel_upd HBZ.out hg5 (Nat.le_refl _) (Nat.le_refl _)
          have HVB := Lib.hid hv
          clear hb5 hg5 hs5 BZ HBZ hv
          have HA3 := Lib.hid (HA2.out.bel HVB.out)
          have HB3 := Lib.hid (HB.out.trans (HVB.out.mono HB.out.size))
          have hln : ((ls.take i).map fun s => s.p.k).length = i := by have := HNN.out; have := HI.out; rw [List.length_map, List.length_take]; omega
          obtain ⟨A7, c7, w7, hrun, hacc7, hg7⟩ := accr_push (P := Try.prog) (ty := 62) kyc_length kyc_one (by omega) HA3.out x.p.k Try.underlying62 infoKy18 rfl HB3.out.size (by rw [hln]; have := HI.out; have := HLS.out; have := HTL.out; omega) (by rw [hln]; have := HI.out; have := HLS.out; have := HTL.out; omega)
          rw [hln] at hrun
          have HRUN := Lib.hid hrun
          have HA7 := Lib.hid (show AccR kyc 4 w7 w6.heap.size 30 A7 c7 ((ls.take (i + 1)).map fun s => s.p.k) by rw [key_snoc18 HXX.out]; exact hacc7)
          have HB7 := Lib.hid (show Below w6.heap.size w6 w7 from belr_acc HB3.out HA3.out hg7)
          have x0 : w2.cell? ⟨wr.heap.size, 0, none⟩ = some (.int .i64 x.p.k.tail) := VB.out.cell 0
          have x1 : w2.cell? ⟨wr.heap.size, 1, none⟩ = some (.int .i64 x.p.k.tun) := VB.out.cell 1
          have x2 : w2.cell? ⟨wr.heap.size, 2, none⟩ = some (.int .i64 x.p.k.head) := VB.out.cell 2
          have x3 : w2.cell? ⟨wr.heap.size, 3, none⟩ = some (.int .i64 x.p.k.lsp) := VB.out.cell 3
          clear hrun hacc7 hg7 hln HA3 HB3 HVB HX HA2 HB
          go_wp2_with (first | (refine step_build18 (o := ⟨some 56, _, _, _, _, _⟩) (x := .tmp 55) (vs := kyc x.p.k) rfl rfl rfl Try.underlying62 (HIZ.out _) (by rw [kyc_length]; decide) (by rw [kyc_length]; decide) ?_) | (at_builtin; refine step_append (o := ⟨some 57, _, _, _, _, _⟩) rfl rfl rfl rfl HRUN.out ?_))
          go_roundw
          case rel => exact ⟨i + 1, A7, c7, HI.out, rfl, by first | rfl | (simp; omega), HA7, HB7⟩
          case measure => have := HI.out; simp [intOf]; omega
        · have i1 : ¬ (i : Int) < (N : Int) := by omega
          obtain rfl : i = N := by omega
          have hac := HA2.out
          rw [List.take_of_length_le (by rw [HNN.out]; exact Nat.le_refl _)] at hac
          have hkk : ls.map (fun s => s.p.k) = l.map (·.k) := by rw [← HMP.out, List.map_map]; rfl
          rw [hkk] at hac
          have hli : i = l.length := HLS.out
          have HAR := Lib.hid (show Row kyc wr wr.heap.size A2 i (l.map (·.k)) by have := hac.row; rw [List.length_map, ← hli] at this; exact this)
          have HS7 := Lib.hid (HS6.out.below HB.out)
          have HLI := Lib.hid hli
          clear hin hi hac hkk hli HA2 HB HS6
          have HKL := Lib.hid (fun (t : Int) (W : World) (hS : St18 w W q 64 l S1) => late18c_calls q 64 l S1 t W hS.p)
          have HKP := Lib.hid (fun (t : Int) (W : World) (hS : St18 w W q 64 l S1) => lapsed18c_calls q 64 l S1 t W hS.p)
          have hll : ∀ t, (late18 l t).length ≤ 1048576 := fun t => by unfold late18; rw [List.length_map]; exact Nat.le_trans (List.length_filter_le _ _) (by have := HTL.out; omega)
          have hlp : ∀ t, (laps18 l t).length ≤ 1048576 := fun t => by unfold laps18; rw [List.length_map]; exact Nat.le_trans (List.length_filter_le _ _) (by have := HTL.out; omega)
          have HLL := Lib.hid hll
          have HLP := Lib.hid hlp
          have HLK := Lib.hid (show (l.map (·.k)).length ≤ 1048576 by rw [List.length_map]; have := HTL.out; omega)
          have HTT := Lib.hid (show now ≤ now + (later : Int) by omega)
          clear hll hlp
          have HSwr := Lib.hid HS7.out
          clear HS7
          have hk := HKL.out now wr HSwr.out
          unfold Kys18 at hk
          have HK := Lib.hid hk
          clear hk
          go_wp2_with fail
          ((with_reducible refine HK.out.mono ?_))
          rintro e z1 ⟨Az1, cz1, rfl, hacc, hb⟩
          have HSz1 := Lib.hid (HSwr.out.below hb)
          have Rz1 := Lib.hid hacc.row
          have hr0 := (HAR.out.below hb).more hb.size
          clear HAR
          have HAR := Lib.hid hr0
          clear hr0
          clear hacc hb HK HSwr
          have hk := HKL.out (now + (later : Int)) z1 HSz1.out
          unfold Kys18 at hk
          have HK := Lib.hid hk
          clear hk
          go_wp2_with fail
          ((with_reducible refine HK.out.mono ?_))
          rintro e z2 ⟨Az2, cz2, rfl, hacc, hb⟩
          have HSz2 := Lib.hid (HSz1.out.below hb)
          have Rz2 := Lib.hid hacc.row
          have hr0 := (HAR.out.below hb).more hb.size
          clear HAR
          have HAR := Lib.hid hr0
          clear hr0
          have hr0 := (Rz1.out.below hb).more hb.size
          clear Rz1
          have Rz1 := Lib.hid hr0
          clear hr0
          clear hacc hb HK HSz1
          have hw := within18L_calls Az1 Az2 _ cz1 _ cz2 (late18 l now) (late18 l (now + (later : Int))) z2 Rz1.out Rz2.out (HLL.out _) (HLL.out _) (fun k hk => late18_more HTT.out k hk)
          unfold Yes14 at hw
          have HW := Lib.hid hw
          clear hw
          go_wp2_with fail
          ((with_reducible refine HW.out.mono ?_))
          rintro e z3 ⟨rfl, hb⟩
          have HSz3 := Lib.hid (HSz2.out.below hb)
          have hr0 := (HAR.out.below hb).more hb.size
          clear HAR
          have HAR := Lib.hid hr0
          clear hr0 hb HW HSz2 Rz1 Rz2
          have hk := HKP.out now z3 HSz3.out
          unfold Kys18 at hk
          have HK := Lib.hid hk
          clear hk
          go_wp2_with fail
          ((with_reducible refine HK.out.mono ?_))
          rintro e z4 ⟨Az4, cz4, rfl, hacc, hb⟩
          have HSz4 := Lib.hid (HSz3.out.below hb)
          have Rz4 := Lib.hid hacc.row
          have hr0 := (HAR.out.below hb).more hb.size
          clear HAR
          have HAR := Lib.hid hr0
          clear hr0
          clear hacc hb HK HSz3
          have hk := HKP.out (now + (later : Int)) z4 HSz4.out
          unfold Kys18 at hk
          have HK := Lib.hid hk
          clear hk
          go_wp2_with fail
          ((with_reducible refine HK.out.mono ?_))
          rintro e z5 ⟨Az5, cz5, rfl, hacc, hb⟩
          have HSz5 := Lib.hid (HSz4.out.below hb)
          have Rz5 := Lib.hid hacc.row
          have hr0 := (HAR.out.below hb).more hb.size
          clear HAR
          have HAR := Lib.hid hr0
          clear hr0
          have hr0 := (Rz4.out.below hb).more hb.size
          clear Rz4
          have Rz4 := Lib.hid hr0
          clear hr0
          clear hacc hb HK HSz4
          have hw := within18L_calls Az4 Az5 _ cz4 _ cz5 (laps18 l now) (laps18 l (now + (later : Int))) z5 Rz4.out Rz5.out (HLP.out _) (HLP.out _) (fun k hk => laps18_more HTT.out k hk)
          unfold Yes14 at hw
          have HW := Lib.hid hw
          clear hw
          go_wp2_with fail
          ((with_reducible refine HW.out.mono ?_))
          rintro e z6 ⟨rfl, hb⟩
          have HSz6 := Lib.hid (HSz5.out.below hb)
          have hr0 := (HAR.out.below hb).more hb.size
          clear HAR
          have HAR := Lib.hid hr0
          clear hr0 hb HW HSz5 Rz4 Rz5
          have hk := HKL.out (now + (later : Int)) z6 HSz6.out
          unfold Kys18 at hk
          have HK := Lib.hid hk
          clear hk
          go_wp2_with fail
          ((with_reducible refine HK.out.mono ?_))
          rintro e z7 ⟨Az7, cz7, rfl, hacc, hb⟩
          have HSz7 := Lib.hid (HSz6.out.below hb)
          have Rz7 := Lib.hid hacc.row
          have hr0 := (HAR.out.below hb).more hb.size
          clear HAR
          have HAR := Lib.hid hr0
          clear hr0
          clear hacc hb HK HSz6
          have hw := within18L_calls Az7 A2 _ cz7 _ c2 (late18 l (now + (later : Int))) (l.map (·.k)) z7 Rz7.out HAR.out (HLL.out _) (by have := HTL.out; have := HLI.out; omega) (fun k hk => late18_in k hk)
          unfold Yes14 at hw
          have HW := Lib.hid hw
          clear hw
          go_wp2_with fail
          ((with_reducible refine HW.out.mono ?_))
          rintro e z8 ⟨rfl, hb⟩
          have HSz8 := Lib.hid (HSz7.out.below hb)
          have hr0 := (HAR.out.below hb).more hb.size
          clear HAR
          have HAR := Lib.hid hr0
          clear hr0 hb HW HSz7 Rz7
          have hk := HKP.out (now + (later : Int)) z8 HSz8.out
          unfold Kys18 at hk
          have HK := Lib.hid hk
          clear hk
          go_wp2_with fail
          ((with_reducible refine HK.out.mono ?_))
          rintro e z9 ⟨Az9, cz9, rfl, hacc, hb⟩
          have HSz9 := Lib.hid (HSz8.out.below hb)
          have Rz9 := Lib.hid hacc.row
          have hr0 := (HAR.out.below hb).more hb.size
          clear HAR
          have HAR := Lib.hid hr0
          clear hr0
          clear hacc hb HK HSz8
          have hw := within18L_calls Az9 A2 _ cz9 _ c2 (laps18 l (now + (later : Int))) (l.map (·.k)) z9 Rz9.out HAR.out (HLP.out _) (by have := HTL.out; have := HLI.out; omega) (fun k hk => laps18_in k hk)
          unfold Yes14 at hw
          have HW := Lib.hid hw
          clear hw
          go_wp2_with fail
          ((with_reducible refine HW.out.mono ?_))
          rintro e z10 ⟨rfl, hb⟩
          have HSz10 := Lib.hid (HSz9.out.below hb)
          have hr0 := (HAR.out.below hb).more hb.size
          clear HAR
          have HAR := Lib.hid hr0
          clear hr0 hb HW HSz9 Rz9
          have hln := len18_calls q 64 l S1 z10 HSz10.out.p
          rw [← HLI.out] at hln
          have HLE := Lib.hid hln
          have hii : ((i : Int) == (i : Int)) = true := by simp
          clear hln
          go_wp2_with fail
          ((with_reducible refine HLE.out.mono ?_))
          rintro e y9 ⟨rfl, rfl⟩
          go_wp2_with fail
          go_ret
          exact ⟨rfl, HSz10.out.bel⟩
end Go.Proofs.Ytogijfebfffobaa
