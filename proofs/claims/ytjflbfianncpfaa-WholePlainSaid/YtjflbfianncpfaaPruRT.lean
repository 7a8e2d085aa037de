/-
  The document's answers of layer 16 (viaductref16): has, Fits, Links. Condition: numbers as large as their types allow; fewer than 2^30 elements in each list.
  The document's Links of layer 16; the laws' Fits (small enough), Same. Condition: numbers as large as their types allow; fewer than 2^30 elements in each list.
  The laws' Theirs and Adverts (viaductlaw16). Condition: fewer than 2^30 elements in each list.
-/
import Derived.Test.YtjflbfianncpfaaPruAC
import Derived.Test.YtjflbfianncpfaaGroupMC
import Derived.Test.YtjflbfianncpfaaGraphDL
namespace Go.Proofs.Ytjflbfianncpfaa
set_option maxRecDepth 100000
set_option linter.unusedVariables false
open Go.RowKit

theorem infoAkR : (Try.prog.info? 33).map (·.size) = some 10 := by kernel_rfl
theorem infoAdR16 : (Try.prog.info? 76).map (·.size) = some 15 := by kernel_rfl
set_option maxHeartbeats 1600000 in
theorem rhas16_calls (a : Ak) (p : Pl) (f t : Int) (w : World) (h : AkIn w w.heap.size a p) :
    Calls Try.prog 41 #[.agg (akc a.w p).toArray, .int .i64 f, .int .i64 t] w (Num16 (own16 a.ow f t) w) := by
  unfold Num16
  have hl := bel_new (Below.refl w.heap.size w) (.cells (akc a.w p).toArray 33)
  have HQ := Lib.hid (Blk.new w 33 (akc a.w p))
  have HL := Lib.hid hl
  have hin := h.below hl
  have hn := hin.b3
  have hr := hin.ow
  obtain ⟨A1, n1, c1, A2, n2, c2, A, n, c, hop⟩ := p
  simp only at hn hr
  have HR := Lib.hid hr
  clear hl h hin hr
  go_enter Try.func41, Try.ntmps41
  go_upto_region 1 with fail
  generalize (w.alloc _) = w1 at *
  go_wp2_with fail
  go_loopw [7, 8] (fun s u W => ∃ i : Nat, i ≤ n ∧ s = .int .u64 ((own16 (a.ow.take i) f t : Nat) : Int) ∧ u = .int .i64 (i : Int) ∧ W = w1) (fun s u W => n - (intOf u).toNat)
  case atStart => exact ⟨0, Nat.zero_le _, rfl, rfl, rfl⟩
  case round =>
    obtain ⟨i, hi, rfl, rfl, rfl⟩ := hrel
    obtain ⟨N, hN⟩ : ∃ N, own16 (a.ow.take i) f t = N := ⟨_, rfl⟩
    rw [hN]
    have HNN := Lib.hid hN
    clear hN
    by_cases hin : i < n
    · have i1 : (i : Int) < (n : Int) := by omega
      obtain ⟨b, o, x, rfl, hx, hbb, hc⟩ := cells15 owc_length HR.out hin
      obtain ⟨xf, xt, xb⟩ := x
      have HIN := Lib.hid hin
      have x8 : wr.cell? ⟨w.heap.size, 8, none⟩ = some (.slice (some ⟨b, o, none⟩) n c) := HQ.out.cell 8
      have z0 : wr.cell? ⟨b, o + i * 3, none⟩ = some (.int .i64 xf) := hc wr (Below.refl _ _) 0 _ rfl
      have z1 : wr.cell? ⟨b, o + i * 3 + 1, none⟩ = some (.int .i64 xt) := hc wr (Below.refl _ _) 1 _ rfl
      have z2 : wr.cell? ⟨b, o + i * 3 + 2, none⟩ = some (.int .u64 (xb : Int)) := hc wr (Below.refl _ _) 2 _ rfl
      have hsn := own16_snoc hx f t
      rw [HNN.out] at hsn
      have HSN := Lib.hid hsn
      clear hx hbb hc hin hi hsn
      by_cases e0 : xf = f
      · by_cases e1 : xt = t
        · have hv : own16 (a.ow.take (i + 1)) f t = max N xb := by rw [HSN.out]; unfold upd16; rw [if_pos ⟨e0, e1⟩]
          have HV := Lib.hid hv
          have q0 : (xf == f) = true := by simp [e0]
          have q1 : (xt == t) = true := by simp [e1]
          clear e0 e1 hv HSN
          by_cases hm : N < xb
          · have hm1 : (N : Int) < (xb : Int) := by omega
            have HM := Lib.hid hm
            clear hm
            go_wp2_with fail
            go_roundw
            case rel => exact ⟨i + 1, HIN.out, by rw [HV.out]; have := HM.out; first | rfl | (congr 1; omega), by first | rfl | (simp; omega), by first | rfl | trivial⟩
            case measure => have := HIN.out; simp [intOf]; omega
          · have hm1 : ¬ (N : Int) < (xb : Int) := by omega
            have HM := Lib.hid hm
            clear hm
            go_wp2_with fail
            go_roundw
            case rel => exact ⟨i + 1, HIN.out, by rw [HV.out]; have := HM.out; first | rfl | (congr 1; omega), by first | rfl | (simp; omega), by first | rfl | trivial⟩
            case measure => have := HIN.out; simp [intOf]; omega
        · have hv : own16 (a.ow.take (i + 1)) f t = N := by rw [HSN.out]; unfold upd16; rw [if_neg (fun h => e1 h.2)]
          have HV := Lib.hid hv
          have q0 : (xf == f) = true := by simp [e0]
          have q1 : (xt == t) = false := by simp [e1]
          clear e0 e1 hv HSN
          go_wp2_with fail
          go_roundw
          case rel => exact ⟨i + 1, HIN.out, by rw [HV.out], by first | rfl | (simp; omega), by first | rfl | trivial⟩
          case measure => have := HIN.out; simp [intOf]; omega
      · have hv : own16 (a.ow.take (i + 1)) f t = N := by rw [HSN.out]; unfold upd16; rw [if_neg (fun h => e0 h.1)]
        have HV := Lib.hid hv
        have q0 : (xf == f) = false := by simp [e0]
        clear e0 hv HSN
        go_wp2_with fail
        go_roundw
        case rel => exact ⟨i + 1, HIN.out, by rw [HV.out], by first | rfl | (simp; omega), by first | rfl | trivial⟩
        case measure => have := HIN.out; simp [intOf]; omega
    · obtain rfl : i = n := by omega
      have i1 : ¬ (i : Int) < (i : Int) := by omega
      have x8 : wr.cell? ⟨w.heap.size, 8, none⟩ = some (.slice A i c) := HQ.out.cell 8
      have hv : own16 a.ow f t = N := by rw [← HNN.out, List.take_of_length_le (by rw [HR.out.1]; exact Nat.le_refl _)]
      have HV := Lib.hid hv
      clear hin hi hv
      go_wp2_with fail
      go_ret
      exact ⟨by rw [HV.out]; rfl, HL.out⟩

set_option maxHeartbeats 6400000 in
theorem rfits16_calls (a : Ak) (ha : AkOk a) (p : Pl) (x : Ad) (hx : AdOk x) (w : World) (h : AkIn w w.heap.size a p) :
    Calls Try.prog 28 #[.agg (adc x).toArray, .agg (akc a.w p).toArray] w (Yes15 (fit16 a x) w) := by
  obtain ⟨b0, b1, bl⟩ := alloc2 w (adc x) (akc a.w p) 76 33
  have HFR := Lib.hid (free16 hx)
  have hg := hx.g0
  have hg1 := hx.g1
  have HRM := Lib.hid (show room16 a x = room16 a x from rfl)
  have HIN := Lib.hid (h.below bl)
  have HB := Lib.hid b0
  have HQ := Lib.hid b1
  have HL := Lib.hid bl
  have HWN := Lib.hid (show (Try.prog.info? 28).map (·.size) = some (wnc a.w).length from infoWn16)
  have HIA := Lib.hid (show (Try.prog.info? 33).map (·.size) = some (akc a.w p).length from infoAkR)
  have HAW := Lib.hid (fun f t => ha.own f t)
  obtain ⟨⟨f, t, cp, m, g⟩, q, up, fr⟩ := x
  simp only at hg hg1
  obtain ⟨G, rfl⟩ := Int.eq_ofNat_of_zero_le hg
  unfold Yes15
  have hrt : wRight a.w = true → ∃ P : Nat, a.w.su = (P : Int) ∧ P < 8 := fun hr => by
    unfold wRight at hr
    have := of_decide_eq_true hr
    obtain ⟨P, hP⟩ := Int.eq_ofNat_of_zero_le this.1
    exact ⟨P, hP, by omega⟩
  obtain ⟨R, hR⟩ : ∃ R, fit16 a ⟨⟨f, t, cp, m, (G : Int)⟩, q, up, fr⟩ = R := ⟨_, rfl⟩
  rw [hR]
  unfold fit16 exc16 at hR
  simp only [Int.toNat_natCast] at hR
  have HA1 := Lib.hid (fun W => (show Calls Try.prog 24 #[.agg (wnc a.w).toArray] W (Yes12 (wRight a.w) W) from rright12_calls a.w W))
  have HA3 := Lib.hid (fun W => (show Calls Try.prog 39 #[.agg (wnc a.w).toArray, .int .u32 (G : Int)] W (Yes12 (wAllows a.w G) W) from rallows12_calls a.w ha.wn G (by omega) W))
  unfold Yes12 at HA1 HA3
  obtain ⟨d1, hd1⟩ : ∃ d, wRight a.w = d := ⟨_, rfl⟩
  obtain ⟨d3, hd3⟩ : ∃ d, wAllows a.w G = d := ⟨_, rfl⟩
  obtain ⟨e1, he1⟩ : ∃ d, decide (f ∈ a.nn) = d := ⟨_, rfl⟩
  obtain ⟨e2, he2⟩ : ∃ d, decide (t ∈ a.nn) = d := ⟨_, rfl⟩
  obtain ⟨e3, he3⟩ : ∃ d, decide ((f, t) ∈ a.nl) = d := ⟨_, rfl⟩
  obtain ⟨rm, hrm⟩ : ∃ d, room16 a ⟨⟨f, t, cp, m, (G : Int)⟩, q, up, fr⟩ = d := ⟨_, rfl⟩
  rw [hd1, hd3, he1, he2, he3, hrm] at hR
  rw [hd1] at HA1 hrt
  rw [hd3] at HA3
  have HUN := Lib.hid hR.symm
  have HRT := Lib.hid hrt
  have HE := Lib.hid (And.intro he1 (And.intro he2 he3))
  have HRM := Lib.hid hrm
  clear b0 b1 bl h hd1 hd3 he1 he2 he3 hrm hrt hR hg hg1 hx ha
  go_enter Try.func28, Try.ntmps28
  go_upto_region 1 with fail
  generalize ((w.alloc (.cells _ 76)).alloc _) = w1 at *
  have x0 : w1.cell? ⟨w.heap.size, 0, none⟩ = some (.int .i64 f) := HB.out.cell 0
  have x1 : w1.cell? ⟨w.heap.size, 1, none⟩ = some (.int .i64 t) := HB.out.cell 1
  have x2 : w1.cell? ⟨w.heap.size, 2, none⟩ = some (.int .u64 cp) := HB.out.cell 2
  have x3 : w1.cell? ⟨w.heap.size, 3, none⟩ = some (.int .i64 m) := HB.out.cell 3
  have x4 : w1.cell? ⟨w.heap.size, 4, none⟩ = some (.int .u32 (G : Int)) := HB.out.cell 4
  go_upto_region 2 with fail
  clear x0 x1 x2 x3 x4
  have hb2 := bel_new (Below.refl w1.heap.size w1) (.cells #[.int .i64 f, .int .i64 t, .int .u64 cp, .int .i64 m, .int .u32 (G : Int)] 53)
  have KX := Lib.hid (show Blk (w1.alloc (.cells #[.int .i64 f, .int .i64 t, .int .u64 cp, .int .i64 m, .int .u32 (G : Int)] 53)) w1.heap.size 53 (lkc ⟨f, t, cp, m, (G : Int)⟩) from Blk.new w1 _ (lkc ⟨f, t, cp, m, (G : Int)⟩))
  have L2 := Lib.hid (HL.out.trans (hb2.mono HL.out.size))
  have B2 := Lib.hid (HB.out.below hb2)
  have Q2 := Lib.hid (HQ.out.below hb2)
  have I2 := Lib.hid (HIN.out.below hb2)
  clear hb2 HB HQ HIN HL
  generalize w1.alloc _ = w2 at *
  generalize w1.heap.size = qk at *
  clear w1
  have r2 := Lib.hid (akc_range Q2.out)
  go_wp2_with (refine step_load_at (o := ⟨some 12, _, _, _, _, _⟩) rfl rfl rfl r2.out Try.underlying28 rfl HWN.out ?_)
  ((with_reducible refine (HA1.out w2).mono ?_))
  rintro e w3 ⟨rfl, hb⟩
  have L3 := Lib.hid (L2.out.trans (hb.mono L2.out.size))
  have B3 := Lib.hid (B2.out.below hb)
  have Q3 := Lib.hid (Q2.out.below hb)
  have I3 := Lib.hid (I2.out.below hb)
  have K3 := Lib.hid (KX.out.below hb)
  clear hb r2 L2 B2 Q2 I2 KX HA1
  cases d1 with
  | false =>
    have hv : R = false := by rw [HUN.out]; simp
    have HV := Lib.hid hv
    clear hv HUN
    go_wp2_with fail
    go_ret
    exact ⟨by rw [HV.out]; rfl, L3.out⟩
  | true =>
  obtain ⟨P, hP, hP8⟩ := HRT.out rfl
  have HP := Lib.hid (And.intro hP hP8)
  clear hP hP8 HRT
  cases up with
  | false =>
    have hv : R = false := by rw [HUN.out]; simp
    have HV := Lib.hid hv
    have x6 : w3.cell? ⟨w.heap.size, 6, none⟩ = some (.bool false) := B3.out.cell 6
    clear hv HUN
    go_wp2_with fail
    go_ret
    exact ⟨by rw [HV.out]; rfl, L3.out⟩
  | true =>
  have x6 : w3.cell? ⟨w.heap.size, 6, none⟩ = some (.bool true) := B3.out.cell 6
  have x4 : w3.cell? ⟨qk, 4, none⟩ = some (.int .u32 (G : Int)) := K3.out.cell 4
  have r3 := Lib.hid (akc_range Q3.out)
  go_wp2_with (refine step_load_at_want (o := ⟨some 22, _, _, _, _, _⟩) (by rfl) rfl rfl r3.out Try.underlying28 rfl HWN.out ?_)
  ((with_reducible refine (HA3.out w3).mono ?_))
  rintro e w4 ⟨rfl, hb⟩
  have L4 := Lib.hid (L3.out.trans (hb.mono L3.out.size))
  have B4 := Lib.hid (B3.out.below hb)
  have Q4 := Lib.hid (Q3.out.below hb)
  have I4 := Lib.hid (I3.out.below hb)
  have K4 := Lib.hid (K3.out.below hb)
  clear hb r3 L3 B3 Q3 I3 K3 HA3 x6 x4
  cases d3 with
  | false =>
    have hv : R = false := by rw [HUN.out]; simp
    have HV := Lib.hid hv
    clear hv HUN
    go_wp2_with fail
    go_ret
    exact ⟨by rw [HV.out]; rfl, L4.out⟩
  | true =>
  obtain ⟨A1, n1, c1, A2, n2, c2, A3, n3, c3, hop⟩ := p
  have hb1 := I4.out.b1
  have hb2 := I4.out.b2
  simp only at hb1 hb2
  have HH := Lib.hid (fun (x : Int) => rhas_calls x A1 n1 c1 w4.heap.size a.nn w4 I4.out.nn (by omega))
  have J1 := HH.out f
  have J2 := HH.out t
  rw [HE.out.1] at J1
  rw [HE.out.2.1] at J2
  have HJ1 := Lib.hid J1
  have HJ2 := Lib.hid J2
  have RN2 := Lib.hid (show Row prc w4 w4.heap.size A2 n2 a.nl from I4.out.nl)
  clear J1 J2 HH hb1
  have x6 : w4.cell? ⟨w.heap.size + 1, 6, none⟩ = some (.slice A1 n1 c1) := Q4.out.cell 6
  have x0 : w4.cell? ⟨qk, 0, none⟩ = some (.int .i64 f) := K4.out.cell 0
  have x1 : w4.cell? ⟨qk, 1, none⟩ = some (.int .i64 t) := K4.out.cell 1
  cases e1 with
  | true =>
    have hv : R = false := by rw [HUN.out]; simp
    have HV := Lib.hid hv
    clear hv HUN
    go_wp2_with fail
    ((with_reducible refine HJ1.out.mono ?_))
    rintro e w5 ⟨rfl, rfl⟩
    go_wp2_with fail
    go_ret
    exact ⟨by rw [HV.out]; rfl, L4.out⟩
  | false =>
  cases e2 with
  | true =>
    have hv : R = false := by rw [HUN.out]; simp
    have HV := Lib.hid hv
    clear hv HUN
    go_wp2_with fail
    ((with_reducible refine HJ1.out.mono ?_))
    rintro e w5 ⟨rfl, rfl⟩
    go_wp2_with fail
    ((with_reducible refine HJ2.out.mono ?_))
    rintro e w6 ⟨rfl, rfl⟩
    go_wp2_with fail
    go_ret
    exact ⟨by rw [HV.out]; rfl, L4.out⟩
  | false =>
  go_wp2_with fail
  ((with_reducible refine HJ1.out.mono ?_))
  rintro e w5 ⟨rfl, rfl⟩
  go_wp2_with fail
  ((with_reducible refine HJ2.out.mono ?_))
  rintro e w6 ⟨rfl, rfl⟩
  go_wp2_with fail
  clear x6 x0 x1 HJ1 HJ2
  go_loopw [6] (fun s W => ∃ i : Nat, i ≤ n2 ∧ s = .int .i64 (i : Int) ∧ (f, t) ∉ a.nl.take i ∧ Below w6.heap.size w6 W) (fun s W => n2 - (intOf s).toNat)
  case atStart => exact ⟨0, Nat.zero_le _, rfl, by simp, Below.refl _ _⟩
  case round =>
    obtain ⟨i, hi, rfl, hF, hbl⟩ := hrel
    have HF := Lib.hid hF
    have HBL := Lib.hid hbl
    have BW := Lib.hid (B4.out.below HBL.out)
    have QW := Lib.hid (Q4.out.below HBL.out)
    have KW := Lib.hid (K4.out.below HBL.out)
    clear hF hbl
    by_cases hin : i < n2
    · have i1 : (i : Int) < (n2 : Int) := by omega
      obtain ⟨b, o, y, rfl, hy, hbb, hc⟩ := cells15 prc_length RN2.out hin
      obtain ⟨y1, y2⟩ := y
      have HY := Lib.hid hy
      have HII := Lib.hid hin
      have x7 : wr.cell? ⟨w.heap.size + 1, 7, none⟩ = some (.slice (some ⟨b, o, none⟩) n2 c2) := QW.out.cell 7
      have hcs : ∀ W, Below wr.heap.size wr W → (W.cell? ⟨w.heap.size + 1, 7, none⟩ = some (.slice (some ⟨b, o, none⟩) n2 c2) ∧ W.cell? ⟨b, o + i * 2, none⟩ = some (.int .i64 y1) ∧ W.cell? ⟨b, o + i * 2 + 1, none⟩ = some (.int .i64 y2)) ∧ W.cell? ⟨qk, 0, none⟩ = some (.int .i64 f) ∧ W.cell? ⟨qk, 1, none⟩ = some (.int .i64 t) := by
        intro W hW
        have h1 := HBL.out.trans (hW.mono HBL.out.size)
        exact ⟨⟨(QW.out.below hW).cell 7, hc W h1 0 _ rfl, hc W h1 1 _ rfl⟩, (KW.out.below hW).cell 0, (KW.out.below hW).cell 1⟩
      have HCS := Lib.hid hcs
      clear hy hbb hc hcs hin hi
      by_cases z1 : y1 = f
      · by_cases z2 : y2 = t
        · have q1 : (y1 == f) = true := by simp [z1]
          have q2 : (y2 == t) = true := by simp [z2]
          have hv : R = false := by
            have : e3 = true := by
              rw [← HE.out.2.2, decide_eq_true_eq, ← z1, ← z2]
              exact List.mem_of_getElem? HY.out
            rw [HUN.out, this]; simp
          have HV := Lib.hid hv
          clear z1 z2 hv HUN
          go_wp2_with fail
          refine region_seq (fun W => Below wr.heap.size wr W) [(0, true), (1, true), (2, true), (3, true), (4, true), (5, true), (6, true), (7, true), (8, true), (9, true), (10, true), (11, true), (12, true), (13, true), (14, true), (15, true), (16, true), (17, true), (18, true), (19, true)] (by kernel_rfl) (by kernel_rfl) (by kernel_rfl) (by kernel_rfl) (fun _ _ _ _ _ h => h) (Below.refl _ _).drew ?_
          repeat first
            | refine seq_pure (v := ?_) rfl (by rfl) (fun W hW => ?_) ?_
              rotate_left
              · obtain ⟨⟨t1, t2, t3⟩, t4, t5⟩ := HCS.out W hW
                clear hW
                go_simp
                with_reducible rfl
              simp only [Act.put, List.setIfInBounds_toArray, List.set_cons_zero, List.set_cons_succ]
            | refine seq_skip rfl (by rfl) ?_
              simp only [Act.put, List.setIfInBounds_toArray, List.set_cons_zero, List.set_cons_succ]
          refine seq_done ?_
          go_wp2_with fail
          go_ret
          exact ⟨by rw [HV.out]; rfl, L4.out.trans (HBL.out.drew.mono L4.out.size)⟩
        · have q1 : (y1 == f) = true := by simp [z1]
          have q2 : (y2 == t) = false := by simp [z2]
          have hno : (f, t) ∉ a.nl.take (i + 1) := by
            rw [take_snoc15 HY.out]
            intro hm
            rcases List.mem_append.1 hm with hm | hm
            · exact HF.out hm
            · simp at hm; exact z2 hm.2.symm
          have HNO := Lib.hid hno
          clear z1 z2 hno
          go_wp2_with fail
          refine region_seq (fun W => Below wr.heap.size wr W) [(0, true), (1, true), (2, true), (3, true), (4, true), (5, true), (6, true), (7, true), (8, true), (9, true), (10, true), (11, true), (12, true), (13, true), (14, true), (15, true), (16, true), (17, true), (18, true), (19, true)] (by kernel_rfl) (by kernel_rfl) (by kernel_rfl) (by kernel_rfl) (fun _ _ _ _ _ h => h) (Below.refl _ _).drew ?_
          repeat first
            | refine seq_pure (v := ?_) rfl (by rfl) (fun W hW => ?_) ?_
              rotate_left
              · obtain ⟨⟨t1, t2, t3⟩, t4, t5⟩ := HCS.out W hW
                clear hW
                go_simp
                with_reducible rfl
              simp only [Act.put, List.setIfInBounds_toArray, List.set_cons_zero, List.set_cons_succ]
            | refine seq_skip rfl (by rfl) ?_
              simp only [Act.put, List.setIfInBounds_toArray, List.set_cons_zero, List.set_cons_succ]
          refine seq_done ?_
          go_wp2_with fail
          go_roundw
          case rel => exact ⟨i + 1, HII.out, by first | rfl | (simp; omega), HNO.out, HBL.out.drew⟩
          case measure => have := HII.out; simp [intOf]; omega
      · have q1 : (y1 == f) = false := by simp [z1]
        have hno : (f, t) ∉ a.nl.take (i + 1) := by
          rw [take_snoc15 HY.out]
          intro hm
          rcases List.mem_append.1 hm with hm | hm
          · exact HF.out hm
          · simp at hm; exact z1 hm.1.symm
        have HNO := Lib.hid hno
        clear z1 hno
        go_wp2_with fail
        refine region_seq (fun W => Below wr.heap.size wr W) [(0, true), (1, true), (2, true), (3, true), (4, true), (5, true), (6, true), (7, true), (8, true), (9, true), (10, true), (11, true), (12, true), (13, true), (14, true), (15, true), (16, true), (17, true), (18, true), (19, true)] (by kernel_rfl) (by kernel_rfl) (by kernel_rfl) (by kernel_rfl) (fun _ _ _ _ _ h => h) (Below.refl _ _).drew ?_
        repeat first
          | refine seq_pure (v := ?_) rfl (by rfl) (fun W hW => ?_) ?_
            rotate_left
            · obtain ⟨⟨t1, t2, t3⟩, t4, t5⟩ := HCS.out W hW
              clear hW
              go_simp
              with_reducible rfl
            simp only [Act.put, List.setIfInBounds_toArray, List.set_cons_zero, List.set_cons_succ]
          | refine seq_skip rfl (by rfl) ?_
            simp only [Act.put, List.setIfInBounds_toArray, List.set_cons_zero, List.set_cons_succ]
        refine seq_done ?_
        go_wp2_with fail
        go_roundw
        case rel => exact ⟨i + 1, HII.out, by first | rfl | (simp; omega), HNO.out, HBL.out.drew⟩
        case measure => have := HII.out; simp [intOf]; omega
    · obtain rfl : i = n2 := by omega
      have i1 : ¬ (i : Int) < (i : Int) := by omega
      have x7 : wr.cell? ⟨w.heap.size + 1, 7, none⟩ = some (.slice A2 i c2) := QW.out.cell 7
      have he3 : e3 = false := by
        rw [← HE.out.2.2, decide_eq_false_iff_not]
        have := HF.out
        rwa [List.take_of_length_le (by rw [RN2.out.1]; exact Nat.le_refl _)] at this
      have hv : R = rm := by rw [HUN.out, he3]; simp
      have HV := Lib.hid hv
      have hh : had16 a ⟨⟨f, t, cp, m, (G : Int)⟩, q, true, fr⟩ = fr.getD P 0 + own16 a.ow f t := by unfold had16; rw [HP.out.1]; rfl
      have hrm2 := HRM.out
      unfold room16 at hrm2
      rw [hh] at hrm2
      have HFF := Lib.hid (show (adc ⟨⟨f, t, cp, m, (G : Int)⟩, q, true, fr⟩)[7 + P]? = some (.int .u64 ((fr.getD P 0 : Nat) : Int)) from adc_free _ HP.out.2)
      have HK := Lib.hid (fun W => radd13_calls (fr.getD P 0) (own16 a.ow f t) (HFR.out P) (HAW.out f t) W)
      have LW := Lib.hid (L4.out.trans (HBL.out.mono L4.out.size))
      have HOW := Lib.hid (fun W (hW : Below wr.heap.size wr W) => rhas16_calls a ⟨A1, n1, c1, A2, i, c2, A3, n3, c3, hop⟩ f t W (I4.out.below (HBL.out.trans (hW.mono HBL.out.size))))
      unfold Num16 at HOW
      obtain ⟨fq, hfq⟩ : ∃ fq, fr.getD P 0 = fq := ⟨_, rfl⟩
      obtain ⟨ow, how⟩ : ∃ ow, own16 a.ow f t = ow := ⟨_, rfl⟩
      rw [hfq] at HFF HK hrm2
      rw [how] at HK HOW hrm2
      have HRR := Lib.hid hrm2
      have hqs : ∀ W, Blk W (w.heap.size + 1) 33 (akc a.w ⟨A1, n1, c1, A2, i, c2, A3, n3, c3, hop⟩) → W.cell? ⟨w.heap.size + 1, 1, none⟩ = some (.int .i64 (P : Int)) := fun W h => by rw [← HP.out.1]; exact h.cell 1
      have HQS := Lib.hid hqs
      have i2 : (P : Int) < 8 := by have := HP.out.2; omega
      have i3 : (0 : Int) ≤ (P : Int) := by omega
      have S0 : Below wr.heap.size wr wr.drew := (Below.refl _ _).drew
      clear hin hi he3 hv hh hrm2 hfq how hqs HUN HF HRM HFR HE
      go_wp2_with fail
      clear x7
      refine region_seq (fun W => Below wr.heap.size wr W) [(0, true), (1, true), (2, true), (3, true), (4, true), (5, true), (6, true), (7, true), (8, true), (9, true), (10, true), (11, false), (12, false), (13, true), (14, true), (15, true), (16, true), (17, true)] (by kernel_rfl) (by kernel_rfl) (by kernel_rfl) (by kernel_rfl) (fun _ _ _ _ _ h => h) S0 ?_
      repeat first
        | refine seq_load8 (x := .tmp 3) rfl (by rfl) rfl rfl (fun W hW => QW.out.below hW) Try.underlying33 rfl HIA.out ?_
          simp only [Act.put, List.setIfInBounds_toArray, List.set_cons_zero, List.set_cons_succ]
        | refine seq_pure (v := ?_) rfl (by rfl) (fun W hW => ?_) ?_
          rotate_left
          · have t1 : W.cell? ⟨w.heap.size + 1, 1, none⟩ = some (.int .i64 (P : Int)) := HQS.out W (QW.out.below hW)
            have t2 : W.cell? ⟨w.heap.size, 7 + P, none⟩ = some (.int .u64 (fq : Int)) := ((BW.out.below hW).cell _).trans HFF.out
            have t3 : W.cell? ⟨qk, 0, none⟩ = some (.int .i64 f) := (KW.out.below hW).cell 0
            have t4 : W.cell? ⟨qk, 1, none⟩ = some (.int .i64 t) := (KW.out.below hW).cell 1
            clear hW
            go_simp
            with_reducible rfl
          simp only [Act.put, List.setIfInBounds_toArray, List.set_cons_zero, List.set_cons_succ]
      refine seq_make rfl (by rfl) (fun K hK => ?_)
      go_simp
      ((with_reducible refine (HOW.out wr.drew S0).mono ?_))
      rintro e v2 ⟨rfl, hb⟩
      have SB := Lib.hid (show Below wr.heap.size wr v2 from below_of_drew hb)
      clear hb
      go_simp
      refine hK _ v2 (fun W => Below wr.heap.size wr W) (fun W h => h) SB.out ?_
      clear hK K
      refine seq_make rfl (by rfl) (fun K hK => ?_)
      go_simp
      ((with_reducible refine (HK.out v2).mono ?_))
      rintro e v3 ⟨rfl, rfl⟩
      go_simp
      refine hK _ v3 (fun W => Below wr.heap.size wr W) (fun W h => h) SB.out ?_
      clear hK K
      repeat
        refine seq_pure (v := ?_) rfl (by rfl) (fun W hW => ?_) ?_
        rotate_left
        · clear hW
          go_simp
          with_reducible rfl
        simp only [Act.put, List.setIfInBounds_toArray, List.set_cons_zero, List.set_cons_succ]
      refine seq_done ?_
      have L3 := Lib.hid (LW.out.trans (SB.out.mono LW.out.size))
      have y0 : v3.cell? ⟨w.heap.size + 1, 0, none⟩ = some (.int .u64 (a.w.bw : Int)) := (QW.out.below SB.out).cell 0
      by_cases hlt : fq + ow < 18446744073709551616
      · rw [decide_eq_true hlt, show aS (fq + ow) = fq + ow from if_pos hlt]
        have HLT := Lib.hid hlt
        clear hlt
        by_cases hbw : a.w.bw ≤ fq + ow
        · have hv : R = true := by rw [HV.out, ← HRR.out, decide_eq_true hbw, Bool.or_true]
          have HV2 := Lib.hid hv
          generalize fq + ow = s at *
          generalize a.w.bw = bw at *
          have q1 : (bw : Int) ≤ (s : Int) := by omega
          clear HK HOW hbw hv HRR HV
          go_wp2_with fail
          go_ret
          exact ⟨by rw [HV2.out]; rfl, L3.out⟩
        · have hv : R = false := by rw [HV.out, ← HRR.out, decide_eq_true HLT.out, decide_eq_false hbw]; rfl
          have HV2 := Lib.hid hv
          generalize fq + ow = s at *
          generalize a.w.bw = bw at *
          have q1 : ¬ (bw : Int) ≤ (s : Int) := by omega
          clear HK HOW hbw hv HRR HV
          go_wp2_with fail
          go_ret
          exact ⟨by rw [HV2.out]; rfl, L3.out⟩
      · have hv : R = true := by rw [HV.out, ← HRR.out, decide_eq_false hlt]; rfl
        have HV2 := Lib.hid hv
        rw [decide_eq_false hlt]
        clear HK HOW hlt hv HRR HV
        go_wp2_with fail
        go_ret
        exact ⟨by rw [HV2.out]; rfl, L3.out⟩
end Go.Proofs.Ytjflbfianncpfaa

namespace Go.Proofs.Ytjflbfianncpfaa
set_option maxRecDepth 100000
set_option linter.unusedVariables false
open Go.RowKit

set_option maxHeartbeats 3200000 in
theorem rlinks16_calls (a : Ak) (ha : AkOk a) (p : Pl) (b : Option Addr) (n c : Nat) (l : List Ad) (hx : ∀ x ∈ l, AdOk x) (w : World) (h : AkIn w w.heap.size a p) (hr : Row adc w w.heap.size b n l) (hn : n ≤ 1073741824) :
    Calls Try.prog 16 #[.slice b n c, .agg (akc a.w p).toArray] w (Lks16 (lks16 l a) w) := by
  have HQ := Lib.hid (Blk.new w 33 (akc a.w p))
  have hl := bel_new (Below.refl w.heap.size w) (.cells (akc a.w p).toArray 33)
  have HIA := Lib.hid (show (Try.prog.info? 33).map (·.size) = some (akc a.w p).length from infoAkR)
  have HL := Lib.hid hl
  have HIN := Lib.hid (h.below hl)
  have HR := Lib.hid hr
  have HN := Lib.hid (And.intro hr.1 hn)
  have HX := Lib.hid (fun (x : Ad) (h : x ∈ l) W hW => rfits16_calls a ha p x (hx x h) W hW)
  unfold Yes15 at HX
  unfold Lks16
  clear hl h hr ha hx
  go_enter Try.func16, Try.ntmps16
  go_upto_region 1 with fail
  generalize (w.alloc (.cells (akc a.w p).toArray 33)) = w1 at *
  go_wp2_with fail
  go_loopw [5, 6] (fun s u W => ∃ (i c1 : Nat) (A : Option Addr), i ≤ n ∧ s = .slice A (lks16 (l.take i) a).length c1 ∧ u = .int .i64 (i : Int) ∧ AccL16 W w1.heap.size A c1 (lks16 (l.take i) a) ∧ Below w1.heap.size w1 W) (fun s u W => n - (intOf u).toNat)
  case atStart => exact ⟨0, 0, none, Nat.zero_le _, rfl, rfl, AccR.nil _ _ _, Below.refl _ _⟩
  case round =>
    obtain ⟨i, c1, A, hi, rfl, rfl, hac, hbl⟩ := hrel
    obtain ⟨M, hM⟩ : ∃ M, lks16 (l.take i) a = M := ⟨_, rfl⟩
    rw [hM] at hac ⊢
    have HM := Lib.hid hM
    have HAC := Lib.hid hac
    have HBL := Lib.hid hbl
    have hml : M.length ≤ 1099511627776 := by
      rw [← hM]
      have h1 := lks16_length (l.take i) a
      have h2 : (l.take i).length ≤ i := by rw [List.length_take]; omega
      have := HN.out.2
      omega
    have HML := Lib.hid hml
    obtain ⟨N, hN⟩ : ∃ N, M.length = N := ⟨_, rfl⟩
    rw [hN]
    have HNM := Lib.hid hN
    clear hac hbl hM hml hN
    by_cases hin : i < n
    · have i1 : (i : Int) < (n : Int) := by omega
      obtain ⟨bb, o, x, rfl, hx, hbb, hc⟩ := range15 HR.out hin
      have HXX := Lib.hid hx
      have HII := Lib.hid hin
      have hl0 : Below w.heap.size w wr := HL.out.trans (HBL.out.mono HL.out.size)
      have HC := Lib.hid (fun W (hW : Below wr.heap.size wr W) => hc W (hl0.trans (hW.mono hl0.size)))
      have HIX := Lib.hid (show (Try.prog.info? 76).map (·.size) = some (adc x).length from infoAdR16)
      have hsn := lks16_snoc hx a
      rw [HM.out] at hsn
      have HSN := Lib.hid hsn
      have HF := Lib.hid (HX.out x (List.mem_of_getElem? hx))
      have QW := Lib.hid (HQ.out.below HBL.out)
      obtain ⟨d, hd⟩ : ∃ d, fit16 a x = d := ⟨_, rfl⟩
      have hf1 := fun W (hW : Below wr.heap.size wr W) => HF.out W (HIN.out.below (HBL.out.trans (hW.mono HBL.out.size)))
      rw [hd] at HSN hf1
      have HF1 := Lib.hid hf1
      have S0 : Below wr.heap.size wr wr.drew := (Below.refl _ _).drew
      clear hx hbb hc hl0 hin hi hsn hf1 hd HF
      go_wp2_with fail
      refine region_seq (fun W => Below wr.heap.size wr W) [(0, true), (1, true), (2, true), (3, true), (4, true), (5, false)] (by kernel_rfl) (by kernel_rfl) (by kernel_rfl) (by kernel_rfl) (fun _ _ _ _ _ h => h) S0 ?_
      repeat first
        | refine seq_load_at15 (x := .tmp 15) rfl (by rfl) rfl rfl HC.out Try.underlying76 rfl HIX.out ?_
          simp only [Act.put, List.setIfInBounds_toArray, List.set_cons_zero, List.set_cons_succ]
        | refine seq_load8 (x := .tmp 3) rfl (by rfl) rfl rfl (fun W hW => QW.out.below hW) Try.underlying33 rfl HIA.out ?_
          simp only [Act.put, List.setIfInBounds_toArray, List.set_cons_zero, List.set_cons_succ]
        | refine seq_pure (v := ?_) rfl (by rfl) (fun W hW => ?_) ?_
          rotate_left
          · clear hW
            go_simp
            with_reducible rfl
          simp only [Act.put, List.setIfInBounds_toArray, List.set_cons_zero, List.set_cons_succ]
      refine seq_make rfl (by rfl) (fun K hK => ?_)
      go_simp
      ((with_reducible refine (HF1.out wr.drew S0).mono ?_))
      rintro e v2 ⟨rfl, hb⟩
      have SB := Lib.hid (show Below wr.heap.size wr v2 from below_of_drew hb)
      clear hb
      go_simp
      refine hK _ v2 (fun W => Below wr.heap.size wr W) (fun W h => h) SB.out ?_
      clear hK K
      refine seq_done ?_
      have L2 := Lib.hid (show Below w1.heap.size w1 v2 from HBL.out.trans (SB.out.mono HBL.out.size))
      have A2 := Lib.hid (show AccL16 v2 w1.heap.size A c1 M from AccR.bel HAC.out SB.out)
      have hr2 := HC.out v2 SB.out
      have HR2 := Lib.hid hr2
      clear HBL HAC SB HC hr2 S0 QW HF1
      cases d with
      | false =>
        have hsn := HSN.out
        rw [if_neg (by decide), List.append_nil] at hsn
        have HS2 := Lib.hid hsn
        clear HSN hsn
        go_wp2_with fail
        go_roundw
        case rel => exact ⟨i + 1, c1, A, HII.out, by rw [HS2.out, HNM.out], by first | rfl | (simp; omega), by rw [HS2.out]; exact A2.out, L2.out⟩
        case measure => have := HII.out; simp [intOf]; omega
      | true =>
        have hsn := HSN.out
        rw [if_pos rfl] at hsn
        obtain ⟨⟨f, t, cp, m, g⟩, q, up, fr⟩ := x
        have HS2 := Lib.hid hsn
        have x0 : v2.cell? ⟨bb, o + i * 15, none⟩ = some (.int .i64 f) := HR2.out 0 _ rfl
        have x1 : v2.cell? ⟨bb, o + i * 15 + 1, none⟩ = some (.int .i64 t) := HR2.out 1 _ rfl
        have x2 : v2.cell? ⟨bb, o + i * 15 + 2, none⟩ = some (.int .u64 cp) := HR2.out 2 _ rfl
        have x3 : v2.cell? ⟨bb, o + i * 15 + 3, none⟩ = some (.int .i64 m) := HR2.out 3 _ rfl
        have x4 : v2.cell? ⟨bb, o + i * 15 + 4, none⟩ = some (.int .u32 g) := HR2.out 4 _ rfl
        have i4 : (i : Int) < (n : Int) := by have := HII.out; omega
        obtain ⟨A3, c3, w3, r3, a3, g3⟩ := accl16_push A2.out f t cp m g L2.out.size HML.out
        have L3 := Lib.hid (show Below w1.heap.size w1 w3 from belr_acc L2.out A2.out g3)
        rw [HNM.out] at r3
        have A3' := Lib.hid a3
        have R3 := Lib.hid r3
        clear HSN hsn r3 a3 g3
        go_wp2_with (at_builtin; refine step_append (o := ⟨some 26, _, _, _, _, _⟩) rfl rfl rfl rfl R3.out ?_)
        go_roundw
        case rel => exact ⟨i + 1, c3, A3, HII.out, by rw [HS2.out, List.length_append, HNM.out]; rfl, by first | rfl | (simp; omega), by rw [HS2.out]; exact A3'.out, L3.out⟩
        case measure => have := HII.out; simp [intOf]; omega
    · obtain rfl : i = n := by omega
      have i1 : ¬ (i : Int) < (i : Int) := by omega
      have hv : lks16 l a = M := by rw [← HM.out, List.take_of_length_le (by rw [HN.out.1]; exact Nat.le_refl _)]
      have HV := Lib.hid hv
      clear hin hi hv
      go_wp2_with fail
      go_ret
      exact ⟨A, c1, by rw [HV.out, HNM.out]; rfl, by rw [HV.out]; exact AccR.lower HAC.out HL.out.size, HL.out.trans (HBL.out.mono HL.out.size)⟩

/-- Two links are compared. -/
theorem lkc_inj {x y : Lk} (h : lkc x = lkc y) : x = y := by
  obtain ⟨a, b, c, d, e⟩ := x
  obtain ⟨a', b', c', d', e'⟩ := y
  simp only [lkc, List.cons.injEq, Value.int.injEq, true_and, and_true] at h
  obtain ⟨rfl, rfl, rfl, rfl, rfl⟩ := h
  rfl
theorem eq_lk16 (x y : Lk) (w : World) : (binOp .eql 53 (.agg (lkc x).toArray) (.agg (lkc y).toArray)).run Try.prog w = .ok (.bool (decide (x = y))) w ∧
    (binOp .neq 53 (.agg (lkc x).toArray) (.agg (lkc y).toArray)).run Try.prog w = .ok (.bool (!decide (x = y))) w :=
  eql_E (xs := lkc x) (ys := lkc y) (la := lkc x) (lb := lkc y) (m := 5) (D := 5) (by decide) (by kernel_rfl) (by rfl) (by rfl) (by rfl) (by rfl) w (decide (x = y)) (by
    rw [decide_eq_true_eq]
    exact ⟨fun h => by rw [h], fun h => lkc_inj h⟩)
/-- Small enough? -/
def sml16 (n : Nat) (p : Pl) : Bool := decide (n ≤ 100) && (decide (p.n1 ≤ 100) && (decide (p.n2 ≤ 100) && decide (p.n3 ≤ 100)))
theorem small16_calls (b : Option Addr) (n c : Nat) (x : Wn) (p : Pl) (w : World) : Calls Try.prog 10 #[.slice b n c, .agg (akc x p).toArray] w (Yes15 (sml16 n p) w) := by
  have HQ := Lib.hid (Blk.new w 33 (akc x p))
  have HL := Lib.hid (bel_new (Below.refl w.heap.size w) (.cells (akc x p).toArray 33))
  obtain ⟨A1, n1, c1, A2, n2, c2, A3, n3, c3, ho⟩ := p
  unfold Yes15 sml16
  simp only
  by_cases h0 : n ≤ 100
  case neg =>
    have h0' : ¬ (n : Int) ≤ 100 := by omega
    rw [decide_eq_false h0, Bool.false_and]
    clear h0
    go_enter Try.func10, Try.ntmps10
    go_upto_region 1 with fail
    generalize (w.alloc _) = w1 at *
    go_wp2_with fail
    go_ret
    exact ⟨rfl, HL.out⟩
  have h0' : (n : Int) ≤ 100 := by omega
  rw [decide_eq_true h0, Bool.true_and]
  by_cases h1 : n1 ≤ 100
  case neg =>
    have h1' : ¬ (n1 : Int) ≤ 100 := by omega
    rw [decide_eq_false h1, Bool.false_and]
    clear h0 h1
    go_enter Try.func10, Try.ntmps10
    go_upto_region 1 with fail
    generalize (w.alloc _) = w1 at *
    have x6 : w1.cell? ⟨w.heap.size, 6, none⟩ = some (.slice A1 n1 c1) := HQ.out.cell 6
    go_wp2_with fail
    go_ret
    exact ⟨rfl, HL.out⟩
  have h1' : (n1 : Int) ≤ 100 := by omega
  rw [decide_eq_true h1, Bool.true_and]
  by_cases h2 : n2 ≤ 100
  case neg =>
    have h2' : ¬ (n2 : Int) ≤ 100 := by omega
    rw [decide_eq_false h2, Bool.false_and]
    clear h0 h1 h2
    go_enter Try.func10, Try.ntmps10
    go_upto_region 1 with fail
    generalize (w.alloc _) = w1 at *
    have x6 : w1.cell? ⟨w.heap.size, 6, none⟩ = some (.slice A1 n1 c1) := HQ.out.cell 6
    have x7 : w1.cell? ⟨w.heap.size, 7, none⟩ = some (.slice A2 n2 c2) := HQ.out.cell 7
    go_wp2_with fail
    go_ret
    exact ⟨rfl, HL.out⟩
  have h2' : (n2 : Int) ≤ 100 := by omega
  rw [decide_eq_true h2, Bool.true_and]
  by_cases h3 : n3 ≤ 100
  · have h3' : (n3 : Int) ≤ 100 := by omega
    rw [decide_eq_true h3]
    clear h0 h1 h2 h3
    go_enter Try.func10, Try.ntmps10
    go_upto_region 1 with fail
    generalize (w.alloc _) = w1 at *
    have x6 : w1.cell? ⟨w.heap.size, 6, none⟩ = some (.slice A1 n1 c1) := HQ.out.cell 6
    have x7 : w1.cell? ⟨w.heap.size, 7, none⟩ = some (.slice A2 n2 c2) := HQ.out.cell 7
    have x8 : w1.cell? ⟨w.heap.size, 8, none⟩ = some (.slice A3 n3 c3) := HQ.out.cell 8
    go_wp2_with fail
    go_ret
    exact ⟨rfl, HL.out⟩
  · have h3' : ¬ (n3 : Int) ≤ 100 := by omega
    rw [decide_eq_false h3]
    clear h0 h1 h2 h3
    go_enter Try.func10, Try.ntmps10
    go_upto_region 1 with fail
    generalize (w.alloc _) = w1 at *
    have x6 : w1.cell? ⟨w.heap.size, 6, none⟩ = some (.slice A1 n1 c1) := HQ.out.cell 6
    have x7 : w1.cell? ⟨w.heap.size, 7, none⟩ = some (.slice A2 n2 c2) := HQ.out.cell 7
    have x8 : w1.cell? ⟨w.heap.size, 8, none⟩ = some (.slice A3 n3 c3) := HQ.out.cell 8
    go_wp2_with fail
    go_ret
    exact ⟨rfl, HL.out⟩
end Go.Proofs.Ytjflbfianncpfaa

namespace Go.Proofs.Ytjflbfianncpfaa
set_option maxRecDepth 100000
set_option linter.unusedVariables false
open Go.RowKit

theorem infoOw16 : (Try.prog.info? 102).map (fun i => (i.zero, i.size, i.bytes)) = some (some (.agg #[.int .i64 0, .int .i64 0, .int .u64 0]), 3, 24) := by kernel_rfl
theorem accr_setBelow16 {α : Type} {enc : α → List Value} {k : Nat} {w : World} {base c : Nat} {T : TypeId} {A : Option Addr} {l : List α} (h : AccR enc k w base T A c l) {p : Addr} (hp : p.block < base) (u : Value) : AccR enc k (w.setCell p u) base T A c l := ownsRow_setCell_below h hp u
def AccO16 (w : World) (base : Nat) (A : Option Addr) (c : Nat) (l : List Ow) : Prop := AccR owc 3 w base 102 A c l
theorem acco16_push {w : World} {base c : Nat} {A : Option Addr} {l : List Ow} (h : AccO16 w base A c l) (f t : Int) (b : Nat) (hb : base ≤ w.heap.size) (hl : l.length ≤ 1099511627776) :
    ∃ A' c' w', (Builtin.append_ #[60, 60] 60 #[.slice A l.length c, .slice (some ⟨w.heap.size, 0, none⟩) 1 1]).run Try.prog (w.alloc (.cells #[.int .i64 f, .int .i64 t, .int .u64 (b : Int)] 102)) = .ok (.slice A' (l.length + 1) c') w' ∧
      AccO16 w' base A' c' (l ++ [⟨f, t, b⟩]) ∧ w.grownBy w' (blk A) :=
  accr_push owc_length owc_one (by omega) h ⟨f, t, b⟩ Try.underlying60 infoOw16 rfl hb (by omega) (by omega)
/-- The same question, with its Own in memory of its own. -/
def pl16 (p : Pl) (A : Option Addr) (i c : Nat) : Pl := ⟨p.a1, p.n1, p.c1, p.a2, p.n2, p.c2, A, i, c, p.h⟩
def Th16 (a : Ak) (p : Pl) (w : World) (e : Ending) (w' : World) : Prop := ∃ A c, e = .returned (.agg (akc a.w (pl16 p A p.n3 c)).toArray) ∧ AccO16 w' w.heap.size A c a.ow ∧ Below w.heap.size w w'
theorem Th16.akin {a : Ak} {p : Pl} {w w' : World} {A : Option Addr} {c : Nat} (h : AkIn w w.heap.size a p) (ha : AccO16 w' w.heap.size A c a.ow) (hb : Below w.heap.size w w') : AkIn w' w'.heap.size a (pl16 p A p.n3 c) := by
  have h2 := h.below hb
  refine ⟨h2.nn, h2.nl, ?_, h.b1, h.b2, h.b3⟩
  have := AccR.row ha
  rwa [h.ow.1] at this
theorem infoAkP16 (x : Wn) (p : Pl) : (Try.prog.info? 62).map (·.size) = some (akc x p).length := infoAkP
set_option maxHeartbeats 3200000 in
theorem theirs16_calls (a : Ak) (p : Pl) (w : World) (h : AkIn w w.heap.size a p) :
    Calls Try.prog 20 #[.agg (akc a.w p).toArray] w (Th16 a p w) := by
  obtain ⟨b0, b1, bl⟩ := alloc2 w (akc a.w p) #[.int .u64 0, .int .i64 0, .int .i64 0, .int .u32 0, .int .u32 0, .int .u32 0, .slice none 0 0, .slice none 0 0, .slice none 0 0, .int .i64 0].toList 33 62
  unfold Th16
  have HR := Lib.hid h.ow
  have HN := Lib.hid (And.intro h.ow.1 h.b3)
  have hn := h.b3
  have HB := Lib.hid b0
  have HZ := Lib.hid b1
  have HL := Lib.hid bl
  clear b0 b1 bl h
  obtain ⟨⟨bw, su, hd, an, al, no⟩, nn, nl, ow⟩ := a
  obtain ⟨A1, n1, c1, A2, n2, c2, A3, n, c3, ho⟩ := p
  unfold pl16
  simp only at HR HN hn ⊢
  go_enter Try.func20, Try.ntmps20
  go_upto_region 1 with fail
  have HS := Lib.hid (show ((w.alloc (.cells (akc ⟨bw, su, hd, an, al, no⟩ ⟨A1, n1, c1, A2, n2, c2, A3, n, c3, ho⟩).toArray 33)).alloc (.cells #[.int .u64 0, .int .i64 0, .int .i64 0, .int .u32 0, .int .u32 0, .int .u32 0, .slice none 0 0, .slice none 0 0, .slice none 0 0, .int .i64 0] 62)).heap.size = w.heap.size + 2 by simp)
  generalize ((w.alloc (.cells _ 33)).alloc _) = w1 at *
  have x0 : w1.cell? ⟨w.heap.size, 0, none⟩ = some (.int .u64 (bw : Int)) := HB.out.cell 0
  have x1 : w1.cell? ⟨w.heap.size, 1, none⟩ = some (.int .i64 su) := HB.out.cell 1
  have x2 : w1.cell? ⟨w.heap.size, 2, none⟩ = some (.int .i64 hd) := HB.out.cell 2
  have x3 : w1.cell? ⟨w.heap.size, 3, none⟩ = some (.int .u32 (an : Int)) := HB.out.cell 3
  have x4 : w1.cell? ⟨w.heap.size, 4, none⟩ = some (.int .u32 (al : Int)) := HB.out.cell 4
  have x5 : w1.cell? ⟨w.heap.size, 5, none⟩ = some (.int .u32 (no : Int)) := HB.out.cell 5
  have x6 : w1.cell? ⟨w.heap.size, 6, none⟩ = some (.slice A1 n1 c1) := HB.out.cell 6
  have x7 : w1.cell? ⟨w.heap.size, 7, none⟩ = some (.slice A2 n2 c2) := HB.out.cell 7
  have x9 : w1.cell? ⟨w.heap.size, 9, none⟩ = some (.int .i64 ho) := HB.out.cell 9
  go_upto_region 2 with fail
  clear x0 x1 x2 x3 x4 x5 x6 x7 x9
  have hb2 := bel_new (Below.refl w1.heap.size w1) (.cells #[.int .u64 (bw : Int), .int .i64 su, .int .i64 hd, .int .u32 (an : Int), .int .u32 (al : Int), .int .u32 (no : Int), .slice A1 n1 c1, .slice A2 n2 c2, .slice none 0 0, .int .i64 ho] 62)
  have KX := Lib.hid (show Blk (w1.alloc (.cells #[.int .u64 (bw : Int), .int .i64 su, .int .i64 hd, .int .u32 (an : Int), .int .u32 (al : Int), .int .u32 (no : Int), .slice A1 n1 c1, .slice A2 n2 c2, .slice none 0 0, .int .i64 ho] 62)) w1.heap.size 62 (akc ⟨bw, su, hd, an, al, no⟩ ⟨A1, n1, c1, A2, n2, c2, none, 0, 0, ho⟩) from Blk.new w1 _ (akc ⟨bw, su, hd, an, al, no⟩ ⟨A1, n1, c1, A2, n2, c2, none, 0, 0, ho⟩))
  have L2 := Lib.hid (HL.out.trans (hb2.mono HL.out.size))
  have B2 := Lib.hid (HB.out.below hb2)
  have Z2 := Lib.hid (HZ.out.below hb2)
  have S2 := Lib.hid (show w.heap.size ≤ w1.heap.size ∧ w.heap.size + 1 < w1.heap.size from by have := HS.out; omega)
  clear hb2 HB HZ HL HS
  generalize w1.alloc _ = w2 at *
  generalize w1.heap.size = qk at *
  clear w1
  have x8 : w2.cell? ⟨w.heap.size, 8, none⟩ = some (.slice A3 n c3) := B2.out.cell 8
  go_wp2_with fail
  clear x8
  go_loopw [18] (fun u W => ∃ (i c1' : Nat) (A : Option Addr), i ≤ n ∧ u = .int .i64 (i : Int) ∧ Blk W qk 62 (akc ⟨bw, su, hd, an, al, no⟩ ⟨A1, n1, c1, A2, n2, c2, A, i, c1', ho⟩) ∧ AccO16 W (qk + 1) A c1' (ow.take i) ∧ Blk W (w.heap.size + 1) 62 #[.int .u64 0, .int .i64 0, .int .i64 0, .int .u32 0, .int .u32 0, .int .u32 0, .slice none 0 0, .slice none 0 0, .slice none 0 0, .int .i64 0].toList ∧ Below w.heap.size w W) (fun u W => n - (intOf u).toNat)
  case atStart => exact ⟨0, 0, none, Nat.zero_le _, rfl, KX.out, AccR.nil _ _ _, Z2.out, L2.out⟩
  case round =>
    clear KX L2 B2 Z2
    obtain ⟨i, cc, A, hi, rfl, hk, hac, hz, hbl⟩ := hrel
    have HK := Lib.hid hk
    have HAC := Lib.hid hac
    have HZ := Lib.hid hz
    have HBL := Lib.hid hbl
    clear hk hac hz hbl
    by_cases hin : i < n
    · have i1 : (i : Int) < (n : Int) := by omega
      obtain ⟨b, o, x, rfl, hx, hbb, hc⟩ := cells15 owc_length HR.out hin
      obtain ⟨xf, xt, xb⟩ := x
      have HII := Lib.hid hin
      have HX := Lib.hid hx
      have z0 : wr.cell? ⟨b, o + i * 3, none⟩ = some (.int .i64 xf) := hc wr HBL.out 0 _ rfl
      have z1 : wr.cell? ⟨b, o + i * 3 + 1, none⟩ = some (.int .i64 xt) := hc wr HBL.out 1 _ rfl
      have z2 : wr.cell? ⟨b, o + i * 3 + 2, none⟩ = some (.int .u64 (xb : Int)) := hc wr HBL.out 2 _ rfl
      clear hx hbb hc hin hi
      go_upto_region 5 with fail
      clear z0 z1 z2
      have hb5 := bel_new (Below.refl wr.heap.size wr) (.cells #[.int .i64 xf, .int .i64 xt, .int .u64 (xb : Int)] 101)
      have H5 := Lib.hid (Blk.new wr 101 [.int .i64 xf, .int .i64 xt, .int .u64 (xb : Int)])
      have L5 := Lib.hid (HBL.out.trans (hb5.mono HBL.out.size))
      have A5 := Lib.hid (show AccO16 (wr.alloc (.cells #[.int .i64 xf, .int .i64 xt, .int .u64 (xb : Int)] 101)) (qk + 1) A cc (ow.take i) from AccR.bel HAC.out hb5)
      have K5 := Lib.hid (HK.out.below hb5)
      have Z5 := Lib.hid (HZ.out.below hb5)
      clear hb5 HBL HAC HK HZ
      generalize wr.alloc _ = w5 at *
      generalize wr.heap.size = qo at *
      have y0 : w5.cell? ⟨qo, 0, none⟩ = some (.int .i64 xf) := H5.out.cell 0
      have y1 : w5.cell? ⟨qo, 1, none⟩ = some (.int .i64 xt) := H5.out.cell 1
      have y2 : w5.cell? ⟨qo, 2, none⟩ = some (.int .u64 (xb : Int)) := H5.out.cell 2
      have k8 : w5.cell? ⟨qk, 8, none⟩ = some (.slice A i cc) := K5.out.cell 8
      have hlen : (ow.take i).length = i := by rw [List.length_take]; have := HN.out.1; have := HII.out; omega
      obtain ⟨A8, c8, w8, r8, a8, g8⟩ := acco16_push A5.out xf xt xb (show qk + 1 ≤ w5.heap.size from K5.out.lt) (by rw [hlen]; have := HN.out.2; have := HII.out; omega)
      rw [hlen] at r8
      rw [← take_snoc15 HX.out] at a8
      have W8 := Lib.hid (show Below w.heap.size w w8 from L5.out.grown g8 L5.out.size (fun x hx => by have := (AccR.ge A5.out hx).1; have := S2.out; omega))
      have K8 := Lib.hid (show Blk w8 qk 62 (akc ⟨bw, su, hd, an, al, no⟩ ⟨A1, n1, c1, A2, n2, c2, A, i, cc, ho⟩) from K5.out.same (g8.block _ K5.out.lt (fun e => by have := (AccR.ge A5.out e.symm).1; omega)))
      have Z8 := Lib.hid (show Blk w8 (w.heap.size + 1) 62 #[.int .u64 0, .int .i64 0, .int .i64 0, .int .u32 0, .int .u32 0, .int .u32 0, .slice none 0 0, .slice none 0 0, .slice none 0 0, .int .i64 0].toList from Z5.out.same (g8.block _ Z5.out.lt (fun e => by have := (AccR.ge A5.out e.symm).1; have := S2.out; omega)))
      have R8 := Lib.hid r8
      have A8' := Lib.hid a8
      clear r8 a8 g8 hlen L5 A5 K5 Z5 H5
      have k8' : w8.cell? ⟨qk, 8, none⟩ = some (.slice A i cc) := K8.out.cell 8
      have f8 : w8.frozen? ⟨qk, 8, none⟩ = false := K8.out.free 8
      go_wp2_with (at_builtin; refine step_append (o := ⟨some 32, _, _, _, _, _⟩) rfl rfl rfl rfl R8.out ?_)
      clear k8' f8
      go_roundw
      case rel => exact ⟨i + 1, c8, A8, HII.out, by first | rfl | (simp; omega), K8.out.set 8 _, accr_setBelow16 A8'.out (p := ⟨qk, 8, none⟩) (Nat.lt_succ_self _) _, Z8.out.other (p := ⟨qk, 8, none⟩) (by have := S2.out; simp only; omega) _, W8.out.setCell (p := ⟨qk, 8, none⟩) S2.out.1 _⟩
      case measure => have := HII.out; simp [intOf]; omega
    · obtain rfl : i = n := by omega
      have i1 : ¬ (i : Int) < (i : Int) := by omega
      have hfull : ow.take i = ow := List.take_of_length_le (by rw [HN.out.1]; exact Nat.le_refl _)
      have hac := HAC.out
      rw [hfull] at hac
      have HA2 := Lib.hid (show AccO16 wr (qk + 1) A cc ow from hac)
      have HI1 := Lib.hid (infoAkP16 ⟨bw, su, hd, an, al, no⟩ ⟨A1, n1, c1, A2, n2, c2, A, i, cc, ho⟩)
      clear hin hi hfull hac HAC
      go_wp2_with (first | refine step_load (o := ⟨some 35, _, _, _, _, _⟩) rfl rfl rfl HK.out Try.underlying62 rfl HI1.out ?_ | ((with_reducible refine step_store (o := ⟨none, _, _, _, _, _⟩) (vs := akc ⟨bw, su, hd, an, al, no⟩ ⟨A1, n1, c1, A2, n2, c2, A, i, cc, ho⟩) (ty := 62) (x := .tmp 2) (y := .tmp 35) ?_ ?_ ?_ ?_ HZ.out HI1.out rfl (akc_one _ _) ?_); (rfl); (rfl); (rfl); (rfl); intro w9 hb9 hg9 hs9))
      refine bodyPost_ret (results_one8 rfl _ rfl hb9 Try.underlying62 rfl HI1.out) rfl ?_
      refine ⟨A, cc, rfl, ?_, bel_upd HBL.out hg9 (Nat.le_refl _) (by omega)⟩
      refine AccR.lower (AccR.kept HA2.out hg9 (fun x hx e => ?_)) (show w.heap.size ≤ qk + 1 from by have := S2.out; omega)
      have := (AccR.ge HA2.out hx).1
      have := S2.out
      injection e with e
      omega
end Go.Proofs.Ytjflbfianncpfaa
