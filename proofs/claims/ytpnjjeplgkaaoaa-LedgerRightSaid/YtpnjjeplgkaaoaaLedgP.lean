/-
  The document's answers of layer 13 (viaductref13): Put, Take. Condition: numbers of 64 bits, eight priorities.
-/
import Derived.Test.YtpnjjeplgkaaoaaLedgR
namespace Go.Proofs.Ytpnjjeplgkaaoaa
set_option maxRecDepth 100000
set_option linter.unusedVariables false
open Go.RowKit

/-- A ledger and a number. -/
def Lgn13 (r : Lg × Int) (w : World) (e : Ending) (w' : World) : Prop := e = .returned (.tuple #[.agg (lgc r.1).toArray, .int .i64 r.2]) ∧ Below w.heap.size w w'
/-- The cells of nothing. -/
def z9 : List Value := [.int .u64 0, .int .u64 0, .int .u64 0, .int .u64 0, .int .u64 0, .int .u64 0, .int .u64 0, .int .u64 0, .int .u64 0]
theorem lgc_lz : lgc lz = z9 := rfl
theorem z9_one : ∀ u ∈ z9, u.oneCell' = true := by rw [← lgc_lz]; exact lgc_one lz

theorem rput13_calls (l : Lg) (hl : LgOk l) (p : Int) (b : Nat) (hb : b < 18446744073709551616) (w : World) : Calls Try.prog 21 #[.agg (lgc l).toArray, .int .i64 p, .int .u64 (b : Int)] w (Lgn13 (lPut l p b) w) := by
  obtain ⟨b0, b1, bl⟩ := alloc2 w (lgc l) z9 25 25
  unfold z9 at b0 b1 bl
  have HN := Lib.hid (show (Try.prog.info? 25).map (·.size) = some (lgc l).length by rw [lgc_length hl]; exact infoLedgR)
  have hz : (Try.prog.info? 25).map (·.size) = some z9.length := infoLedgR
  have HZ := Lib.hid hz
  have HB := Lib.hid b0
  have HR := Lib.hid b1
  have HL := Lib.hid bl
  clear b0 b1 bl hz
  unfold Lgn13
  by_cases hp : p < 0
  · have hv : lPut l p b = (lz, 2) := by unfold lPut; rw [if_neg (fun h => by omega)]
    rw [hv]
    clear hv
    go_enter Try.func21, Try.ntmps21
    go_upto_region 1 with fail
    generalize ((w.alloc (.cells (lgc l).toArray 25)).alloc _) = w1 at *
    go_wp2_with ((with_reducible refine step_store (o := ⟨none, _, _, _, _, _⟩) (vs := z9) (ty := 25) (x := .tmp 6) (y := .tmp 21) ?_ ?_ ?_ ?_ HR.out HZ.out rfl z9_one ?_); (rfl); (rfl); (rfl); (rfl); intro w3 hb3 hg3 hs3)
    refine bodyPost_ret (v := .tuple #[.agg z9.toArray, .int .i64 2]) (results_two8 rfl _ rfl hb3 Try.underlying25 rfl HZ.out rfl) rfl ?_
    exact ⟨rfl, bel_upd HL.out hg3 (Nat.le_refl _) (by omega)⟩
  by_cases h7 : 7 < p
  · have hv : lPut l p b = (lz, 2) := by unfold lPut; rw [if_neg (fun h => by omega)]
    rw [hv]
    clear hv
    go_enter Try.func21, Try.ntmps21
    go_upto_region 1 with fail
    generalize ((w.alloc (.cells (lgc l).toArray 25)).alloc _) = w1 at *
    go_wp2_with ((with_reducible refine step_store (o := ⟨none, _, _, _, _, _⟩) (vs := z9) (ty := 25) (x := .tmp 6) (y := .tmp 21) ?_ ?_ ?_ ?_ HR.out HZ.out rfl z9_one ?_); (rfl); (rfl); (rfl); (rfl); intro w3 hb3 hg3 hs3)
    refine bodyPost_ret (v := .tuple #[.agg z9.toArray, .int .i64 2]) (results_two8 rfl _ rfl hb3 Try.underlying25 rfl HZ.out rfl) rfl ?_
    exact ⟨rfl, bel_upd HL.out hg3 (Nat.le_refl _) (by omega)⟩
  have hk := rright13_calls l hl
  by_cases hr : lRight l = true
  · rw [hr] at hk
    have HK := Lib.hid hk
    clear hk
    have p0 : 0 ≤ p := by omega
    obtain ⟨P, rfl⟩ := Int.eq_ofNat_of_zero_le p0
    have P8 : P < 8 := by omega
    have i1 : ¬ (P : Int) < 0 := by omega
    have i2 : ¬ (7 : Int) < (P : Int) := by omega
    have i3 : (P : Int) < 8 := by omega
    have hrs : l.held.sum ≤ l.cap := of_decide_eq_true hr
    have hcap := hl.2.1
    have hgl := getD_lt_ok hl P
    have hle := getD_le_sum l.held P
    have hcell := lgc_held hl P8
    have hss := fun v => sum_set (h := l.held) (p := P) (by rw [hl.1]; exact P8) v
    have hset := fun v => lgc_set l P v
    have hmok := fun v hv => set_ok hl P v hv
    have hlen := lgc_length hl
    have ha := fun H hH => radd13_calls H b hH hb
    obtain ⟨H, hH⟩ : ∃ H, l.held.getD P 0 = H := ⟨_, rfl⟩
    rw [hH] at hgl hle hss hcell
    have ha := ha H hgl
    unfold aS at ha
    by_cases hok : H + b < 18446744073709551616
    · rw [if_pos hok, decide_eq_true hok] at ha
      obtain ⟨N, hN⟩ : ∃ N, H + b = N := ⟨_, rfl⟩
      obtain ⟨m, hm⟩ : ∃ m : Lg, ⟨l.cap, l.held.set P N⟩ = m := ⟨_, rfl⟩
      have s1 := hss N
      have s2 := hset N
      have s3 := hmok N (by omega)
      have e1 : m.held.sum + H = l.held.sum + N := by rw [← hm]; exact s1
      have e2 : m.cap = l.cap := by rw [← hm]
      rw [hm] at s2 s3
      have HMN := Lib.hid (show (Try.prog.info? 25).map (·.size) = some (lgc m).length by rw [lgc_length s3]; exact infoLedgR)
      have HM1 := Lib.hid (lgc_one m)
      have HMZ := Lib.hid (show z9.length = (lgc m).length by rw [lgc_length s3]; rfl)
      rw [hN] at ha
      have hkm := rright13_calls m s3
      by_cases hfit : l.held.sum + b ≤ l.cap
      · have hv : lPut l (P : Int) b = (m, 0) := by
          have h9 : l.held.getD ((P : Int).toNat) 0 = H := hH
          unfold lPut; rw [if_pos ⟨⟨by omega, by omega⟩, hr⟩, if_pos hfit]; rw [h9, hN, ← hm]; rfl
        have hrm : lRight m = true := decide_eq_true (by omega)
        rw [hrm] at hkm
        rw [hv]
        have HC := Lib.hid hcell
        have HS := Lib.hid s2
        clear hcell s2
        have HA := Lib.hid ha
        have HKM := Lib.hid hkm
        clear ha hkm hv hrm hok hfit hss hset  hmok hlen s1 s3 e1 e2 hm hN hgl hle hH hrs hcap hr h7 hp hb p0
        go_enter Try.func21, Try.ntmps21
        go_upto_region 1 with fail
        generalize ((w.alloc (.cells (lgc l).toArray 25)).alloc _) = w1 at *
        go_wp2_with ((with_reducible refine step_load_want (o := ⟨some 17, _, _, _, _, _⟩) (x := .tmp 3) ?_ ?_ ?_ HB.out Try.underlying25 ?_ HN.out ?_); (rfl); (rfl); (rfl); (rfl))
        ((with_reducible refine (HK.out w1).mono ?_))
        rintro e w2 ⟨rfl, hb2⟩
        have HB2 := Lib.hid (HB.out.below hb2)
        have HR2 := Lib.hid (HR.out.below hb2)
        have HL2 := Lib.hid (HL.out.trans (hb2.mono HL.out.size))
        clear hb2 HB HR HL
        have c1 : w2.cell? ⟨w.heap.size, 1 + P, none⟩ = some (.int .u64 (H : Int)) := (HB2.out.cell _).trans HC.out
        have f1 := HB2.out.free (1 + P)
        go_wp2_with fail
        ((with_reducible refine (HA.out w2).mono ?_))
        rintro e w3 ⟨rfl, rfl⟩
        go_upto_region 5 with fail
        have B3 := Lib.hid (show Blk (w3.setCell ⟨w.heap.size, 1 + P, none⟩ (.int .u64 (N : Int))) w.heap.size 25 (lgc m) by rw [HS.out]; exact HB2.out.set _ _)
        have R3 := Lib.hid (show Blk (w3.setCell ⟨w.heap.size, 1 + P, none⟩ (.int .u64 (N : Int))) (w.heap.size + 1) 25 z9 from HR2.out.other (p := ⟨w.heap.size, 1 + P, none⟩) (show ¬ w.heap.size = w.heap.size + 1 by omega) _)
        have L3 := Lib.hid (HL2.out.setCell (p := ⟨w.heap.size, 1 + P, none⟩) (show w.heap.size ≤ w.heap.size by omega) (.int .u64 (N : Int)))
        clear c1 f1 HB2 HR2 HL2
        generalize w3.setCell ⟨w.heap.size, 1 + P, none⟩ (.int .u64 (N : Int)) = w4 at *
        go_wp2_with ((with_reducible refine step_load_want (o := ⟨some 38, _, _, _, _, _⟩) (x := .tmp 3) ?_ ?_ ?_ B3.out Try.underlying25 ?_ HMN.out ?_); (rfl); (rfl); (rfl); (rfl))
        ((with_reducible refine (HKM.out w4).mono ?_))
        rintro e w5 ⟨rfl, hb5⟩
        have B5 := Lib.hid (B3.out.below hb5)
        have R5 := Lib.hid (R3.out.below hb5)
        have L5 := Lib.hid (L3.out.trans (hb5.mono L3.out.size))
        clear hb5 B3 R3 L3
        go_wp2_with (first | ((with_reducible refine step_load (o := ⟨some 43, _, _, _, _, _⟩) (x := .tmp 3) ?_ ?_ ?_ B5.out Try.underlying25 ?_ HMN.out ?_); (rfl); (rfl); (rfl); (rfl)) | ((with_reducible refine step_store (o := ⟨none, _, _, _, _, _⟩) (vs := lgc m) (ty := 25) (x := .tmp 6) (y := .tmp 43) ?_ ?_ ?_ ?_ R5.out HMN.out HMZ.out HM1.out ?_); (rfl); (rfl); (rfl); (rfl); intro w6 hb6 hg6 hs6))
        refine bodyPost_ret (v := .tuple #[.agg (lgc m).toArray, .int .i64 0]) (results_two8 rfl _ rfl hb6 Try.underlying25 rfl HMN.out rfl) rfl ?_
        exact ⟨rfl, bel_upd L5.out hg6 (Nat.le_refl _) (by omega)⟩
      · have hv : lPut l (P : Int) b = (lz, 14) := by
          have h9 : l.held.getD ((P : Int).toNat) 0 = H := hH
          unfold lPut; rw [if_pos ⟨⟨by omega, by omega⟩, hr⟩, if_neg hfit]
        have hrm : lRight m = false := decide_eq_false (by omega)
        rw [hrm] at hkm
        rw [hv]
        have HC := Lib.hid hcell
        have HS := Lib.hid s2
        clear hcell s2
        have HA := Lib.hid ha
        have HKM := Lib.hid hkm
        clear ha hkm hv hrm hok hfit hss hset  hmok hlen s1 s3 e1 e2 hm hN hgl hle hH hrs hcap hr h7 hp hb p0
        go_enter Try.func21, Try.ntmps21
        go_upto_region 1 with fail
        generalize ((w.alloc (.cells (lgc l).toArray 25)).alloc _) = w1 at *
        go_wp2_with ((with_reducible refine step_load_want (o := ⟨some 17, _, _, _, _, _⟩) (x := .tmp 3) ?_ ?_ ?_ HB.out Try.underlying25 ?_ HN.out ?_); (rfl); (rfl); (rfl); (rfl))
        ((with_reducible refine (HK.out w1).mono ?_))
        rintro e w2 ⟨rfl, hb2⟩
        have HB2 := Lib.hid (HB.out.below hb2)
        have HR2 := Lib.hid (HR.out.below hb2)
        have HL2 := Lib.hid (HL.out.trans (hb2.mono HL.out.size))
        clear hb2 HB HR HL
        have c1 : w2.cell? ⟨w.heap.size, 1 + P, none⟩ = some (.int .u64 (H : Int)) := (HB2.out.cell _).trans HC.out
        have f1 := HB2.out.free (1 + P)
        go_wp2_with fail
        ((with_reducible refine (HA.out w2).mono ?_))
        rintro e w3 ⟨rfl, rfl⟩
        go_upto_region 5 with fail
        have B3 := Lib.hid (show Blk (w3.setCell ⟨w.heap.size, 1 + P, none⟩ (.int .u64 (N : Int))) w.heap.size 25 (lgc m) by rw [HS.out]; exact HB2.out.set _ _)
        have R3 := Lib.hid (show Blk (w3.setCell ⟨w.heap.size, 1 + P, none⟩ (.int .u64 (N : Int))) (w.heap.size + 1) 25 z9 from HR2.out.other (p := ⟨w.heap.size, 1 + P, none⟩) (show ¬ w.heap.size = w.heap.size + 1 by omega) _)
        have L3 := Lib.hid (HL2.out.setCell (p := ⟨w.heap.size, 1 + P, none⟩) (show w.heap.size ≤ w.heap.size by omega) (.int .u64 (N : Int)))
        clear c1 f1 HB2 HR2 HL2
        generalize w3.setCell ⟨w.heap.size, 1 + P, none⟩ (.int .u64 (N : Int)) = w4 at *
        go_wp2_with ((with_reducible refine step_load_want (o := ⟨some 38, _, _, _, _, _⟩) (x := .tmp 3) ?_ ?_ ?_ B3.out Try.underlying25 ?_ HMN.out ?_); (rfl); (rfl); (rfl); (rfl))
        ((with_reducible refine (HKM.out w4).mono ?_))
        rintro e w5 ⟨rfl, hb5⟩
        have B5 := Lib.hid (B3.out.below hb5)
        have R5 := Lib.hid (R3.out.below hb5)
        have L5 := Lib.hid (L3.out.trans (hb5.mono L3.out.size))
        clear hb5 B3 R3 L3
        go_wp2_with ((with_reducible refine step_store (o := ⟨none, _, _, _, _, _⟩) (vs := z9) (ty := 25) (x := .tmp 6) (y := .tmp 42) ?_ ?_ ?_ ?_ R5.out HZ.out rfl z9_one ?_); (rfl); (rfl); (rfl); (rfl); intro w6 hb6 hg6 hs6)
        refine bodyPost_ret (v := .tuple #[.agg z9.toArray, .int .i64 14]) (results_two8 rfl _ rfl hb6 Try.underlying25 rfl HZ.out rfl) rfl ?_
        exact ⟨rfl, bel_upd L5.out hg6 (Nat.le_refl _) (by omega)⟩
    · rw [if_neg hok, decide_eq_false hok] at ha
      have hv : lPut l (P : Int) b = (lz, 14) := by unfold lPut; rw [if_pos ⟨⟨by omega, by omega⟩, hr⟩, if_neg (by omega)]
      rw [hv]
      have HC := Lib.hid hcell
      have HA := Lib.hid ha
      clear ha hcell hv hok hss hset hmok hlen hgl hle hH hrs hcap hr h7 hp hb p0
      go_enter Try.func21, Try.ntmps21
      go_upto_region 1 with fail
      generalize ((w.alloc (.cells (lgc l).toArray 25)).alloc _) = w1 at *
      go_wp2_with ((with_reducible refine step_load_want (o := ⟨some 17, _, _, _, _, _⟩) (x := .tmp 3) ?_ ?_ ?_ HB.out Try.underlying25 ?_ HN.out ?_); (rfl); (rfl); (rfl); (rfl))
      ((with_reducible refine (HK.out w1).mono ?_))
      rintro e w2 ⟨rfl, hb2⟩
      have HB2 := Lib.hid (HB.out.below hb2)
      have HR2 := Lib.hid (HR.out.below hb2)
      have HL2 := Lib.hid (HL.out.trans (hb2.mono HL.out.size))
      clear hb2 HB HR HL
      have c1 : w2.cell? ⟨w.heap.size, 1 + P, none⟩ = some (.int .u64 (H : Int)) := (HB2.out.cell _).trans HC.out
      have f1 := HB2.out.free (1 + P)
      go_wp2_with fail
      ((with_reducible refine (HA.out w2).mono ?_))
      rintro e w3 ⟨rfl, rfl⟩
      go_upto_region 5 with fail
      have R3 := Lib.hid (show Blk (w3.setCell ⟨w.heap.size, 1 + P, none⟩ (.int .u64 0)) (w.heap.size + 1) 25 z9 from HR2.out.other (p := ⟨w.heap.size, 1 + P, none⟩) (show ¬ w.heap.size = w.heap.size + 1 by omega) _)
      have L3 := Lib.hid (HL2.out.setCell (p := ⟨w.heap.size, 1 + P, none⟩) (show w.heap.size ≤ w.heap.size by omega) (.int .u64 0))
      clear c1 f1 HB2 HR2 HL2
      generalize w3.setCell ⟨w.heap.size, 1 + P, none⟩ (.int .u64 0) = w4 at *
      go_wp2_with ((with_reducible refine step_store (o := ⟨none, _, _, _, _, _⟩) (vs := z9) (ty := 25) (x := .tmp 6) (y := .tmp 42) ?_ ?_ ?_ ?_ R3.out HZ.out rfl z9_one ?_); (rfl); (rfl); (rfl); (rfl); intro w6 hb6 hg6 hs6)
      refine bodyPost_ret (v := .tuple #[.agg z9.toArray, .int .i64 14]) (results_two8 rfl _ rfl hb6 Try.underlying25 rfl HZ.out rfl) rfl ?_
      exact ⟨rfl, bel_upd L3.out hg6 (Nat.le_refl _) (by omega)⟩
  · have hr2 : lRight l = false := by simpa using hr
    rw [hr2] at hk
    have HK := Lib.hid hk
    clear hk
    have hv : lPut l p b = (lz, 2) := by unfold lPut; rw [if_neg (fun h => hr h.2)]
    rw [hv]
    clear hv hr hr2
    go_enter Try.func21, Try.ntmps21
    go_upto_region 1 with fail
    generalize ((w.alloc (.cells (lgc l).toArray 25)).alloc _) = w1 at *
    go_wp2_with ((with_reducible refine step_load_want (o := ⟨some 17, _, _, _, _, _⟩) (x := .tmp 3) ?_ ?_ ?_ HB.out Try.underlying25 ?_ HN.out ?_); (rfl); (rfl); (rfl); (rfl))
    ((with_reducible refine (HK.out w1).mono ?_))
    rintro e w2 ⟨rfl, hb2⟩
    have HR2 := Lib.hid (HR.out.below hb2)
    have HL2 := Lib.hid (HL.out.trans (hb2.mono HL.out.size))
    clear hb2
    go_wp2_with ((with_reducible refine step_store (o := ⟨none, _, _, _, _, _⟩) (vs := z9) (ty := 25) (x := .tmp 6) (y := .tmp 21) ?_ ?_ ?_ ?_ HR2.out HZ.out rfl z9_one ?_); (rfl); (rfl); (rfl); (rfl); intro w3 hb3 hg3 hs3)
    refine bodyPost_ret (v := .tuple #[.agg z9.toArray, .int .i64 2]) (results_two8 rfl _ rfl hb3 Try.underlying25 rfl HZ.out rfl) rfl ?_
    exact ⟨rfl, bel_upd HL2.out hg3 (Nat.le_refl _) (by omega)⟩
theorem rtake13_calls (l : Lg) (hl : LgOk l) (p : Int) (b : Nat) (hb : b < 18446744073709551616) (w : World) : Calls Try.prog 23 #[.agg (lgc l).toArray, .int .i64 p, .int .u64 (b : Int)] w (Lgn13 (lTake l p b) w) := by
  obtain ⟨b0, b1, bl⟩ := alloc2 w (lgc l) z9 25 25
  unfold z9 at b0 b1 bl
  have HN := Lib.hid (show (Try.prog.info? 25).map (·.size) = some (lgc l).length by rw [lgc_length hl]; exact infoLedgR)
  have hz : (Try.prog.info? 25).map (·.size) = some z9.length := infoLedgR
  have HZ := Lib.hid hz
  have HB := Lib.hid b0
  have HR := Lib.hid b1
  have HL := Lib.hid bl
  clear b0 b1 bl hz
  unfold Lgn13
  by_cases hp : p < 0
  · have hv : lTake l p b = (lz, 2) := by unfold lTake; rw [if_neg (fun h => by omega)]
    rw [hv]
    clear hv
    go_enter Try.func23, Try.ntmps23
    go_upto_region 1 with fail
    generalize ((w.alloc (.cells (lgc l).toArray 25)).alloc _) = w1 at *
    go_wp2_with ((with_reducible refine step_store (o := ⟨none, _, _, _, _, _⟩) (vs := z9) (ty := 25) (x := .tmp 6) (y := .tmp 19) ?_ ?_ ?_ ?_ HR.out HZ.out rfl z9_one ?_); (rfl); (rfl); (rfl); (rfl); intro w3 hb3 hg3 hs3)
    refine bodyPost_ret (v := .tuple #[.agg z9.toArray, .int .i64 2]) (results_two8 rfl _ rfl hb3 Try.underlying25 rfl HZ.out rfl) rfl ?_
    exact ⟨rfl, bel_upd HL.out hg3 (Nat.le_refl _) (by omega)⟩
  by_cases h7 : 7 < p
  · have hv : lTake l p b = (lz, 2) := by unfold lTake; rw [if_neg (fun h => by omega)]
    rw [hv]
    clear hv
    go_enter Try.func23, Try.ntmps23
    go_upto_region 1 with fail
    generalize ((w.alloc (.cells (lgc l).toArray 25)).alloc _) = w1 at *
    go_wp2_with ((with_reducible refine step_store (o := ⟨none, _, _, _, _, _⟩) (vs := z9) (ty := 25) (x := .tmp 6) (y := .tmp 19) ?_ ?_ ?_ ?_ HR.out HZ.out rfl z9_one ?_); (rfl); (rfl); (rfl); (rfl); intro w3 hb3 hg3 hs3)
    refine bodyPost_ret (v := .tuple #[.agg z9.toArray, .int .i64 2]) (results_two8 rfl _ rfl hb3 Try.underlying25 rfl HZ.out rfl) rfl ?_
    exact ⟨rfl, bel_upd HL.out hg3 (Nat.le_refl _) (by omega)⟩
  have hk := rright13_calls l hl
  by_cases hr : lRight l = true
  · rw [hr] at hk
    have HK := Lib.hid hk
    clear hk
    have p0 : 0 ≤ p := by omega
    obtain ⟨P, rfl⟩ := Int.eq_ofNat_of_zero_le p0
    have P8 : P < 8 := by omega
    have i1 : ¬ (P : Int) < 0 := by omega
    have i2 : ¬ (7 : Int) < (P : Int) := by omega
    have i3 : (P : Int) < 8 := by omega
    have hrs : l.held.sum ≤ l.cap := of_decide_eq_true hr
    have hcap := hl.2.1
    have hgl := getD_lt_ok hl P
    have hle := getD_le_sum l.held P
    have hcell := lgc_held hl P8
    have hss := fun v => sum_set (h := l.held) (p := P) (by rw [hl.1]; exact P8) v
    have hset := fun v => lgc_set l P v
    have hmok := fun v hv => set_ok hl P v hv
    have hlen := lgc_length hl
    obtain ⟨H, hH⟩ : ∃ H, l.held.getD P 0 = H := ⟨_, rfl⟩
    rw [hH] at hgl hle hss hcell
    by_cases hfit : H < b
    · have hv : lTake l (P : Int) b = (lz, 8) := by
        have h9 : l.held.getD ((P : Int).toNat) 0 = H := hH
        unfold lTake; rw [if_pos ⟨⟨by omega, by omega⟩, hr⟩, if_pos (by omega)]
      have j1 : (H : Int) < (b : Int) := by omega
      rw [hv]
      have HC := Lib.hid hcell
      clear hcell hv hfit hss hset hmok hlen hgl hle hH hrs hcap hr h7 hp hb p0
      go_enter Try.func23, Try.ntmps23
      go_upto_region 1 with fail
      generalize ((w.alloc (.cells (lgc l).toArray 25)).alloc _) = w1 at *
      go_wp2_with ((with_reducible refine step_load_want (o := ⟨some 15, _, _, _, _, _⟩) (x := .tmp 3) ?_ ?_ ?_ HB.out Try.underlying25 ?_ HN.out ?_); (rfl); (rfl); (rfl); (rfl))
      ((with_reducible refine (HK.out w1).mono ?_))
      rintro e w2 ⟨rfl, hb2⟩
      have HB2 := Lib.hid (HB.out.below hb2)
      have HR2 := Lib.hid (HR.out.below hb2)
      have HL2 := Lib.hid (HL.out.trans (hb2.mono HL.out.size))
      clear hb2 HB HR HL
      have c1 : w2.cell? ⟨w.heap.size, 1 + P, none⟩ = some (.int .u64 (H : Int)) := (HB2.out.cell _).trans HC.out
      have f1 := HB2.out.free (1 + P)
      go_wp2_with ((with_reducible refine step_store (o := ⟨none, _, _, _, _, _⟩) (vs := z9) (ty := 25) (x := .tmp 6) (y := .tmp 26) ?_ ?_ ?_ ?_ HR2.out HZ.out rfl z9_one ?_); (rfl); (rfl); (rfl); (rfl); intro w6 hb6 hg6 hs6)
      refine bodyPost_ret (v := .tuple #[.agg z9.toArray, .int .i64 8]) (results_two8 rfl _ rfl hb6 Try.underlying25 rfl HZ.out rfl) rfl ?_
      exact ⟨rfl, bel_upd HL2.out hg6 (Nat.le_refl _) (by omega)⟩
    · obtain ⟨N, hN⟩ : ∃ N, H - b = N := ⟨_, rfl⟩
      obtain ⟨m, hm⟩ : ∃ m : Lg, ⟨l.cap, l.held.set P N⟩ = m := ⟨_, rfl⟩
      have s1 := hss N
      have s2 := hset N
      have s3 := hmok N (by omega)
      have e1 : m.held.sum + H = l.held.sum + N := by rw [← hm]; exact s1
      have e2 : m.cap = l.cap := by rw [← hm]
      rw [hm] at s2 s3
      have HMN := Lib.hid (show (Try.prog.info? 25).map (·.size) = some (lgc m).length by rw [lgc_length s3]; exact infoLedgR)
      have HM1 := Lib.hid (lgc_one m)
      have HMZ := Lib.hid (show z9.length = (lgc m).length by rw [lgc_length s3]; rfl)
      have hv : lTake l (P : Int) b = (m, 0) := by
        have h9 : l.held.getD ((P : Int).toNat) 0 = H := hH
        unfold lTake; rw [if_pos ⟨⟨by omega, by omega⟩, hr⟩, if_neg (by omega), h9, hN, ← hm]; rfl
      have j1 : ¬ (H : Int) < (b : Int) := by omega
      have j2 : IntKind.u64.wrap ((H : Int) - (b : Int)) = (N : Int) := by rw [IntKind.wrap_u64]; omega
      rw [hv]
      have HC := Lib.hid hcell
      have HS := Lib.hid s2
      clear hcell s2
      have HJ := Lib.hid j2
      clear j2 hv hfit hss hset hmok hlen s1 s3 e1 e2 hm hN hgl hle hH hrs hcap hr h7 hp hb p0
      go_enter Try.func23, Try.ntmps23
      go_upto_region 1 with fail
      generalize ((w.alloc (.cells (lgc l).toArray 25)).alloc _) = w1 at *
      go_wp2_with ((with_reducible refine step_load_want (o := ⟨some 15, _, _, _, _, _⟩) (x := .tmp 3) ?_ ?_ ?_ HB.out Try.underlying25 ?_ HN.out ?_); (rfl); (rfl); (rfl); (rfl))
      ((with_reducible refine (HK.out w1).mono ?_))
      rintro e w2 ⟨rfl, hb2⟩
      have HB2 := Lib.hid (HB.out.below hb2)
      have HR2 := Lib.hid (HR.out.below hb2)
      have HL2 := Lib.hid (HL.out.trans (hb2.mono HL.out.size))
      clear hb2 HB HR HL
      have c1 : w2.cell? ⟨w.heap.size, 1 + P, none⟩ = some (.int .u64 (H : Int)) := (HB2.out.cell _).trans HC.out
      have f1 := HB2.out.free (1 + P)
      have j2 := HJ.out
      go_upto_region 6 with fail
      have B3 := Lib.hid (show Blk (w2.setCell ⟨w.heap.size, 1 + P, none⟩ (.int .u64 (N : Int))) w.heap.size 25 (lgc m) by rw [HS.out]; exact HB2.out.set _ _)
      have R3 := Lib.hid (show Blk (w2.setCell ⟨w.heap.size, 1 + P, none⟩ (.int .u64 (N : Int))) (w.heap.size + 1) 25 z9 from HR2.out.other (p := ⟨w.heap.size, 1 + P, none⟩) (show ¬ w.heap.size = w.heap.size + 1 by omega) _)
      have L3 := Lib.hid (HL2.out.setCell (p := ⟨w.heap.size, 1 + P, none⟩) (show w.heap.size ≤ w.heap.size by omega) (.int .u64 (N : Int)))
      clear c1 f1 HB2 HR2 HL2
      generalize w2.setCell ⟨w.heap.size, 1 + P, none⟩ (.int .u64 (N : Int)) = w4 at *
      go_wp2_with (first | ((with_reducible refine step_load (o := ⟨some 36, _, _, _, _, _⟩) (x := .tmp 3) ?_ ?_ ?_ B3.out Try.underlying25 ?_ HMN.out ?_); (rfl); (rfl); (rfl); (rfl)) | ((with_reducible refine step_store (o := ⟨none, _, _, _, _, _⟩) (vs := lgc m) (ty := 25) (x := .tmp 6) (y := .tmp 36) ?_ ?_ ?_ ?_ R3.out HMN.out HMZ.out HM1.out ?_); (rfl); (rfl); (rfl); (rfl); intro w6 hb6 hg6 hs6))
      refine bodyPost_ret (v := .tuple #[.agg (lgc m).toArray, .int .i64 0]) (results_two8 rfl _ rfl hb6 Try.underlying25 rfl HMN.out rfl) rfl ?_
      exact ⟨rfl, bel_upd L3.out hg6 (Nat.le_refl _) (by omega)⟩
  · have hr2 : lRight l = false := by simpa using hr
    rw [hr2] at hk
    have HK := Lib.hid hk
    clear hk
    have hv : lTake l p b = (lz, 2) := by unfold lTake; rw [if_neg (fun h => hr h.2)]
    rw [hv]
    clear hv hr hr2
    go_enter Try.func23, Try.ntmps23
    go_upto_region 1 with fail
    generalize ((w.alloc (.cells (lgc l).toArray 25)).alloc _) = w1 at *
    go_wp2_with ((with_reducible refine step_load_want (o := ⟨some 15, _, _, _, _, _⟩) (x := .tmp 3) ?_ ?_ ?_ HB.out Try.underlying25 ?_ HN.out ?_); (rfl); (rfl); (rfl); (rfl))
    ((with_reducible refine (HK.out w1).mono ?_))
    rintro e w2 ⟨rfl, hb2⟩
    have HR2 := Lib.hid (HR.out.below hb2)
    have HL2 := Lib.hid (HL.out.trans (hb2.mono HL.out.size))
    clear hb2
    go_wp2_with ((with_reducible refine step_store (o := ⟨none, _, _, _, _, _⟩) (vs := z9) (ty := 25) (x := .tmp 6) (y := .tmp 19) ?_ ?_ ?_ ?_ HR2.out HZ.out rfl z9_one ?_); (rfl); (rfl); (rfl); (rfl); intro w3 hb3 hg3 hs3)
    refine bodyPost_ret (v := .tuple #[.agg z9.toArray, .int .i64 2]) (results_two8 rfl _ rfl hb3 Try.underlying25 rfl HZ.out rfl) rfl ?_
    exact ⟨rfl, bel_upd HL2.out hg3 (Nat.le_refl _) (by omega)⟩
end Go.Proofs.Ytpnjjeplgkaaoaa
