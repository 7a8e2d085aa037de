/-
  The walk of LfibTime: for all arguments it returns true and turns no memory that was there. Condition: the arguments read as a slice of calls and a packet.
-/
import Derived.Test.YtkbbnfinmipenaaLfibG
import Derived.Deep.CutBlock
namespace Go.Proofs.Ytkbbnfinmipenaa
open Go.RowKit Go.Maps
set_option linter.unusedVariables false

set_option maxRecDepth 100000 in
set_option maxHeartbeats 3200000 in
theorem time_walk (a : Option Addr) (n c : Nat) (cs : List Call5) (pa : Option Addr) (pn pc : Nat) (tun ttl : Int) (pay : ByteArray) (w : World) (hC : Calls5 w w.heap.size a n cs) (hP : OkP w pa pn pc tun ttl pay) :
    Calls Try.prog 4 #[.slice a n c, .agg #[.slice pa pn pc, .int .i64 tun, .int .i64 ttl, .string pay]] w fun e w' => e = .returned (.bool true) ∧ Below w.heap.size w w' := by
  obtain ⟨hpc, hpm, ⟨es, hrow⟩, wtun, wttl, _⟩ := hP
  have K0 := Lib.hid (bel_new (Below.refl w.heap.size w) (.cells #[.slice pa pn pc, .int .i64 tun, .int .i64 ttl, .string pay] 33))
  have P0 := Lib.hid (Blk.new w 33 [.slice pa pn pc, .int .i64 tun, .int .i64 ttl, .string pay])
  have HR := Lib.hid hrow
  have HC0 := Lib.hid hC
  have WT := Lib.hid wtun
  clear hrow hC wtun wttl
  go_enter Try.func4, Try.ntmps4
  go_wp2_with fail
  generalize w.alloc (.cells #[.slice pa pn pc, .int .i64 tun, .int .i64 ttl, .string pay] 33) = w0 at *
  ((with_reducible refine (alive5_calls w0).mono ?_))
  rintro e w1 ⟨rfl, b1⟩
  have K1 := Lib.hid (bel_more K0.out (Nat.le_refl _) b1)
  have P1 := Lib.hid (P0.out.below b1)
  have SZ := Lib.hid K1.out.size
  have SW := Lib.hid (Nat.le_refl w1.heap.size)
  have HC := Lib.hid (HC0.out.below K1.out)
  have HR1 := Lib.hid (HR.out.below K1.out)
  clear b1 K0 P0 HC0 HR
  go_wp2_with fail
  ((with_reducible refine (lnew_yes 64 w1 (by omega) (by omega)).mono ?_))
  rintro e w2 ⟨tb, lb, ub, rfl, h2, hB, b2⟩
  have H2 := Lib.hid h2
  have B2 := Lib.hid b2
  have HBN := Lib.hid hB
  clear h2 b2 hB
  go_upto_block 0 with fail
  go_cut [6] from 7 to 48 (fun s W => ∃ l u : List (Int × Int × Int), Tbl W tb lb ub 64 l u ∧ Below w1.heap.size w1 W)
  case first =>
    go_wp2_with fail
    go_loopw [6] (fun t W => ∃ (i : Nat) (l u : List (Int × Int × Int)), t = .int .i64 (i : Int) ∧ i ≤ n ∧ i ≤ 80 ∧ Tbl W tb lb ub 64 l u ∧ Below w1.heap.size w1 W) (fun t _ => 80 - (intOf t).toNat)
    case atStart => exact ⟨0, [], [], rfl, by omega, by omega, H2.out, B2.out⟩
    case round =>
      obtain ⟨i, l, u, rfl, hin, hi80, hT, hB⟩ := hrel
      have HT := Lib.hid hT
      have HB := Lib.hid hB
      clear hT hB H2 B2
      by_cases hlt : i < n ∧ i < 80
      · obtain ⟨hl1, hl2⟩ := hlt
        have hg1 : decide (i < n) = true := by simpa using hl1
        have hg2 : decide ((i : Int) < 80) = true := by simp; omega
        have hg3 : decide (i < 80) = true := by simpa using hl2
        obtain ⟨b, o, q, rfl, hbw, hq, hcs, _⟩ := HC.out.at hl1
        obtain ⟨_, wnum, _⟩ := HC.out.2 q hq
        have CS := Lib.hid (show ∀ W, Below w1.heap.size w1 W → W.cell? ⟨b, o + i * 8 + 1, none⟩ = some (.int .i64 q.num) ∧ W.cell? ⟨b, o + i * 8 + 2, none⟩ = some (.int .i64 q.nx) ∧ W.cell? ⟨b, o + i * 8 + 3, none⟩ = some (.int .i64 q.lab) from fun W hW =>
          ⟨(hW.cell (p := ⟨b, o + i * 8 + 1, none⟩) (Nat.lt_of_lt_of_le hbw SZ.out)).trans (hcs 1 (by omega)), (hW.cell (p := ⟨b, o + i * 8 + 2, none⟩) (Nat.lt_of_lt_of_le hbw SZ.out)).trans (hcs 2 (by omega)), (hW.cell (p := ⟨b, o + i * 8 + 3, none⟩) (Nat.lt_of_lt_of_le hbw SZ.out)).trans (hcs 3 (by omega))⟩)
        have WN := Lib.hid wnum
        clear hcs wnum
        generalize q.num = num at *
        generalize q.nx = nx at *
        generalize q.lab = lab at *
        clear hq
        go_wp2_with fail
        refine region_seq (fun W => Below w1.heap.size w1 W) [(0, true), (1, true), (2, true), (3, true), (4, true), (5, true), (6, true), (7, true), (8, true), (9, true), (10, true), (11, false)]
          (by kernel_rfl) (by kernel_rfl) (by kernel_rfl) (by kernel_rfl) (fun _ _ _ _ _ h => h) (bel_drewN HB.out 1) ?_
        repeat
          refine seq_pure (v := ?_) rfl (by rfl) (fun W hW => ?_) ?_
          rotate_left
          · obtain ⟨d1, d2, d3⟩ := CS.out W hW
            clear hW
            go_simp
            try with_reducible rfl
          simp only [Act.put, List.setIfInBounds_toArray, List.set_cons_zero, List.set_cons_succ]
        refine seq_make rfl (by rfl) (fun K hK => ?_)
        go_simp
        ((with_reducible refine (bind_calls HT.out.drew num nx lab WN.out).mono ?_))
        rintro e w4 ⟨rfl, h4, t4⟩
        have H4 := Lib.hid h4
        have B4 := Lib.hid (Turn.bel (bel_drewN HB.out 1) SW.out t4 (by have := HBN.out; simp; omega))
        clear h4 t4
        go_simp
        refine hK _ w4 (fun W => Below w1.heap.size w1 W) (fun W h => h) B4.out ?_
        clear hK K
        refine seq_done ?_
        generalize actL (wn num 16 1048575 && okO nx lab) 64 l (num, nx, lab) = l4 at *
        generalize actE (wn num 16 1048575 && okO nx lab) 64 l num = e4 at *
        go_wp2_with fail
        refine region_seq (fun W => Below w1.heap.size w1 W) [(0, true), (1, true), (2, true), (3, true), (4, true), (5, true), (6, true), (7, true), (8, true), (9, true), (10, true), (11, false)]
          (by kernel_rfl) (by kernel_rfl) (by kernel_rfl) (by kernel_rfl) (fun _ _ _ _ _ h => h) (bel_drewN B4.out 1) ?_
        repeat
          refine seq_pure (v := ?_) rfl (by rfl) (fun W hW => ?_) ?_
          rotate_left
          · obtain ⟨d1, d2, d3⟩ := CS.out W hW
            clear hW
            go_simp
            try with_reducible rfl
          simp only [Act.put, List.setIfInBounds_toArray, List.set_cons_zero, List.set_cons_succ]
        refine seq_make rfl (by rfl) (fun K hK => ?_)
        go_simp
        ((with_reducible refine (map_calls H4.out.drew num nx lab WN.out).mono ?_))
        rintro e w5 ⟨rfl, h5, t5⟩
        have H5 := Lib.hid h5
        have B5 := Lib.hid (Turn.bel (bel_drewN B4.out 1) SW.out t5 (by have := HBN.out; simp; omega))
        clear h5 t5
        go_simp
        refine hK _ w5 (fun W => Below w1.heap.size w1 W) (fun W h => h) B5.out ?_
        clear hK K
        refine seq_done ?_
        generalize actL (wn num 1 65535 && okO nx lab) 64 u (num, nx, lab) = u5 at *
        generalize actE (wn num 1 65535 && okO nx lab) 64 u num = e5' at *
        go_wp2
        exact ⟨⟨i + 1, l4, u5, by go_num, by omega, by omega, H5.out, B5.out⟩, by simp [intOf]; omega⟩
      · by_cases h1 : i < n
        · have h2 : ¬ i < 80 := fun h2 => hlt ⟨h1, h2⟩
          have hg1 : decide (i < n) = true := by simpa using h1
          have hg2 : decide (i < 80) = false := by simpa using h2
          have hg3 : decide ((i : Int) < 80) = false := by simp; omega
          go_wp2_with fail
          go_meet
          exact ⟨l, u, HT.out, HB.out⟩
        · have hg1 : decide (i < n) = false := by simpa using h1
          go_wp2_with fail
          go_meet
          exact ⟨l, u, HT.out, HB.out⟩
  case rest =>
    obtain ⟨l, u, hT, hB⟩ := hcut
    have P2 := P1.out.below hB
    have HT := Lib.hid hT
    have HB := Lib.hid hB
    have p0 : wc.cell? ⟨w.heap.size, 0, none⟩ = some (.slice pa pn pc) := P2.cell 0
    have p1 : wc.cell? ⟨w.heap.size, 1, none⟩ = some (.int .i64 tun) := P2.cell 1
    have p2 : wc.cell? ⟨w.heap.size, 2, none⟩ = some (.int .i64 ttl) := P2.cell 2
    have p3 : wc.cell? ⟨w.heap.size, 3, none⟩ = some (.string pay) := P2.cell 3
    have HP2 := Lib.hid P2
    clear hT hB P2
    go_wp2_with fail
    ((with_reducible refine (fits_calls pa pn pc tun ttl pay wc).mono ?_))
    rintro e w3 ⟨rfl, rfl⟩
    have k3 := bel_new (Below.refl wc.heap.size wc) (.cells #[.slice pa pn pc, .int .i64 tun, .int .i64 ttl, .string pay] 33)
    have T3 := Lib.hid (HT.out.below k3)
    have B3 := Lib.hid (bel_more HB.out (Nat.le_refl _) k3)
    have P3 := Lib.hid (HP2.out.below k3)
    have R3 := Lib.hid ((HR1.out.below (B3.out.mono SZ.out)).more (Nat.le_trans SZ.out B3.out.size))
    have RB := Lib.hid (show ∀ b o, pa = some ⟨b, o, none⟩ → 0 < pn → b ≠ w.heap.size from fun b o e hn => by
      obtain ⟨b', o', e', hb', _⟩ := HR1.out.2 hn
      rw [e] at e'
      injection e' with e'
      injection e' with e1 _
      omega)
    clear k3 p0 p1 p2 p3 HT HB HP2 P1 HR1
    generalize (wc.alloc (.cells #[.slice pa pn pc, .int .i64 tun, .int .i64 ttl, .string pay] 33)) = w3 at *
    cases hfit : (decide (pn ≤ 100) && decide (pay.size ≤ 5000))
    · go_wp2
      go_ret
      exact ⟨rfl, bel_more K1.out (Nat.le_refl _) B3.out⟩
    have hp1 : pn ≤ 100 := by simp at hfit; exact hfit.1
    clear hfit
    go_wp2_with fail
    go_loopw [52] (fun t W => ∃ (j : Nat) (E : Option Addr) (ce : Nat) (es : List (Int × Int × Int)) (tl : Int), t = .int .i64 (j : Int) ∧ j ≤ 300 ∧ (j = 0 ∨ (0 ≤ timeOf es tl ∧ timeOf es tl + j ≤ 255)) ∧ es.length ≤ 100 ∧ es.length ≤ ce ∧ Blk W w.heap.size 33 [.slice E es.length ce, .int .i64 tun, .int .i64 tl, .string pay] ∧ Row ec W W.heap.size E es.length es ∧ (∀ b o, E = some ⟨b, o, none⟩ → 0 < es.length → b ≠ w.heap.size) ∧ Tbl W tb lb ub 64 l u ∧ Below w.heap.size w W) (fun t _ => 300 - (intOf t).toNat)
    case atStart =>
      have hl : es.length = pn := R3.out.1
      subst hl
      exact ⟨0, pa, pc, es, ttl, rfl, by omega, .inl rfl, hp1, hpc, P3.out, R3.out, RB.out, T3.out, bel_more K1.out (Nat.le_refl _) B3.out⟩
    case round =>
      obtain ⟨j, E, ce, es, tl, rfl, hj, htm, hes, hce, hP, hR, hne, hT, hB⟩ := hrel
      have HP := Lib.hid hP
      have HR := Lib.hid hR
      have HN := Lib.hid hne
      have HT := Lib.hid hT
      have HB := Lib.hid hB
      have HTM := Lib.hid htm
      clear hP hR hne hT hB htm T3 B3 P3 R3 RB
      by_cases hlt : j < 300
      · have p0 : wr.cell? ⟨w.heap.size, 0, none⟩ = some (.slice E es.length ce) := HP.out.cell 0
        have p1 : wr.cell? ⟨w.heap.size, 1, none⟩ = some (.int .i64 tun) := HP.out.cell 1
        have p2 : wr.cell? ⟨w.heap.size, 2, none⟩ = some (.int .i64 tl) := HP.out.cell 2
        have p3 : wr.cell? ⟨w.heap.size, 3, none⟩ = some (.string pay) := HP.out.cell 3
        have HC := Lib.hid (step_calls HT.out E es.length ce es tun tl pay HR.out (by omega) hce WT.out)
        go_wp2_with fail
        ((with_reducible refine HC.out.mono ?_))
        rintro e w5 h5
        obtain ⟨nx, er, E5, n5, c5, x5, y5, py, rfl, b5, Q, eQ, hQ, b6, hcase⟩ := cutS_first h5
        injection eQ with eQ
        injection eQ with eQ
        injection eQ with eQ _ _
        subst eQ
        have B6 := Lib.hid b6
        have SQ := Lib.hid hQ
        clear h5 b5 b6 p0 p1 p2 p3 HC
        rcases hcase with ⟨er', hr, e1, e2, hq⟩ | ⟨nx', es6, tl6, E6, c6, hr, e1, e2, hq, ha⟩
        · injection e1 with _ e1
          injection e2 with _ e2
          subst e1
          subst e2
          have hne := (stepR_ne hr).1
          have Q6 := Lib.hid hq
          clear hq hr
          go_upto_region 16 with fail
          generalize w5.alloc (.cells #[.slice E5 n5 c5, .int .i64 x5, .int .i64 y5, .string py] 33) = w6 at *
          have q0 : w6.cell? ⟨w5.heap.size, 0, none⟩ = some (.slice none 0 0) := Q6.out.cell 0
          have q1 : w6.cell? ⟨w5.heap.size, 1, none⟩ = some (.int .i64 0) := Q6.out.cell 1
          have q2 : w6.cell? ⟨w5.heap.size, 2, none⟩ = some (.int .i64 0) := Q6.out.cell 2
          have q3 : w6.cell? ⟨w5.heap.size, 3, none⟩ = some (.string ⟨#[]⟩) := Q6.out.cell 3
          go_wp2_with fail
          ((with_reducible refine (refsame5_calls none none 0 0 0 [] 0 0 ⟨#[]⟩ w6 Row.nil Row.nil (by omega)).mono ?_))
          rintro e w7 ⟨rfl, b7⟩
          have B7 := Lib.hid (bel_more (bel_more HB.out (Nat.le_refl _) B6.out) (Nat.le_refl _) b7)
          clear b7
          go_wp2
          go_ret
          exact ⟨rfl, B7.out⟩
        · injection e1 with _ e1
          injection e2 with _ e2
          subst e1
          subst e2
          have st := step_time HT.out.2.2.2.2.2.1 HT.out.2.2.2.2.2.2 hr
          have Q6 := Lib.hid hq
          have A6 := Lib.hid ha
          clear hq ha hr
          go_upto_region 18 with fail
          generalize w5.alloc (.cells #[.slice E5 n5 c5, .int .i64 x5, .int .i64 y5, .string py] 33) = w6 at *
          generalize w5.heap.size = Q at *
          have P6 := Lib.hid (HP.out.below B6.out)
          have R6 := Lib.hid (show Row ec w6 w6.heap.size E es.length es from (HR.out.below B6.out).more B6.out.size)
          have RR6 := Lib.hid (show Row ec w6 w6.heap.size E6 es6.length es6 from AccR.row A6.out)
          have HLT := Lib.hid (show es6.length ≤ 100 ∧ es6.length ≤ c6 from ⟨by omega, (AccR.cap A6.out).1⟩)
          have ST := Lib.hid st
          obtain ⟨s1, s2, s3, s4, s5, s6, s7, s8, s9⟩ := st
          generalize ht6 : timeOf es6 tl6 = t6 at *
          generalize ht0 : timeOf es tl = t0 at *
          have HT6 := Lib.hid ht6
          have HT0 := Lib.hid ht0
          generalize hl6 : es6.length = ln6 at *
          generalize hl0 : es.length = ln at *
          have HL6 := Lib.hid hl6
          have HL0 := Lib.hid hl0
          clear ht6 ht0 hl6 hl0
          have g1 : decide (t6 ≥ t0) = false := by simp; omega
          have g1' : decide (t0 ≤ t6) = false := by simp; omega
          have g2 : decide (t6 < 0) = false := by simp; omega
          have g3 : decide (((ln : Int) + 1) < (ln6 : Int)) = false := by simp; omega
          have g4 : decide (((ln6 : Int) + 1) < (ln : Int)) = false := by simp; omega
          have g3' : decide (ln + 1 < ln6) = false := by simp; omega
          have g4' : decide (ln6 + 1 < ln) = false := by simp; omega
          have v1 : IntKind.i64.wrap ((ln : Int) + 1) = (ln : Int) + 1 := IntWalk.i64_in _ (by omega)
          have v2 : IntKind.i64.wrap ((ln6 : Int) + 1) = (ln6 : Int) + 1 := IntWalk.i64_in _ (by omega)
          have g5 : decide (nx < 0) = false := by simp; omega
          have g6 : decide (16 ≤ nx) = false := by simp; omega
          refine region_seq (fun W => Below w6.heap.size w6 W) [(0, true), (2, true), (1, false), (3, false), (4, true), (5, true), (6, true), (7, false), (8, true), (9, true), (10, true), (11, true), (12, true), (13, true), (14, true), (15, true), (16, true), (17, true), (18, true), (19, true), (20, true), (21, true), (22, true), (23, true), (24, true), (25, true), (26, true), (27, true), (28, true), (29, true), (30, true), (31, true), (32, true), (33, true), (34, true), (35, true), (36, true), (37, true), (38, true), (39, true), (40, true), (41, true), (42, true), (43, true), (44, true), (45, true), (46, true), (47, true), (48, true), (49, true), (50, true), (51, true)]
            (by kernel_rfl) (by kernel_rfl) (by kernel_rfl) (by kernel_rfl) (fun _ _ _ _ _ h => h) (bel_drewN (Below.refl _ _) 1) ?_
          repeat
            refine seq_pure (v := ?_) rfl (by rfl) (fun W hW => ?_) ?_
            rotate_left
            · have q0 : W.cell? ⟨Q, 0, none⟩ = some (.slice E6 ln6 c6) := (Q6.out.below hW).cell 0
              have q1 : W.cell? ⟨Q, 1, none⟩ = some (.int .i64 tun) := (Q6.out.below hW).cell 1
              have q2 : W.cell? ⟨Q, 2, none⟩ = some (.int .i64 tl6) := (Q6.out.below hW).cell 2
              have q3 : W.cell? ⟨Q, 3, none⟩ = some (.string pay) := (Q6.out.below hW).cell 3
              have p0 : W.cell? ⟨w.heap.size, 0, none⟩ = some (.slice E ln ce) := (P6.out.below hW).cell 0
              have p1 : W.cell? ⟨w.heap.size, 1, none⟩ = some (.int .i64 tun) := (P6.out.below hW).cell 1
              have p2 : W.cell? ⟨w.heap.size, 2, none⟩ = some (.int .i64 tl) := (P6.out.below hW).cell 2
              have p3 : W.cell? ⟨w.heap.size, 3, none⟩ = some (.string pay) := (P6.out.below hW).cell 3
              clear hW
              go_simp
              try with_reducible rfl
            simp only [Act.put, List.setIfInBounds_toArray, List.set_cons_zero, List.set_cons_succ]
          refine seq_make rfl (by rfl) (fun K hK => ?_)
          go_simp
          ((with_reducible refine (time_calls E6 ln6 c6 es6 tun tl6 pay w6.drew RR6.out.drewS).mono ?_))
          rintro e w7 ⟨rfl, b7⟩
          have B7 := Lib.hid (below_of_drew b7)
          clear b7
          rw [HT6.out]
          go_simp
          refine hK _ w7 (fun W => Below w6.heap.size w6 W) (fun W h => h) B7.out ?_
          clear hK K
          repeat
            refine seq_pure (v := ?_) rfl (by rfl) (fun W hW => ?_) ?_
            rotate_left
            · have q0 : W.cell? ⟨Q, 0, none⟩ = some (.slice E6 ln6 c6) := (Q6.out.below hW).cell 0
              have q1 : W.cell? ⟨Q, 1, none⟩ = some (.int .i64 tun) := (Q6.out.below hW).cell 1
              have q2 : W.cell? ⟨Q, 2, none⟩ = some (.int .i64 tl6) := (Q6.out.below hW).cell 2
              have q3 : W.cell? ⟨Q, 3, none⟩ = some (.string pay) := (Q6.out.below hW).cell 3
              have p0 : W.cell? ⟨w.heap.size, 0, none⟩ = some (.slice E ln ce) := (P6.out.below hW).cell 0
              have p1 : W.cell? ⟨w.heap.size, 1, none⟩ = some (.int .i64 tun) := (P6.out.below hW).cell 1
              have p2 : W.cell? ⟨w.heap.size, 2, none⟩ = some (.int .i64 tl) := (P6.out.below hW).cell 2
              have p3 : W.cell? ⟨w.heap.size, 3, none⟩ = some (.string pay) := (P6.out.below hW).cell 3
              clear hW
              go_simp
              try with_reducible rfl
            simp only [Act.put, List.setIfInBounds_toArray, List.set_cons_zero, List.set_cons_succ]
          refine seq_make rfl (by rfl) (fun K hK => ?_)
          go_simp
          have R7 := Lib.hid ((R6.out.below B7.out).more B7.out.size)
          ((with_reducible refine (time_calls E ln ce es tun tl pay w7 R7.out).mono ?_))
          rintro e w8 ⟨rfl, b8⟩
          have B8 := Lib.hid (bel_more B7.out (Nat.le_refl _) b8)
          clear b8
          rw [HT0.out]
          go_simp
          refine hK _ w8 (fun W => Below w6.heap.size w6 W) (fun W h => h) B8.out ?_
          clear hK K
          repeat
            refine seq_pure (v := ?_) rfl (by rfl) (fun W hW => ?_) ?_
            rotate_left
            · have q0 : W.cell? ⟨Q, 0, none⟩ = some (.slice E6 ln6 c6) := (Q6.out.below hW).cell 0
              have q1 : W.cell? ⟨Q, 1, none⟩ = some (.int .i64 tun) := (Q6.out.below hW).cell 1
              have q2 : W.cell? ⟨Q, 2, none⟩ = some (.int .i64 tl6) := (Q6.out.below hW).cell 2
              have q3 : W.cell? ⟨Q, 3, none⟩ = some (.string pay) := (Q6.out.below hW).cell 3
              have p0 : W.cell? ⟨w.heap.size, 0, none⟩ = some (.slice E ln ce) := (P6.out.below hW).cell 0
              have p1 : W.cell? ⟨w.heap.size, 1, none⟩ = some (.int .i64 tun) := (P6.out.below hW).cell 1
              have p2 : W.cell? ⟨w.heap.size, 2, none⟩ = some (.int .i64 tl) := (P6.out.below hW).cell 2
              have p3 : W.cell? ⟨w.heap.size, 3, none⟩ = some (.string pay) := (P6.out.below hW).cell 3
              clear hW
              go_simp
              try with_reducible rfl
            simp only [Act.put, List.setIfInBounds_toArray, List.set_cons_zero, List.set_cons_succ]
          refine seq_make rfl (by rfl) (fun K hK => ?_)
          go_simp
          have R8 := Lib.hid ((RR6.out.below B8.out).more B8.out.size)
          ((with_reducible refine (time_calls E6 ln6 c6 es6 tun tl6 pay w8 R8.out).mono ?_))
          rintro e w9 ⟨rfl, b9⟩
          have B9 := Lib.hid (bel_more B8.out (Nat.le_refl _) b9)
          clear b9
          rw [HT6.out]
          go_simp
          refine hK _ w9 (fun W => Below w6.heap.size w6 W) (fun W h => h) B9.out ?_
          clear hK K
          repeat
            refine seq_pure (v := ?_) rfl (by rfl) (fun W hW => ?_) ?_
            rotate_left
            · have q0 : W.cell? ⟨Q, 0, none⟩ = some (.slice E6 ln6 c6) := (Q6.out.below hW).cell 0
              have q1 : W.cell? ⟨Q, 1, none⟩ = some (.int .i64 tun) := (Q6.out.below hW).cell 1
              have q2 : W.cell? ⟨Q, 2, none⟩ = some (.int .i64 tl6) := (Q6.out.below hW).cell 2
              have q3 : W.cell? ⟨Q, 3, none⟩ = some (.string pay) := (Q6.out.below hW).cell 3
              have p0 : W.cell? ⟨w.heap.size, 0, none⟩ = some (.slice E ln ce) := (P6.out.below hW).cell 0
              have p1 : W.cell? ⟨w.heap.size, 1, none⟩ = some (.int .i64 tun) := (P6.out.below hW).cell 1
              have p2 : W.cell? ⟨w.heap.size, 2, none⟩ = some (.int .i64 tl) := (P6.out.below hW).cell 2
              have p3 : W.cell? ⟨w.heap.size, 3, none⟩ = some (.string pay) := (P6.out.below hW).cell 3
              clear hW
              go_simp
              try with_reducible rfl
            simp only [Act.put, List.setIfInBounds_toArray, List.set_cons_zero, List.set_cons_succ]
          refine seq_done ?_
          clear g1 g1' g2 g3 g4 g3' g4' v1 v2 g5 g6 R7 R8 B7 B8
          have Q9 := Q6.out.below B9.out
          have P9 := P6.out.below B9.out
          have q0 : w9.cell? ⟨Q, 0, none⟩ = some (.slice E6 ln6 c6) := Q9.cell 0
          have q1 : w9.cell? ⟨Q, 1, none⟩ = some (.int .i64 tun) := Q9.cell 1
          have q2 : w9.cell? ⟨Q, 2, none⟩ = some (.int .i64 tl6) := Q9.cell 2
          have q3 : w9.cell? ⟨Q, 3, none⟩ = some (.string pay) := Q9.cell 3
          have p0 : w9.cell? ⟨w.heap.size, 0, none⟩ = some (.slice E ln ce) := P9.cell 0
          have p1 : w9.cell? ⟨w.heap.size, 1, none⟩ = some (.int .i64 tun) := P9.cell 1
          have p2 : w9.cell? ⟨w.heap.size, 2, none⟩ = some (.int .i64 tl) := P9.cell 2
          have p3 : w9.cell? ⟨w.heap.size, 3, none⟩ = some (.string pay) := P9.cell 3
          have f0 := P9.free 0
          have f1 := P9.free 1
          have f2 := P9.free 2
          have f3 := P9.free 3
          have k9 := bel_more B6.out (Nat.le_refl _) B9.out
          have T9 := HT.out.below k9
          have hne9 := T9.neBlk P9 (by decide)
          have hE9 : ∀ b o, E6 = some ⟨b, o, none⟩ → 0 < ln6 → b ≠ w.heap.size := fun b o e _ => by
            subst e
            have h1 := (AccR.ge A6.out (x := b) rfl).1
            have h2 := HP.out.lt
            omega
          have W10 := Lib.hid (show Blk (write4 w9 w.heap.size (.slice E6 ln6 c6) (.int .i64 tun) (.int .i64 tl6) (.string pay)) w.heap.size 33 [.slice E6 ln6 c6, .int .i64 tun, .int .i64 tl6, .string pay] ∧
            Row ec (write4 w9 w.heap.size (.slice E6 ln6 c6) (.int .i64 tun) (.int .i64 tl6) (.string pay)) (write4 w9 w.heap.size (.slice E6 ln6 c6) (.int .i64 tun) (.int .i64 tl6) (.string pay)).heap.size E6 ln6 es6 ∧
            Tbl (write4 w9 w.heap.size (.slice E6 ln6 c6) (.int .i64 tun) (.int .i64 tl6) (.string pay)) tb lb ub 64 l u ∧ Below w.heap.size w (write4 w9 w.heap.size (.slice E6 ln6 c6) (.int .i64 tun) (.int .i64 tl6) (.string pay)) from
            ⟨P9.set4 _ _ _ _, by rw [write4_size]; exact Row.write ((RR6.out.below B9.out).more B9.out.size) hE9 _ _ _ _, T9.same (write4_block _ _ _ _ _ hne9.1) (write4_block _ _ _ _ _ hne9.2.1) (write4_block _ _ _ _ _ hne9.2.2), bel_set4 (bel_more HB.out (Nat.le_refl _) k9) (Nat.le_refl _) _ _ _ _⟩)
          have HE9 := Lib.hid hE9
          clear Q9 P9 k9 T9 hne9 hE9
          go_upto_region 21 with fail
          unfold write4 at W10
          generalize ((((w9.setCell ⟨w.heap.size, 0, none⟩ (.slice E6 ln6 c6)).setCell ⟨w.heap.size, 1, none⟩ (.int .i64 tun)).setCell ⟨w.heap.size, 2, none⟩ (.int .i64 tl6)).setCell ⟨w.heap.size, 3, none⟩ (.string pay)) = w10 at *
          clear q0 q1 q2 q3 p0 p1 p2 p3 f0 f1 f2 f3
          go_wp2
          refine ⟨⟨j + 1, E6, c6, es6, tl6, by go_num, by omega, .inr ?_, ?_, ?_, ?_, ?_, ?_, W10.out.2.2.1, W10.out.2.2.2⟩, by simp [intOf]; omega⟩
          · rw [HT6.out]
            have := HTM.out
            omega
          · rw [HL6.out]; exact HLT.out.1
          · rw [HL6.out]; exact HLT.out.2
          · rw [HL6.out]; exact W10.out.1
          · rw [HL6.out]; exact W10.out.2.1
          · rw [HL6.out]; exact HE9.out
      · have hj3 : j = 300 := by omega
        exfalso
        rcases HTM.out with h | h
        · omega
        · omega

theorem time_walk_o (a : Option Addr) (n c : Nat) (pa : Option Addr) (pn pc : Nat) (tun ttl : Int) (pay : ByteArray) (w : World) (hC : n ≤ maxLen ∧ ∃ cs, Calls5 w w.heap.size a n cs) (hP : OkP w pa pn pc tun ttl pay) :
    Calls Try.prog 4 #[.slice a n c, .agg #[.slice pa pn pc, .int .i64 tun, .int .i64 ttl, .string pay]] w fun e w' => e = .returned (.bool true) ∧ Below w.heap.size w w' := by
  obtain ⟨_, cs, h⟩ := hC
  exact time_walk a n c cs pa pn pc tun ttl pay w h hP
end Go.Proofs.Ytkbbnfinmipenaa
