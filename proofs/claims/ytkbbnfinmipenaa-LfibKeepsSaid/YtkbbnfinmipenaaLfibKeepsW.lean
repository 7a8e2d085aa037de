/-
  The walk of LfibKeeps: for all arguments it returns true and turns no memory that was there. Condition: the first argument reads as a slice of calls; the last call's number is one of 64 bits.
-/
import Derived.Test.YtkbbnfinmipenaaLfibK
import Derived.Test.YtkbbnfinmipenaaLfibG
import Derived.Deep.CutBlock
namespace Go.Proofs.Ytkbbnfinmipenaa
open Go.RowKit Go.Maps
set_option linter.unusedVariables false

set_option maxRecDepth 100000 in
set_option maxHeartbeats 3200000 in
theorem keeps_walk (a : Option Addr) (n c : Nat) (cs : List Call5) (kind num nx lab : Int) (pa : Option Addr) (pn pc : Nat) (tun ttl : Int) (pay : ByteArray) (w : World) (hC : Calls5 w w.heap.size a n cs) (hnum : (Lit.int .i64 num).wf = true) :
    Calls Try.prog 6 #[.slice a n c, .agg #[.int .u8 kind, .int .i64 num, .int .i64 nx, .int .i64 lab, .slice pa pn pc, .int .i64 tun, .int .i64 ttl, .string pay]] w fun e w' => e = .returned (.bool true) ∧ Below w.heap.size w w' := by
  have K0 := Lib.hid (bel_new (Below.refl w.heap.size w) (.cells #[.int .u8 kind, .int .i64 num, .int .i64 nx, .int .i64 lab, .slice pa pn pc, .int .i64 tun, .int .i64 ttl, .string pay] 35))
  have P0 := Lib.hid (Blk.new w 35 [.int .u8 kind, .int .i64 num, .int .i64 nx, .int .i64 lab, .slice pa pn pc, .int .i64 tun, .int .i64 ttl, .string pay])
  have HC0 := Lib.hid hC
  have WNUM := Lib.hid hnum
  clear hC hnum
  go_enter Try.func6, Try.ntmps6
  go_wp2_with fail
  generalize w.alloc (.cells #[.int .u8 kind, .int .i64 num, .int .i64 nx, .int .i64 lab, .slice pa pn pc, .int .i64 tun, .int .i64 ttl, .string pay] 35) = w0 at *
  ((with_reducible refine (alive5_calls w0).mono ?_))
  rintro e w1 ⟨rfl, b1⟩
  have K1 := Lib.hid (bel_more K0.out (Nat.le_refl _) b1)
  have P1 := Lib.hid (P0.out.below b1)
  have SZ := Lib.hid K1.out.size
  have SW := Lib.hid (Nat.le_refl w1.heap.size)
  have HC := Lib.hid (HC0.out.below K1.out)
  clear b1 K0 P0 HC0
  go_wp2_with fail
  ((with_reducible refine (lnew_yes 64 w1 (by omega) (by omega)).mono ?_))
  rintro e w2 ⟨tb, lb, ub, rfl, h2, hB, b2⟩
  have H2 := Lib.hid h2
  have B2 := Lib.hid b2
  have HBN := Lib.hid hB
  clear h2 b2 hB
  go_upto_block 0 with fail
  go_cut [6] from 7 to 55 (fun s W => ∃ l u : List (Int × Int × Int), Tbl W tb lb ub 64 l u ∧ Below w1.heap.size w1 W)
  case first =>
    go_wp2_with fail
    go_loopw [6] (fun t W => ∃ (i : Nat) (l u : List (Int × Int × Int)), t = .int .i64 (i : Int) ∧ i ≤ n ∧ i ≤ 80 ∧ Tbl W tb lb ub 64 l u ∧ Below w1.heap.size w1 W) (fun t _ => 80 - (intOf t).toNat)
    case atStart => exact ⟨0, [], [], rfl, by omega, by omega, H2.out, B2.out⟩
    case round =>
      obtain ⟨i, l, u, rfl, hin, hi80, hT, hB⟩ := hrel
      have HT := Lib.hid hT
      have HB := Lib.hid hB
      clear hT hB H2 B2
      by_cases hlt : i < n ∧ i < 80
      · obtain ⟨hl1, hl2⟩ := hlt
        have hg1 : decide (i < n) = true := by simpa using hl1
        have hg2 : decide ((i : Int) < 80) = true := by simp; omega
        have hg3 : decide (i < 80) = true := by simpa using hl2
        obtain ⟨b, o, q, rfl, hbw, hq, hcs, _⟩ := HC.out.at hl1
        obtain ⟨_, wnum, _⟩ := HC.out.2 q hq
        have CS := Lib.hid (show ∀ W, Below w1.heap.size w1 W → W.cell? ⟨b, o + i * 8 + 1, none⟩ = some (.int .i64 q.num) ∧ W.cell? ⟨b, o + i * 8 + 2, none⟩ = some (.int .i64 q.nx) ∧ W.cell? ⟨b, o + i * 8 + 3, none⟩ = some (.int .i64 q.lab) from fun W hW =>
          ⟨(hW.cell (p := ⟨b, o + i * 8 + 1, none⟩) (Nat.lt_of_lt_of_le hbw SZ.out)).trans (hcs 1 (by omega)), (hW.cell (p := ⟨b, o + i * 8 + 2, none⟩) (Nat.lt_of_lt_of_le hbw SZ.out)).trans (hcs 2 (by omega)), (hW.cell (p := ⟨b, o + i * 8 + 3, none⟩) (Nat.lt_of_lt_of_le hbw SZ.out)).trans (hcs 3 (by omega))⟩)
        have WN := Lib.hid wnum
        clear hcs wnum
        generalize q.num = num at *
        generalize q.nx = nx at *
        generalize q.lab = lab at *
        clear hq
        go_wp2_with fail
        refine region_seq (fun W => Below w1.heap.size w1 W) [(0, true), (1, true), (2, true), (3, true), (4, true), (5, true), (6, true), (7, true), (8, true), (9, true), (10, true), (11, false)]
          (by kernel_rfl) (by kernel_rfl) (by kernel_rfl) (by kernel_rfl) (fun _ _ _ _ _ h => h) (bel_drewN HB.out 1) ?_
        repeat
          refine seq_pure (v := ?_) rfl (by rfl) (fun W hW => ?_) ?_
          rotate_left
          · obtain ⟨d1, d2, d3⟩ := CS.out W hW
            clear hW
            go_simp
            try with_reducible rfl
          simp only [Act.put, List.setIfInBounds_toArray, List.set_cons_zero, List.set_cons_succ]
        refine seq_make rfl (by rfl) (fun K hK => ?_)
        go_simp
        ((with_reducible refine (bind_calls HT.out.drew num nx lab WN.out).mono ?_))
        rintro e w4 ⟨rfl, h4, t4⟩
        have H4 := Lib.hid h4
        have B4 := Lib.hid (Turn.bel (bel_drewN HB.out 1) SW.out t4 (by have := HBN.out; simp; omega))
        clear h4 t4
        go_simp
        refine hK _ w4 (fun W => Below w1.heap.size w1 W) (fun W h => h) B4.out ?_
        clear hK K
        refine seq_done ?_
        generalize actL (wn num 16 1048575 && okO nx lab) 64 l (num, nx, lab) = l4 at *
        generalize actE (wn num 16 1048575 && okO nx lab) 64 l num = e4 at *
        go_wp2_with fail
        refine region_seq (fun W => Below w1.heap.size w1 W) [(0, true), (1, true), (2, true), (3, true), (4, true), (5, true), (6, true), (7, true), (8, true), (9, true), (10, true), (11, false)]
          (by kernel_rfl) (by kernel_rfl) (by kernel_rfl) (by kernel_rfl) (fun _ _ _ _ _ h => h) (bel_drewN B4.out 1) ?_
        repeat
          refine seq_pure (v := ?_) rfl (by rfl) (fun W hW => ?_) ?_
          rotate_left
          · obtain ⟨d1, d2, d3⟩ := CS.out W hW
            clear hW
            go_simp
            try with_reducible rfl
          simp only [Act.put, List.setIfInBounds_toArray, List.set_cons_zero, List.set_cons_succ]
        refine seq_make rfl (by rfl) (fun K hK => ?_)
        go_simp
        ((with_reducible refine (map_calls H4.out.drew num nx lab WN.out).mono ?_))
        rintro e w5 ⟨rfl, h5, t5⟩
        have H5 := Lib.hid h5
        have B5 := Lib.hid (Turn.bel (bel_drewN B4.out 1) SW.out t5 (by have := HBN.out; simp; omega))
        clear h5 t5
        go_simp
        refine hK _ w5 (fun W => Below w1.heap.size w1 W) (fun W h => h) B5.out ?_
        clear hK K
        refine seq_done ?_
        generalize actL (wn num 1 65535 && okO nx lab) 64 u (num, nx, lab) = u5 at *
        generalize actE (wn num 1 65535 && okO nx lab) 64 u num = e5' at *
        go_wp2
        exact ⟨⟨i + 1, l4, u5, by go_num, by omega, by omega, H5.out, B5.out⟩, by simp [intOf]; omega⟩
      · by_cases h1 : i < n
        · have h2 : ¬ i < 80 := fun h2 => hlt ⟨h1, h2⟩
          have hg1 : decide (i < n) = true := by simpa using h1
          have hg2 : decide (i < 80) = false := by simpa using h2
          have hg3 : decide ((i : Int) < 80) = false := by simp; omega
          go_wp2_with fail
          go_meet
          exact ⟨l, u, HT.out, HB.out⟩
        · have hg1 : decide (i < n) = false := by simpa using h1
          go_wp2_with fail
          go_meet
          exact ⟨l, u, HT.out, HB.out⟩
  case rest =>
    obtain ⟨l, u, hT, hB⟩ := hcut
    have HT := Lib.hid hT
    have HB := Lib.hid hB
    have hl64 : l.length ≤ 64 ∧ u.length ≤ 64 := by have := hT.2.2.2.2.1; omega
    clear hT hB H2 B2 HC
    go_wp2_with fail
    ((with_reducible refine (labels_calls HT.out).mono ?_))
    rintro e w3 ⟨A3, c3, rfl, a3, b3⟩
    have R3 := Lib.hid (show Row ec w3 w3.heap.size A3 l.length l from AccR.row a3)
    have T3 := Lib.hid (HT.out.below b3)
    have B3 := Lib.hid (bel_more HB.out (Nat.le_refl _) b3)
    clear a3 b3 HT HB
    go_wp2_with fail
    ((with_reducible refine (tunnels_calls T3.out).mono ?_))
    rintro e w4 ⟨A4, c4, rfl, a4, b4⟩
    have Q4 := Lib.hid (show Row ec w4 w4.heap.size A4 u.length u from AccR.row a4)
    have R4 := Lib.hid ((R3.out.below b4).more b4.size)
    have T4 := Lib.hid (T3.out.below b4)
    have B4 := Lib.hid (bel_more B3.out (Nat.le_refl _) b4)
    have P4 := Lib.hid (P1.out.below B4.out)
    clear a4 b4 R3 T3 B3
    have a1 : w4.cell? ⟨w.heap.size, 1, none⟩ = some (.int .i64 num) := P4.out.cell 1
    have a2 : w4.cell? ⟨w.heap.size, 2, none⟩ = some (.int .i64 nx) := P4.out.cell 2
    have a3 : w4.cell? ⟨w.heap.size, 3, none⟩ = some (.int .i64 lab) := P4.out.cell 3
    go_wp2_with fail
    ((with_reducible refine (bind_calls T4.out num nx lab WNUM.out).mono ?_))
    rintro e w5 ⟨rfl, h5, t5⟩
    have hmapL : ∀ q ∈ [lb], ∃ es cl, w4.heap[q]? = some (.map es cl) := fun q hq => by
      obtain rfl : q = lb := by simpa using hq
      exact T4.out.2.1.isMap
    have Q5 := Lib.hid (Q4.out.turn ec_length (by omega) t5 hmapL)
    have R5 := Lib.hid (R4.out.turn ec_length (by omega) t5 hmapL)
    have T5 := Lib.hid h5
    have B5 := Lib.hid (Turn.bel B4.out SW.out t5 (by have := HBN.out; simp; omega))
    have RL := Lib.hid T4.out.2.1.1
    clear h5 t5 hmapL a1 a2 a3 Q4 R4 T4 B4 P4
    generalize hE : actE (wn num 16 1048575 && okO nx lab) 64 l num = er at *
    generalize hL : actL (wn num 16 1048575 && okO nx lab) 64 l (num, nx, lab) = l5 at *
    have HE := Lib.hid hE
    have HL5 := Lib.hid hL
    have hl5 : l5.length ≤ 64 := by have := T5.out.2.2.2.2.1; omega
    clear hE hL
    go_wp2_with fail
    ((with_reducible refine (labels_calls T5.out).mono ?_))
    rintro e w6 ⟨A6, c6, rfl, a6, b6⟩
    have N6 := Lib.hid (show Row ec w6 w6.heap.size A6 l5.length l5 from AccR.row a6)
    have Q6 := Lib.hid ((Q5.out.below b6).more b6.size)
    have R6 := Lib.hid ((R5.out.below b6).more b6.size)
    have T6 := Lib.hid (T5.out.below b6)
    have B6 := Lib.hid (bel_more B5.out (Nat.le_refl _) b6)
    clear a6 b6 Q5 R5 T5 B5
    go_wp2_with fail
    ((with_reducible refine (tunnels_calls T6.out).mono ?_))
    rintro e w7 ⟨A7, c7, rfl, a7, b7⟩
    have U7 := Lib.hid (show Row ec w7 w7.heap.size A7 u.length u from AccR.row a7)
    have N7 := Lib.hid ((N6.out.below b7).more b7.size)
    have Q7 := Lib.hid ((Q6.out.below b7).more b7.size)
    have R7 := Lib.hid ((R6.out.below b7).more b7.size)
    have T7 := Lib.hid (T6.out.below b7)
    have B7 := Lib.hid (bel_more B6.out (Nat.le_refl _) b7)
    clear a7 b7 Q6 R6 T6 B6 N6
    go_wp2_with fail
    ((with_reducible refine (same5_calls A7 A4 u.length c7 c4 u _ _ w7 U7.out Q7.out (by omega)).mono ?_))
    rintro e w8 ⟨rfl, b8⟩
    have N8 := Lib.hid ((N7.out.below b8).more b8.size)
    have Q8 := Lib.hid ((Q7.out.below b8).more b8.size)
    have R8 := Lib.hid ((R7.out.below b8).more b8.size)
    have T8 := Lib.hid (T7.out.below b8)
    have B8 := Lib.hid (bel_more B7.out (Nat.le_refl _) b8)
    clear b8 Q7 R7 T7 B7 N7 U7
    by_cases her : er = 0
    · subst her
      have hl5e : l5 = insR l (num, nx, lab) := by rw [← HL5.out]; exact act_ok HE.out
      have HI := Lib.hid hl5e
      have R5' := Lib.hid (show RisR l5 by rw [hl5e]; exact RL.out.ins _)
      have MEM := Lib.hid (show ∀ r ∈ l5, r = (num, nx, lab) ∨ (r ∈ l ∧ r.1 ≠ num) from fun r hr => by rw [hl5e] at hr; exact mem_insR.1 hr)
      have CNT := Lib.hid (show cntK l5 num = 1 by rw [hl5e]; exact cnt_ins l (num, nx, lab))
      have FND := Lib.hid (show fnd l5 num = some (nx, lab) by rw [hl5e]; exact fnd_ins RL.out (num, nx, lab))
      have LEN := Lib.hid (show (remR l5 num).length = (remR l num).length by rw [hl5e]; exact len_rem_ins l (num, nx, lab))
      have P8 := Lib.hid (P1.out.below B8.out)
      clear hl5e HL5 HE HI
      go_wp2_with fail
      go_loopw [11, 87] (fun s t W => ∃ j : Nat, j ≤ l5.length ∧ t = .int .i64 (j : Int) ∧ s = .int .i64 ((cntK (l5.take j) num : Nat) : Int) ∧ Below w8.heap.size w8 W) (fun _ t _ => l5.length - (intOf t).toNat)
      case atStart => exact ⟨0, Nat.zero_le _, rfl, by simp [cntK], Below.refl _ _⟩
      case round =>
        obtain ⟨j, hj, rfl, rfl, hB⟩ := hrel
        have HB := Lib.hid hB
        by_cases hlt : j < l5.length
        · obtain ⟨b, o, rfl, _, hc⟩ := row_at3 (N8.out.below hB) (by omega)
          obtain ⟨d0, d1, d2⟩ := hc j hlt
          have CT := Lib.hid (show cntK (l5.take (j + 1)) num = cntK (l5.take j) num + (if (l5[j].1 == num) = true then 1 else 0) by
            unfold cntK
            rw [List.take_succ_eq_append_getElem hlt, List.filter_append, List.length_append, List.filter_cons, List.filter_nil]
            split <;> rfl)
          have hcl : cntK (l5.take j) num ≤ 64 := by
            unfold cntK
            have h1 := List.length_filter_le (fun r : Int × Int × Int => r.1 == num) (l5.take j)
            have h2 : (l5.take j).length ≤ l5.length := by simp; omega
            omega
          have MM := Lib.hid (MEM.out l5[j] (List.getElem_mem hlt))
          have HEQ := Lib.hid (show l5[j] = (l5[j].1, l5[j].2.1, l5[j].2.2) from rfl)
          rw [HEQ.out] at MM
          have P9 := P8.out.below hB
          have k3 := bel_new (Below.refl wr.heap.size wr) (.cells #[.int .i64 l5[j].1, .int .i64 l5[j].2.1, .int .i64 l5[j].2.2] 63)
          have P3 := Lib.hid (P9.below k3)
          have K3 := Lib.hid (bel_more HB.out (Nat.le_refl _) k3)
          have Y3 := Lib.hid (Blk.new wr 63 [.int .i64 l5[j].1, .int .i64 l5[j].2.1, .int .i64 l5[j].2.2])
          clear hc hB P9 k3 HEQ
          generalize l5[j].1 = p at *
          generalize l5[j].2.1 = q at *
          generalize l5[j].2.2 = r at *
          generalize cntK (l5.take j) num = ct at *
          go_upto_region 22 with fail
          have RR3 := Lib.hid ((R8.out.below K3.out).more K3.out.size)
          generalize wr.alloc (.cells #[.int .i64 p, .int .i64 q, .int .i64 r] 63) = w9 at *
          have x1 : w9.cell? ⟨w.heap.size, 1, none⟩ = some (.int .i64 num) := P3.out.cell 1
          have x2 : w9.cell? ⟨w.heap.size, 2, none⟩ = some (.int .i64 nx) := P3.out.cell 2
          have x3 : w9.cell? ⟨w.heap.size, 3, none⟩ = some (.int .i64 lab) := P3.out.cell 3
          have y0 : w9.cell? ⟨wr.heap.size, 0, none⟩ = some (.int .i64 p) := Y3.out.cell 0
          have y1 : w9.cell? ⟨wr.heap.size, 1, none⟩ = some (.int .i64 q) := Y3.out.cell 1
          have y2 : w9.cell? ⟨wr.heap.size, 2, none⟩ = some (.int .i64 r) := Y3.out.cell 2
          clear d0 d1 d2
          by_cases hp : p = num
          · subst hp
            obtain ⟨rfl, rfl⟩ : q = nx ∧ r = lab := by
              rcases MM.out with h | h
              · injection h with _ h; injection h with h1 h2; exact ⟨h1, h2⟩
              · exact absurd rfl h.2
            have CT2 := Lib.hid (show cntK (l5.take (j + 1)) p = ct + 1 by rw [CT.out]; simp)
            clear CT
            go_wp2
            refine ⟨⟨j + 1, by omega, by go_num, ?_, K3.out⟩, by simp [intOf]; omega⟩
            rw [CT2.out]; go_num
          · have g0 : (p == num) = false := by rw [beq_eq_false_iff_ne]; exact hp
            have CT2 := Lib.hid (show cntK (l5.take (j + 1)) num = ct by rw [CT.out, g0]; rfl)
            have hm : (p, q, r) ∈ l := by
              rcases MM.out with h | h
              · injection h with h _; exact absurd h hp
              · exact h.1
            clear CT
            go_wp2_with fail
            ((with_reducible refine (has5_calls A3 l.length c3 l p q r w9 RR3.out (by omega) hm).mono ?_))
            rintro e w10 ⟨rfl, b10⟩
            have B10 := Lib.hid (bel_more K3.out (Nat.le_refl _) b10)
            clear b10 x1 x2 x3 y0 y1 y2
            go_wp2
            refine ⟨⟨j + 1, by omega, by go_num, ?_, B10.out⟩, by simp [intOf]; omega⟩
            rw [CT2.out]
        · have e1 : l5.take j = l5 := List.take_of_length_le (by omega)
          rw [e1, CNT.out]
          have P9 := Lib.hid (P8.out.below hB)
          have T9 := Lib.hid (T8.out.below hB)
          have R9 := Lib.hid ((R8.out.below hB).more hB.size)
          have Q9 := Lib.hid ((Q8.out.below hB).more hB.size)
          have B9 := Lib.hid (bel_more B8.out (Nat.le_refl _) hB)
          clear hB e1 HB
          have a1 : wr.cell? ⟨w.heap.size, 1, none⟩ = some (.int .i64 num) := P9.out.cell 1
          go_wp2_with fail
          ((with_reducible refine (free_calls T9.out num WNUM.out).mono ?_))
          rintro e w10 ⟨rfl, h10, t10⟩
          have e2 : remE l5 num = 0 := by unfold remE; rw [FND.out]; simp
          rw [e2]
          have hmapL : ∀ q ∈ [lb], ∃ es cl, wr.heap[q]? = some (.map es cl) := fun q hq => by
            obtain rfl : q = lb := by simpa using hq
            exact T9.out.2.1.isMap
          have T10 := Lib.hid h10
          have R10 := Lib.hid (R9.out.turn ec_length (by omega) t10 hmapL)
          have Q10 := Lib.hid (Q9.out.turn ec_length (by omega) t10 hmapL)
          have B10 := Lib.hid (Turn.bel B9.out SW.out t10 (by have := HBN.out; simp; omega))
          have P10 := Lib.hid (P1.out.below B10.out)
          clear a1 e2 h10 t10 hmapL
          have a1 : w10.cell? ⟨w.heap.size, 1, none⟩ = some (.int .i64 num) := P10.out.cell 1
          go_wp2_with fail
          ((with_reducible refine (free_calls T10.out num WNUM.out).mono ?_))
          rintro e w11 ⟨rfl, h11, t11⟩
          have e2 : remE (remR l5 num) num = 8 := by unfold remE; rw [fnd_rem]; simp
          have e3 : remR (remR l5 num) num = remR l5 num := remR_not (fnd_not (fnd_rem l5 num))
          rw [e2]
          rw [e3] at h11
          have hmapL : ∀ q ∈ [lb], ∃ es cl, w10.heap[q]? = some (.map es cl) := fun q hq => by
            obtain rfl : q = lb := by simpa using hq
            exact T10.out.2.1.isMap
          have T11 := Lib.hid h11
          have R11 := Lib.hid (R10.out.turn ec_length (by omega) t11 hmapL)
          have Q11 := Lib.hid (Q10.out.turn ec_length (by omega) t11 hmapL)
          have B11 := Lib.hid (Turn.bel B10.out SW.out t11 (by have := HBN.out; simp; omega))
          have P11 := Lib.hid (P1.out.below B11.out)
          clear a1 e2 e3 h11 t11 hmapL T9 R9 Q9 B9 P9 T10 R10 Q10 B10 P10
          go_wp2_with fail
          go_loopw [14, 126] (fun s t W => ∃ j : Nat, j ≤ l.length ∧ t = .int .i64 (j : Int) ∧ s = .int .i64 (((remR (l.take j) num).length : Nat) : Int) ∧ Below w11.heap.size w11 W) (fun _ t _ => l.length - (intOf t).toNat)
          case atStart => exact ⟨0, Nat.zero_le _, rfl, by simp [remR], Below.refl _ _⟩
          case round =>
            obtain ⟨j, hj, rfl, rfl, hB⟩ := hrel
            have HB := Lib.hid hB
            by_cases hlt : j < l.length
            · obtain ⟨b, o, rfl, _, hc⟩ := row_at3 (R11.out.below hB) (by omega)
              obtain ⟨d0, d1, d2⟩ := hc j hlt
              have CT := Lib.hid (show (remR (l.take (j + 1)) num).length = (remR (l.take j) num).length + (if (!(l[j].1 == num)) = true then 1 else 0) by
                unfold remR
                rw [List.take_succ_eq_append_getElem hlt, List.filter_append, List.length_append, List.filter_cons, List.filter_nil]
                split <;> rfl)
              have hcl : (remR (l.take j) num).length ≤ 64 := by
                have h1 := len_remR_le (l.take j) num
                have h2 : (l.take j).length ≤ l.length := by simp; omega
                omega
              have P9 := P11.out.below hB
              have k3 := bel_new (Below.refl wr.heap.size wr) (.cells #[.int .i64 l[j].1, .int .i64 l[j].2.1, .int .i64 l[j].2.2] 63)
              have P3 := Lib.hid (P9.below k3)
              have K3 := Lib.hid (bel_more HB.out (Nat.le_refl _) k3)
              have Y3 := Lib.hid (Blk.new wr 63 [.int .i64 l[j].1, .int .i64 l[j].2.1, .int .i64 l[j].2.2])
              clear hc hB P9 k3
              generalize l[j].1 = p at *
              generalize l[j].2.1 = q at *
              generalize l[j].2.2 = r at *
              generalize (remR (l.take j) num).length = ct at *
              go_upto_region 35 with fail
              generalize wr.alloc (.cells #[.int .i64 p, .int .i64 q, .int .i64 r] 63) = w12 at *
              have x1 : w12.cell? ⟨w.heap.size, 1, none⟩ = some (.int .i64 num) := P3.out.cell 1
              have y0 : w12.cell? ⟨wr.heap.size, 0, none⟩ = some (.int .i64 p) := Y3.out.cell 0
              clear d0 d1 d2
              by_cases hp : p = num
              · subst hp
                have CT2 := Lib.hid (show (remR (l.take (j + 1)) p).length = ct by rw [CT.out]; simp)
                clear CT
                go_wp2
                refine ⟨⟨j + 1, by omega, by go_num, ?_, K3.out⟩, by simp [intOf]; omega⟩
                rw [CT2.out]
              · have g0 : (p == num) = false := by rw [beq_eq_false_iff_ne]; exact hp
                have g1 : (p != num) = true := by simpa using hp
                have CT2 := Lib.hid (show (remR (l.take (j + 1)) num).length = ct + 1 by rw [CT.out, g0]; rfl)
                clear CT
                go_wp2
                refine ⟨⟨j + 1, by omega, by go_num, ?_, K3.out⟩, by simp [intOf]; omega⟩
                rw [CT2.out]; go_num
            · have e1 : l.take j = l := List.take_of_length_le (by omega)
              rw [e1, ← LEN.out]
              have T13 := Lib.hid (T11.out.below hB)
              have Q13 := Lib.hid ((Q11.out.below hB).more hB.size)
              have B13 := Lib.hid (bel_more B11.out (Nat.le_refl _) hB)
              clear hB e1 HB
              go_wp2_with fail
              ((with_reducible refine (labels_calls T13.out).mono ?_))
              rintro e w14 ⟨A14, c14, rfl, a14, b14⟩
              have T14 := Lib.hid (T13.out.below b14)
              have Q14 := Lib.hid ((Q13.out.below b14).more b14.size)
              have B14 := Lib.hid (bel_more B13.out (Nat.le_refl _) b14)
              clear a14 b14
              generalize (remR l5 num).length = ct at *
              go_wp2_with fail
              ((with_reducible refine (tunnels_calls T14.out).mono ?_))
              rintro e w15 ⟨A15, c15, rfl, a15, b15⟩
              have U15 := Lib.hid (show Row ec w15 w15.heap.size A15 u.length u from AccR.row a15)
              have Q15 := Lib.hid ((Q14.out.below b15).more b15.size)
              have B15 := Lib.hid (bel_more B14.out (Nat.le_refl _) b15)
              clear a15 b15
              go_wp2_with fail
              ((with_reducible refine (same5_calls A15 A4 u.length c15 c4 u _ _ w15 U15.out Q15.out (by omega)).mono ?_))
              rintro e w16 ⟨rfl, b16⟩
              have B16 := Lib.hid (bel_more B15.out (Nat.le_refl _) b16)
              clear b16
              go_wp2
              go_ret
              exact ⟨rfl, bel_more K1.out (Nat.le_refl _) B16.out⟩
    · have hne : (er != 0) = true := by simpa using her
      have hl5e : l5 = l := by rw [← HL5.out]; exact act_ne (by rw [HE.out]; exact her)
      subst hl5e
      go_wp2_with fail
      ((with_reducible refine (same5_calls A6 A3 l5.length c6 c3 l5 _ _ w8 N8.out R8.out (by omega)).mono ?_))
      rintro e w9 ⟨rfl, b9⟩
      have B9 := Lib.hid (bel_more B8.out (Nat.le_refl _) b9)
      clear b9
      go_wp2
      go_ret
      exact ⟨rfl, bel_more K1.out (Nat.le_refl _) B9.out⟩

theorem keeps_walk_o (a : Option Addr) (n c : Nat) (q : Call5) (w : World) (hC : n ≤ maxLen ∧ ∃ cs, Calls5 w w.heap.size a n cs) (hq : Ok5 w q) :
    Calls Try.prog 6 #[.slice a n c, .agg #[.int .u8 q.kind, .int .i64 q.num, .int .i64 q.nx, .int .i64 q.lab, .slice q.a q.n q.c, .int .i64 q.tun, .int .i64 q.ttl, .string q.pay]] w fun e w' => e = .returned (.bool true) ∧ Below w.heap.size w w' := by
  obtain ⟨_, cs, h⟩ := hC
  exact keeps_walk a n c cs q.kind q.num q.nx q.lab q.a q.n q.c q.tun q.ttl q.pay w h hq.2.1
end Go.Proofs.Ytkbbnfinmipenaa
