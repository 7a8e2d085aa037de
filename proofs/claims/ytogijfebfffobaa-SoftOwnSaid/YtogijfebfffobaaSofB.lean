/-
  Contracts of package soft: leads, May, own; a route is copied. Condition: what comes in reads as a list.
-/
import Derived.Test.YtogijfebfffobaaSofA
namespace Go.Proofs.Ytogijfebfffobaa
set_option maxRecDepth 100000
set_option linter.unusedVariables false
open Go.RowKit

set_option maxHeartbeats 3200000 in
theorem leads18_calls (s : Ss) (w : World) (h : Row ei w w.heap.size s.a s.n s.p.rt) (hn : s.n ≤ maxLen) :
    Calls Try.prog 38 #[.agg (ssc s).toArray] w (Yes14 (lead18 s.p) w) := by
  unfold maxLen at hn
  unfold Yes14
  have bz := bel_new (Below.refl w.heap.size w) (.cells (ssc s).toArray 40)
  have B1 := Lib.hid (Blk.new w 40 (ssc s))
  have HL := Lib.hid bz
  have HR := Lib.hid ((h.below bz).more bz.size)
  have HRL := Lib.hid h.1
  have e1 : IntKind.i64.wrap ((s.n : Int) - 1) = (s.n : Int) - 1 := by rw [IntWalk.i64_in _ (by omega)]
  obtain ⟨R, hR⟩ : ∃ R, lead18 s.p = R := ⟨_, rfl⟩
  rw [hR]
  have HRR := Lib.hid hR
  have HW1 := Lib.hid (fun W => within18_calls (s.n : Int) 2 16 W)
  have HW2 := Lib.hid (fun W => within18_calls s.p.ix 0 ((s.n : Int) - 1) W)
  have HC := Lib.hid (fun W (hW : Row ei W W.heap.size s.a s.n s.p.rt) => different18_calls s.a s.n s.c s.p.rt W hW (by unfold maxLen; omega))
  have HN := Lib.hid hn
  clear h bz hR
  go_enter Try.func38, Try.ntmps38
  go_upto_region 1 with fail
  have HS := Lib.hid (show (w.alloc (.cells (ssc s).toArray 40)).heap.size = w.heap.size + 1 by simp)
  generalize (w.alloc (.cells (ssc s).toArray 40)) = w1 at *
  have HT := Lib.hid (fun W (hW : Below w1.heap.size w1 W) => B1.out.below hW)
  have x10 : w1.cell? ⟨w.heap.size, 10, none⟩ = some (.slice s.a s.n s.c) := B1.out.cell 10
  have HS0 := Lib.hid (show Below w1.heap.size w1 w1.drew from (Below.refl _ _).drew)
  unfold lead18 at HRR
  rw [HRL.out] at HRR
  go_wp2_with fail
  clear x10
  refine region_seq (fun W => Below w1.heap.size w1 W) [(0, true), (1, false), (2, true), (3, true), (4, true), (5, true), (6, true), (7, false), (8, true), (9, true), (10, true), (11, true), (12, true), (13, true), (14, true), (15, true), (16, true), (17, true), (18, true), (19, true), (20, true), (21, true), (22, true), (23, true), (24, true), (25, true), (26, true), (27, true), (28, true), (29, true), (30, true), (31, true), (32, true), (33, true), (34, false), (35, true), (36, true)] (by kernel_rfl) (by kernel_rfl) (by kernel_rfl) (by kernel_rfl) (fun _ _ _ _ _ h => h) HS0.out ?_
  repeat first
    | refine seq_pure (v := ?_) rfl (by rfl) (fun W hW => ?_) ?_
      rotate_left
      · have hb := HT.out W hW
        have x0 : W.cell? ⟨w.heap.size, 0, none⟩ = some (.int .i64 s.p.k.tail) := hb.cell 0
        have x2 : W.cell? ⟨w.heap.size, 2, none⟩ = some (.int .i64 s.p.k.head) := hb.cell 2
        have x10 : W.cell? ⟨w.heap.size, 10, none⟩ = some (.slice s.a s.n s.c) := hb.cell 10
        have x11 : W.cell? ⟨w.heap.size, 11, none⟩ = some (.int .i64 s.p.ix) := hb.cell 11
        clear hb
        clear hW
        go_simp
        with_reducible rfl
      simp only [Act.put, List.setIfInBounds_toArray, List.set_cons_zero, List.set_cons_succ]
    | refine seq_skip rfl (by rfl) ?_
      simp only [Act.put, List.setIfInBounds_toArray, List.set_cons_zero, List.set_cons_succ]
  refine seq_make rfl (by rfl) (fun K hK => ?_)
  go_simp
  ((with_reducible refine (HW1.out _).mono ?_))
  rintro e w8 ⟨rfl, rfl⟩
  go_simp
  refine hK _ _ _ (fun _ h => h) HS0.out ?_
  clear hK K
  cases h1 : w18 (s.n : Int) 2 16 with
  | false =>
    rw [h1] at HRR
    clear h1 HW1 HW2 HC
    repeat first
      | refine seq_pure (v := ?_) rfl (by rfl) (fun W hW => ?_) ?_
        rotate_left
        · have hb := HT.out W hW
          have x0 : W.cell? ⟨w.heap.size, 0, none⟩ = some (.int .i64 s.p.k.tail) := hb.cell 0
          have x2 : W.cell? ⟨w.heap.size, 2, none⟩ = some (.int .i64 s.p.k.head) := hb.cell 2
          have x10 : W.cell? ⟨w.heap.size, 10, none⟩ = some (.slice s.a s.n s.c) := hb.cell 10
          have x11 : W.cell? ⟨w.heap.size, 11, none⟩ = some (.int .i64 s.p.ix) := hb.cell 11
          clear hb
          clear hW
          go_simp
          with_reducible rfl
        simp only [Act.put, List.setIfInBounds_toArray, List.set_cons_zero, List.set_cons_succ]
      | refine seq_skip rfl (by rfl) ?_
        simp only [Act.put, List.setIfInBounds_toArray, List.set_cons_zero, List.set_cons_succ]
    refine seq_unmake14 rfl (by rfl) HS0.out ?_
    simp only [Act.put, List.setIfInBounds_toArray, List.set_cons_zero, List.set_cons_succ]
    repeat first
      | refine seq_pure (v := ?_) rfl (by rfl) (fun W hW => ?_) ?_
        rotate_left
        · have hb := HT.out W hW
          have x0 : W.cell? ⟨w.heap.size, 0, none⟩ = some (.int .i64 s.p.k.tail) := hb.cell 0
          have x2 : W.cell? ⟨w.heap.size, 2, none⟩ = some (.int .i64 s.p.k.head) := hb.cell 2
          have x10 : W.cell? ⟨w.heap.size, 10, none⟩ = some (.slice s.a s.n s.c) := hb.cell 10
          have x11 : W.cell? ⟨w.heap.size, 11, none⟩ = some (.int .i64 s.p.ix) := hb.cell 11
          clear hb
          clear hW
          go_simp
          with_reducible rfl
        simp only [Act.put, List.setIfInBounds_toArray, List.set_cons_zero, List.set_cons_succ]
      | refine seq_skip rfl (by rfl) ?_
        simp only [Act.put, List.setIfInBounds_toArray, List.set_cons_zero, List.set_cons_succ]
    refine seq_unmake14 rfl (by rfl) HS0.out ?_
    simp only [Act.put, List.setIfInBounds_toArray, List.set_cons_zero, List.set_cons_succ]
    repeat first
      | refine seq_pure (v := ?_) rfl (by rfl) (fun W hW => ?_) ?_
        rotate_left
        · have hb := HT.out W hW
          have x0 : W.cell? ⟨w.heap.size, 0, none⟩ = some (.int .i64 s.p.k.tail) := hb.cell 0
          have x2 : W.cell? ⟨w.heap.size, 2, none⟩ = some (.int .i64 s.p.k.head) := hb.cell 2
          have x10 : W.cell? ⟨w.heap.size, 10, none⟩ = some (.slice s.a s.n s.c) := hb.cell 10
          have x11 : W.cell? ⟨w.heap.size, 11, none⟩ = some (.int .i64 s.p.ix) := hb.cell 11
          clear hb
          clear hW
          go_simp
          with_reducible rfl
        simp only [Act.put, List.setIfInBounds_toArray, List.set_cons_zero, List.set_cons_succ]
      | refine seq_skip rfl (by rfl) ?_
        simp only [Act.put, List.setIfInBounds_toArray, List.set_cons_zero, List.set_cons_succ]
    refine seq_done ?_
    go_wp2_with fail
    go_ret
    rw [← HRR.out]
    exact ⟨rfl, HL.out.drew⟩
  | true =>
    rw [h1, Bool.true_and] at HRR
    have hb1 := w18_iff.1 h1
    have HB1 := Lib.hid hb1
    clear h1 HW1 hb1
    repeat first
      | refine seq_pure (v := ?_) rfl (by rfl) (fun W hW => ?_) ?_
        rotate_left
        · have hb := HT.out W hW
          have x0 : W.cell? ⟨w.heap.size, 0, none⟩ = some (.int .i64 s.p.k.tail) := hb.cell 0
          have x2 : W.cell? ⟨w.heap.size, 2, none⟩ = some (.int .i64 s.p.k.head) := hb.cell 2
          have x10 : W.cell? ⟨w.heap.size, 10, none⟩ = some (.slice s.a s.n s.c) := hb.cell 10
          have x11 : W.cell? ⟨w.heap.size, 11, none⟩ = some (.int .i64 s.p.ix) := hb.cell 11
          clear hb
          clear hW
          go_simp
          with_reducible rfl
        simp only [Act.put, List.setIfInBounds_toArray, List.set_cons_zero, List.set_cons_succ]
      | refine seq_skip rfl (by rfl) ?_
        simp only [Act.put, List.setIfInBounds_toArray, List.set_cons_zero, List.set_cons_succ]
    refine seq_make rfl (by rfl) (fun K hK => ?_)
    go_simp
    ((with_reducible refine (HW2.out _).mono ?_))
    rintro e w8 ⟨rfl, rfl⟩
    go_simp
    refine hK _ _ _ (fun _ h => h) HS0.out ?_
    clear hK K
    cases h2 : w18 s.p.ix 0 ((s.n : Int) - 1) with
    | false =>
      rw [h2] at HRR
      clear h2 HW2 HC
      repeat first
        | refine seq_pure (v := ?_) rfl (by rfl) (fun W hW => ?_) ?_
          rotate_left
          · have hb := HT.out W hW
            have x0 : W.cell? ⟨w.heap.size, 0, none⟩ = some (.int .i64 s.p.k.tail) := hb.cell 0
            have x2 : W.cell? ⟨w.heap.size, 2, none⟩ = some (.int .i64 s.p.k.head) := hb.cell 2
            have x10 : W.cell? ⟨w.heap.size, 10, none⟩ = some (.slice s.a s.n s.c) := hb.cell 10
            have x11 : W.cell? ⟨w.heap.size, 11, none⟩ = some (.int .i64 s.p.ix) := hb.cell 11
            clear hb
            clear hW
            go_simp
            with_reducible rfl
          simp only [Act.put, List.setIfInBounds_toArray, List.set_cons_zero, List.set_cons_succ]
        | refine seq_skip rfl (by rfl) ?_
          simp only [Act.put, List.setIfInBounds_toArray, List.set_cons_zero, List.set_cons_succ]
      refine seq_unmake14 rfl (by rfl) HS0.out ?_
      simp only [Act.put, List.setIfInBounds_toArray, List.set_cons_zero, List.set_cons_succ]
      repeat first
        | refine seq_pure (v := ?_) rfl (by rfl) (fun W hW => ?_) ?_
          rotate_left
          · have hb := HT.out W hW
            have x0 : W.cell? ⟨w.heap.size, 0, none⟩ = some (.int .i64 s.p.k.tail) := hb.cell 0
            have x2 : W.cell? ⟨w.heap.size, 2, none⟩ = some (.int .i64 s.p.k.head) := hb.cell 2
            have x10 : W.cell? ⟨w.heap.size, 10, none⟩ = some (.slice s.a s.n s.c) := hb.cell 10
            have x11 : W.cell? ⟨w.heap.size, 11, none⟩ = some (.int .i64 s.p.ix) := hb.cell 11
            clear hb
            clear hW
            go_simp
            with_reducible rfl
          simp only [Act.put, List.setIfInBounds_toArray, List.set_cons_zero, List.set_cons_succ]
        | refine seq_skip rfl (by rfl) ?_
          simp only [Act.put, List.setIfInBounds_toArray, List.set_cons_zero, List.set_cons_succ]
      refine seq_done ?_
      go_wp2_with fail
      go_ret
      rw [← HRR.out]
      exact ⟨rfl, HL.out.drew⟩
    | true =>
      rw [h2, Bool.true_and] at HRR
      clear h2 HW2
      have hn0 : 0 < s.n := by have := HB1.out; omega
      obtain ⟨m, hm⟩ : ∃ m, m + 1 = s.n := ⟨s.n - 1, by omega⟩
      obtain ⟨b, o, y, ha, hy, hbb, hc0⟩ := row_at18 HR.out hn0
      obtain ⟨b', o', z, ha', hz, _, hcm⟩ := row_at18 HR.out (show m < s.n by omega)
      rw [ha] at ha'
      injection ha' with ha'
      injection ha' with e2 e3 _
      subst e2; subst e3
      have HCE := Lib.hid (And.intro (show ∀ W, Below w1.heap.size w1 W → W.cell? ⟨b, o, none⟩ = some (.int .i64 y) from fun W hW => hc0 W hW) (show ∀ W, Below w1.heap.size w1 W → W.cell? ⟨b, o + m, none⟩ = some (.int .i64 z) from fun W hW => hcm W hW))
      have hh : s.p.rt.head? = some y := by rw [List.head?_eq_getElem?]; exact hy
      have hl : s.p.rt.getLast? = some z := by rw [List.getLast?_eq_getElem?, HRL.out, ← hm]; exact hz
      rw [hh, hl] at HRR
      simp only [Option.some.injEq] at HRR
      have e2 : IntKind.i64.wrap ((s.n : Int) - 1) = (m : Int) := by rw [e1]; omega
      have d0 : (0 : Int) < (s.n : Int) := by omega
      have d1 : (m : Int) < (s.n : Int) := by omega
      have HA := Lib.hid ha
      have HC2 := Lib.hid (fun W (hW : Below w1.heap.size w1 W) => HC.out W ((HR.out.below hW).more hW.size))
      rw [ha] at HC2 ⊢
      have d5 : (s.n : Int) ≠ 0 := by omega
      clear e1 HC ha hy hbb hc0 hz hcm hh hl hm
      obtain ⟨v3, h3⟩ : ∃ v, (y == s.p.k.head) = v := ⟨_, rfl⟩
      obtain ⟨v4, h4⟩ : ∃ v, (z == s.p.k.tail) = v := ⟨_, rfl⟩
      have hd3 : decide (y = s.p.k.head) = v3 := by rw [← h3]; rfl
      have hd4 : decide (z = s.p.k.tail) = v4 := by rw [← h4]; rfl
      rw [hd3, hd4] at HRR
      clear hd3 hd4
      cases v3 with
      | false =>
        rw [Bool.false_and] at HRR
        clear h4 HC2
        repeat first
          | refine seq_pure (v := ?_) rfl (by rfl) (fun W hW => ?_) ?_
            rotate_left
            · have hb := HT.out W hW
              have x10 : W.cell? ⟨w.heap.size, 10, none⟩ = some (.slice (some ⟨b, o, none⟩) s.n s.c) := by rw [← HA.out]; exact hb.cell 10
              have z0 : W.cell? ⟨b, o, none⟩ = some (.int .i64 y) := HCE.out.1 W hW
              have zl : W.cell? ⟨b, o + m, none⟩ = some (.int .i64 z) := HCE.out.2 W hW
              have x0 : W.cell? ⟨w.heap.size, 0, none⟩ = some (.int .i64 s.p.k.tail) := hb.cell 0
              have x2 : W.cell? ⟨w.heap.size, 2, none⟩ = some (.int .i64 s.p.k.head) := hb.cell 2
              have x11 : W.cell? ⟨w.heap.size, 11, none⟩ = some (.int .i64 s.p.ix) := hb.cell 11
              clear hb
              clear hW
              go_simp
              with_reducible rfl
            simp only [Act.put, List.setIfInBounds_toArray, List.set_cons_zero, List.set_cons_succ]
          | refine seq_skip rfl (by rfl) ?_
            simp only [Act.put, List.setIfInBounds_toArray, List.set_cons_zero, List.set_cons_succ]
        refine seq_unmake14 rfl (by rfl) HS0.out ?_
        simp only [Act.put, List.setIfInBounds_toArray, List.set_cons_zero, List.set_cons_succ]
        repeat first
          | refine seq_pure (v := ?_) rfl (by rfl) (fun W hW => ?_) ?_
            rotate_left
            · have hb := HT.out W hW
              have x10 : W.cell? ⟨w.heap.size, 10, none⟩ = some (.slice (some ⟨b, o, none⟩) s.n s.c) := by rw [← HA.out]; exact hb.cell 10
              have z0 : W.cell? ⟨b, o, none⟩ = some (.int .i64 y) := HCE.out.1 W hW
              have zl : W.cell? ⟨b, o + m, none⟩ = some (.int .i64 z) := HCE.out.2 W hW
              have x0 : W.cell? ⟨w.heap.size, 0, none⟩ = some (.int .i64 s.p.k.tail) := hb.cell 0
              have x2 : W.cell? ⟨w.heap.size, 2, none⟩ = some (.int .i64 s.p.k.head) := hb.cell 2
              have x11 : W.cell? ⟨w.heap.size, 11, none⟩ = some (.int .i64 s.p.ix) := hb.cell 11
              clear hb
              clear hW
              go_simp
              with_reducible rfl
            simp only [Act.put, List.setIfInBounds_toArray, List.set_cons_zero, List.set_cons_succ]
          | refine seq_skip rfl (by rfl) ?_
            simp only [Act.put, List.setIfInBounds_toArray, List.set_cons_zero, List.set_cons_succ]
        refine seq_done ?_
        go_wp2_with fail
        go_ret
        rw [← HRR.out]
        exact ⟨rfl, HL.out.drew⟩
      | true =>
        rw [Bool.true_and] at HRR
        cases v4 with
        | false =>
          rw [Bool.false_and] at HRR
          clear HC2
          repeat first
            | refine seq_pure (v := ?_) rfl (by rfl) (fun W hW => ?_) ?_
              rotate_left
              · have hb := HT.out W hW
                have x10 : W.cell? ⟨w.heap.size, 10, none⟩ = some (.slice (some ⟨b, o, none⟩) s.n s.c) := by rw [← HA.out]; exact hb.cell 10
                have z0 : W.cell? ⟨b, o, none⟩ = some (.int .i64 y) := HCE.out.1 W hW
                have zl : W.cell? ⟨b, o + m, none⟩ = some (.int .i64 z) := HCE.out.2 W hW
                have x0 : W.cell? ⟨w.heap.size, 0, none⟩ = some (.int .i64 s.p.k.tail) := hb.cell 0
                have x2 : W.cell? ⟨w.heap.size, 2, none⟩ = some (.int .i64 s.p.k.head) := hb.cell 2
                have x11 : W.cell? ⟨w.heap.size, 11, none⟩ = some (.int .i64 s.p.ix) := hb.cell 11
                clear hb
                clear hW
                go_simp
                with_reducible rfl
              simp only [Act.put, List.setIfInBounds_toArray, List.set_cons_zero, List.set_cons_succ]
            | refine seq_skip rfl (by rfl) ?_
              simp only [Act.put, List.setIfInBounds_toArray, List.set_cons_zero, List.set_cons_succ]
          refine seq_unmake14 rfl (by rfl) HS0.out ?_
          simp only [Act.put, List.setIfInBounds_toArray, List.set_cons_zero, List.set_cons_succ]
          repeat first
            | refine seq_pure (v := ?_) rfl (by rfl) (fun W hW => ?_) ?_
              rotate_left
              · have hb := HT.out W hW
                have x10 : W.cell? ⟨w.heap.size, 10, none⟩ = some (.slice (some ⟨b, o, none⟩) s.n s.c) := by rw [← HA.out]; exact hb.cell 10
                have z0 : W.cell? ⟨b, o, none⟩ = some (.int .i64 y) := HCE.out.1 W hW
                have zl : W.cell? ⟨b, o + m, none⟩ = some (.int .i64 z) := HCE.out.2 W hW
                have x0 : W.cell? ⟨w.heap.size, 0, none⟩ = some (.int .i64 s.p.k.tail) := hb.cell 0
                have x2 : W.cell? ⟨w.heap.size, 2, none⟩ = some (.int .i64 s.p.k.head) := hb.cell 2
                have x11 : W.cell? ⟨w.heap.size, 11, none⟩ = some (.int .i64 s.p.ix) := hb.cell 11
                clear hb
                clear hW
                go_simp
                with_reducible rfl
              simp only [Act.put, List.setIfInBounds_toArray, List.set_cons_zero, List.set_cons_succ]
            | refine seq_skip rfl (by rfl) ?_
              simp only [Act.put, List.setIfInBounds_toArray, List.set_cons_zero, List.set_cons_succ]
          refine seq_done ?_
          go_wp2_with fail
          go_ret
          rw [← HRR.out]
          exact ⟨rfl, HL.out.drew⟩
        | true =>
          rw [Bool.true_and] at HRR
          repeat first
            | refine seq_pure (v := ?_) rfl (by rfl) (fun W hW => ?_) ?_
              rotate_left
              · have hb := HT.out W hW
                have x10 : W.cell? ⟨w.heap.size, 10, none⟩ = some (.slice (some ⟨b, o, none⟩) s.n s.c) := by rw [← HA.out]; exact hb.cell 10
                have z0 : W.cell? ⟨b, o, none⟩ = some (.int .i64 y) := HCE.out.1 W hW
                have zl : W.cell? ⟨b, o + m, none⟩ = some (.int .i64 z) := HCE.out.2 W hW
                have x0 : W.cell? ⟨w.heap.size, 0, none⟩ = some (.int .i64 s.p.k.tail) := hb.cell 0
                have x2 : W.cell? ⟨w.heap.size, 2, none⟩ = some (.int .i64 s.p.k.head) := hb.cell 2
                have x11 : W.cell? ⟨w.heap.size, 11, none⟩ = some (.int .i64 s.p.ix) := hb.cell 11
                clear hb
                clear hW
                go_simp
                with_reducible rfl
              simp only [Act.put, List.setIfInBounds_toArray, List.set_cons_zero, List.set_cons_succ]
            | refine seq_skip rfl (by rfl) ?_
              simp only [Act.put, List.setIfInBounds_toArray, List.set_cons_zero, List.set_cons_succ]
          refine seq_make rfl (by rfl) (fun K hK => ?_)
          go_simp
          ((with_reducible refine (HC2.out _ HS0.out).mono ?_))
          unfold Yes14
          rintro e w8 ⟨rfl, hb⟩
          have HS8 := Lib.hid (show Below w1.heap.size w1 w8 from HS0.out.trans (hb.mono HS0.out.size))
          have HL8 := Lib.hid (show Below w.heap.size w w8 from HL.out.trans (HS8.out.mono HL.out.size))
          clear hb
          go_simp
          refine hK _ _ _ (fun _ h => h) HS8.out ?_
          clear hK K HC2
          repeat first
            | refine seq_pure (v := ?_) rfl (by rfl) (fun W hW => ?_) ?_
              rotate_left
              · have hb := HT.out W hW
                have x10 : W.cell? ⟨w.heap.size, 10, none⟩ = some (.slice (some ⟨b, o, none⟩) s.n s.c) := by rw [← HA.out]; exact hb.cell 10
                have z0 : W.cell? ⟨b, o, none⟩ = some (.int .i64 y) := HCE.out.1 W hW
                have zl : W.cell? ⟨b, o + m, none⟩ = some (.int .i64 z) := HCE.out.2 W hW
                have x0 : W.cell? ⟨w.heap.size, 0, none⟩ = some (.int .i64 s.p.k.tail) := hb.cell 0
                have x2 : W.cell? ⟨w.heap.size, 2, none⟩ = some (.int .i64 s.p.k.head) := hb.cell 2
                have x11 : W.cell? ⟨w.heap.size, 11, none⟩ = some (.int .i64 s.p.ix) := hb.cell 11
                clear hb
                clear hW
                go_simp
                with_reducible rfl
              simp only [Act.put, List.setIfInBounds_toArray, List.set_cons_zero, List.set_cons_succ]
            | refine seq_skip rfl (by rfl) ?_
              simp only [Act.put, List.setIfInBounds_toArray, List.set_cons_zero, List.set_cons_succ]
          refine seq_done ?_
          go_wp2_with fail
          go_ret
          rw [← HRR.out]
          exact ⟨rfl, HL8.out⟩
set_option maxHeartbeats 3200000 in
theorem may18_calls (s : Ss) (w : World) (h : Row ei w w.heap.size s.a s.n s.p.rt) (hn : s.n ≤ maxLen) :
    Calls Try.prog 13 #[.agg (ssc s).toArray] w (Yes14 (may18 s.p) w) := by
  unfold maxLen at hn
  unfold Yes14
  have bz := bel_new (Below.refl w.heap.size w) (.cells (ssc s).toArray 40)
  have B1 := Lib.hid (Blk.new w 40 (ssc s))
  have HL := Lib.hid bz
  have HR := Lib.hid ((h.below bz).more bz.size)
  have HIN := Lib.hid (show (Try.prog.info? 40).map (·.size) = some (ssc s).length from infoSsC)
  obtain ⟨R, hR⟩ : ∃ R, may18 s.p = R := ⟨_, rfl⟩
  rw [hR]
  unfold may18 at hR
  have HRR := Lib.hid hR
  have HC := Lib.hid (fun W (hW : Row ei W W.heap.size s.a s.n s.p.rt) => leads18_calls s W hW (by unfold maxLen; omega))
  have HN := Lib.hid hn
  clear h bz hR hn
  go_enter Try.func13, Try.ntmps13
  go_upto_region 1 with fail
  generalize (w.alloc (.cells (ssc s).toArray 40)) = w1 at *
  have x1 : w1.cell? ⟨w.heap.size, 1, none⟩ = some (.int .i64 s.p.k.tun) := B1.out.cell 1
  go_wp2_with fail
  ((with_reducible refine ((within18_calls s.p.k.tun 0 65535 _)).mono ?_))
  rintro e w9 ⟨rfl, rfl⟩
  cases hv : w18 s.p.k.tun 0 65535 with
  | false =>
    rw [hv] at HRR
    clear hv
    go_wp2_with fail
    go_ret
    rw [← HRR.out]
    first | exact ⟨rfl, HL.out⟩ | exact ⟨by simp, HL.out⟩
  | true =>
    rw [hv, Bool.true_and] at HRR
    clear hv
    have x3 : w9.cell? ⟨w.heap.size, 3, none⟩ = some (.int .i64 s.p.k.lsp) := B1.out.cell 3
    go_wp2_with fail
    ((with_reducible refine ((within18_calls s.p.k.lsp 0 65535 _)).mono ?_))
    rintro e w9 ⟨rfl, rfl⟩
    cases hv : w18 s.p.k.lsp 0 65535 with
    | false =>
      rw [hv] at HRR
      clear hv
      go_wp2_with fail
      go_ret
      rw [← HRR.out]
      first | exact ⟨rfl, HL.out⟩ | exact ⟨by simp, HL.out⟩
    | true =>
      rw [hv, Bool.true_and] at HRR
      clear hv
      have x4 : w9.cell? ⟨w.heap.size, 4, none⟩ = some (.int .u64 (s.p.w.bw : Int)) := B1.out.cell 4
      have x5 : w9.cell? ⟨w.heap.size, 5, none⟩ = some (.int .i64 s.p.w.su) := B1.out.cell 5
      have x6 : w9.cell? ⟨w.heap.size, 6, none⟩ = some (.int .i64 s.p.w.ho) := B1.out.cell 6
      have x7 : w9.cell? ⟨w.heap.size, 7, none⟩ = some (.int .u32 (s.p.w.an : Int)) := B1.out.cell 7
      have x8 : w9.cell? ⟨w.heap.size, 8, none⟩ = some (.int .u32 (s.p.w.al : Int)) := B1.out.cell 8
      have x9 : w9.cell? ⟨w.heap.size, 9, none⟩ = some (.int .u32 (s.p.w.no : Int)) := B1.out.cell 9
      have hc := right12_calls s.p.w w9
      unfold Yes12 at hc
      have HRI := Lib.hid hc
      clear hc
      go_wp2_with fail
      ((with_reducible refine (HRI.out).mono ?_))
      rintro e v2 ⟨rfl, hb⟩
      have B2 := Lib.hid (B1.out.below hb)
      have L2 := Lib.hid (HL.out.trans (hb.mono HL.out.size))
      have R2 := Lib.hid ((HR.out.below hb).more hb.size)
      clear hb B1 HL HR x1 x3 x4 x5 x6 x7 x8 x9
      cases hv : wRight s.p.w with
      | false =>
        rw [hv] at HRR
        clear hv
        go_wp2_with fail
        go_ret
        rw [← HRR.out]
        first | exact ⟨rfl, L2.out⟩ | exact ⟨by simp, L2.out⟩
      | true =>
        rw [hv, Bool.true_and] at HRR
        clear hv
        have hc := HC.out v2 R2.out
        unfold Yes14 at hc
        have HCC := Lib.hid hc
        clear hc
        go_wp2_with ((with_reducible refine step_load_want (o := ⟨some 19, _, _, _, _, _⟩) (x := .tmp 1) ?_ ?_ ?_ B2.out Try.underlying40 ?_ HIN.out ?_); (rfl); (rfl); (rfl); (rfl))
        ((with_reducible refine (HCC.out).mono ?_))
        rintro e v3 ⟨rfl, hb⟩
        have B3 := Lib.hid (B2.out.below hb)
        have L3 := Lib.hid (L2.out.trans (hb.mono L2.out.size))
        have R3 := Lib.hid ((R2.out.below hb).more hb.size)
        clear hb B2 L2 R2 
        cases hv : lead18 s.p with
        | false =>
          rw [hv] at HRR
          clear hv
          go_wp2_with fail
          go_ret
          rw [← HRR.out]
          first | exact ⟨rfl, L3.out⟩ | exact ⟨by simp, L3.out⟩
        | true =>
          rw [hv, Bool.true_and] at HRR
          clear hv
          have x13 : v3.cell? ⟨w.heap.size, 13, none⟩ = some (.int .i64 s.p.ib) := B3.out.cell 13
          go_wp2_with fail
          ((with_reducible refine ((label18_calls s.p.ib _)).mono ?_))
          rintro e w9 ⟨rfl, rfl⟩
          cases hv : lab18 s.p.ib with
          | false =>
            rw [hv] at HRR
            clear hv
            go_wp2_with fail
            go_ret
            rw [← HRR.out]
            first | exact ⟨rfl, L3.out⟩ | exact ⟨by simp, L3.out⟩
          | true =>
            rw [hv, Bool.true_and] at HRR
            clear hv
            have x14 : w9.cell? ⟨w.heap.size, 14, none⟩ = some (.int .i64 s.p.ob) := B3.out.cell 14
            go_wp2_with fail
            ((with_reducible refine ((label18_calls s.p.ob _)).mono ?_))
            rintro e w9 ⟨rfl, rfl⟩
            cases hv : lab18 s.p.ob with
            | false =>
              rw [hv] at HRR
              clear hv
              go_wp2_with fail
              go_ret
              rw [← HRR.out]
              first | exact ⟨rfl, L3.out⟩ | exact ⟨by simp, L3.out⟩
            | true =>
              rw [hv, Bool.true_and] at HRR
              clear hv
              have x12 : w9.cell? ⟨w.heap.size, 12, none⟩ = some (.int .i64 s.p.un) := B3.out.cell 12
              go_wp2_with fail
              ((with_reducible refine ((within18_calls s.p.un 0 1099511627776 _)).mono ?_))
              rintro e w9 ⟨rfl, rfl⟩
              cases hv : w18 s.p.un 0 1099511627776 with
              | false =>
                rw [hv] at HRR
                clear hv
                go_wp2_with fail
                go_ret
                rw [← HRR.out]
                first | exact ⟨rfl, L3.out⟩ | exact ⟨by simp, L3.out⟩
              | true =>
                rw [hv, Bool.true_and] at HRR
                clear hv
                have x15 : w9.cell? ⟨w.heap.size, 15, none⟩ = some (.int .i64 s.p.kp) := B3.out.cell 15
                go_wp2_with fail
                ((with_reducible refine ((within18_calls s.p.kp 0 1099511627776 _)).mono ?_))
                rintro e w9 ⟨rfl, rfl⟩
                cases hv : w18 s.p.kp 0 1099511627776 with
                | false =>
                  rw [hv] at HRR
                  clear hv
                  go_wp2_with fail
                  go_ret
                  rw [← HRR.out]
                  first | exact ⟨rfl, L3.out⟩ | exact ⟨by simp, L3.out⟩
                | true =>
                  rw [hv, Bool.true_and] at HRR
                  clear hv
                  have x16 : w9.cell? ⟨w.heap.size, 16, none⟩ = some (.int .i64 s.p.sn) := B3.out.cell 16
                  go_wp2_with fail
                  ((with_reducible refine ((within18_calls s.p.sn 0 1099511627776 _)).mono ?_))
                  rintro e w9 ⟨rfl, rfl⟩
                  cases hv : w18 s.p.sn 0 1099511627776 with
                  | false =>
                    rw [hv] at HRR
                    clear hv
                    go_wp2_with fail
                    go_ret
                    rw [← HRR.out]
                    first | exact ⟨rfl, L3.out⟩ | exact ⟨by simp, L3.out⟩
                  | true =>
                    rw [hv] at HRR
                    clear hv
                    go_wp2_with fail
                    go_ret
                    rw [← HRR.out]
                    exact ⟨rfl, L3.out⟩
/-- A route that is copied. -/
theorem clonei18_calls (a : Option Addr) (n c : Nat) (l : List Int) (w : World) (h : Row ei w w.heap.size a n l) (hn : n ≤ 1099511627776) :
    Calls Try.prog 54 #[.slice a n c] w fun e w' => ∃ A2 c2, e = .returned (.slice A2 n c2) ∧ AccI w' w.heap.size A2 c2 l ∧ Below w.heap.size w w' := by
  have hq := fun W => Lib.run_eql_slice_nil (P := Try.prog) W 35 3 a n c 0 0 Try.underlying35
  cases a with
  | none =>
    have h0 : n = 0 := by
      rcases Nat.eq_zero_or_pos n with h0 | h0
      · exact h0
      · obtain ⟨b, o, e, _⟩ := h.2 h0; cases e
    subst h0
    have hl := h.zero
    subst hl
    clear h
    go_enter Try.func54, Try.ntmps54
    go_wp2_with fail
    go_ret
    exact ⟨none, 0, rfl, AccR.nil _ _ _, Below.refl _ _⟩
  | some ad =>
    have h1 : Below w.heap.size w (w.alloc (.cells #[] 3)) := bel_new (Below.refl _ _) _
    have ha := accr_made (enc := ei) (k := 1) (T := 3) w (b := w.heap.size) (Nat.le_refl _) (cur := #[]) (n := 0) (by unfold maxLen; omega) rfl
    obtain ⟨A4, c4, w4, hrun, hacc, hgr, _⟩ := accr_append (P := Try.prog) (ty := 35) (cc := c) ei_length ei_one (by omega) ha (h.below h1) Try.underlying35 infoInt rfl (by simp) (by simp; omega) (by simp; omega)
    have hlen : ([] : List Int).length + n = n := by simp
    rw [hlen] at hrun
    have hb4 := belr_acc h1 ha hgr
    have HRUN := Lib.hid hrun
    have HA := Lib.hid hacc
    have HB := Lib.hid hb4
    clear h h1 ha hrun hacc hgr hb4 hlen
    go_enter Try.func54, Try.ntmps54
    go_wp2_with (at_builtin; refine step_append (o := ⟨some 7, _, _, _, _, _⟩) rfl rfl rfl rfl HRUN.out ?_)
    go_ret
    exact ⟨A4, c4, rfl, HA.out, HB.out⟩
/-- Numbers beside a block of another type. -/
theorem hacc18 {w w' : World} {base g c : Nat} {A : Option Addr} {l : List Int} {T : TypeId} {vs : List Value} (h : AccI w base A c l) (hb : Blk w g T vs) (hg : w.grownBy w' (some g)) (hT : T ≠ 3 := by decide) : AccI w' base A c l := by
  refine AccR.kept h hg fun x hx e => ?_
  injection e with e
  subst e
  rcases h.2 with ⟨hv, _⟩ | ⟨g', cap, cur, hv, _, hh, _⟩
  · injection hv with e _ _; subst e; cases hx
  · injection hv with e _ _
    subst e
    injection hx with hx
    simp only at hx
    subst hx
    unfold Blk at hb
    rw [hb] at hh
    injection hh with hh
    injection hh with _ hh _
    exact hT hh
set_option maxHeartbeats 1600000 in
/-- A state whose route is its own. -/
theorem own18_calls (s : Ss) (w : World) (h : Row ei w w.heap.size s.a s.n s.p.rt) (hn : s.n ≤ 1099511627776) :
    Calls Try.prog 35 #[.agg (ssc s).toArray] w fun e w' => ∃ A2 c2, e = .returned (.agg (ssc ⟨s.p, A2, s.n, c2⟩).toArray) ∧ AccI w' w.heap.size A2 c2 s.p.rt ∧ Below w.heap.size w w' := by
  have bz := bel_new (bel_new (Below.refl w.heap.size w) (.cells (ssc s).toArray 40)) (.cells #[.int .i64 0, .int .i64 0, .int .i64 0, .int .i64 0, .int .u64 0, .int .i64 0, .int .i64 0, .int .u32 0, .int .u32 0, .int .u32 0, .slice none 0 0, .int .i64 0, .int .i64 0, .int .i64 0, .int .i64 0, .int .i64 0, .int .i64 0] 40)
  have b1 := (Blk.new w 40 (ssc s)).alloc (.cells #[.int .i64 0, .int .i64 0, .int .i64 0, .int .i64 0, .int .u64 0, .int .i64 0, .int .i64 0, .int .u32 0, .int .u32 0, .int .u32 0, .slice none 0 0, .int .i64 0, .int .i64 0, .int .i64 0, .int .i64 0, .int .i64 0, .int .i64 0] 40)
  have b2 : Blk ((w.alloc (.cells (ssc s).toArray 40)).alloc (.cells #[.int .i64 0, .int .i64 0, .int .i64 0, .int .i64 0, .int .u64 0, .int .i64 0, .int .i64 0, .int .u32 0, .int .u32 0, .int .u32 0, .slice none 0 0, .int .i64 0, .int .i64 0, .int .i64 0, .int .i64 0, .int .i64 0, .int .i64 0] 40)) (w.alloc (.cells (ssc s).toArray 40)).heap.size 40 (ssc z18) := Blk.new (w.alloc (.cells (ssc s).toArray 40)) 40 (ssc z18)
  rw [show (w.alloc (.cells (ssc s).toArray 40)).heap.size = w.heap.size + 1 by simp] at b2
  have B1 := Lib.hid b1
  have B2 := Lib.hid b2
  have HL := Lib.hid bz
  have HR := Lib.hid ((h.below bz).more bz.size)
  have HCL := Lib.hid (fun W (hW : Row ei W W.heap.size s.a s.n s.p.rt) => clonei18_calls s.a s.n s.c s.p.rt W hW hn)
  have HIN := Lib.hid (fun A2 c2 => (show (Try.prog.info? 40).map (·.size) = some (ssc ⟨s.p, A2, s.n, c2⟩).length from infoSsC))
  have HON := Lib.hid ssc_one
  clear h bz b1 b2 hn
  go_enter Try.func35, Try.ntmps35
  go_upto_region 1 with fail
  generalize ((w.alloc (.cells (ssc s).toArray 40)).alloc (.cells #[.int .i64 0, .int .i64 0, .int .i64 0, .int .i64 0, .int .u64 0, .int .i64 0, .int .i64 0, .int .u32 0, .int .u32 0, .int .u32 0, .slice none 0 0, .int .i64 0, .int .i64 0, .int .i64 0, .int .i64 0, .int .i64 0, .int .i64 0] 40)) = w1 at *
  have x10 : w1.cell? ⟨w.heap.size, 10, none⟩ = some (.slice s.a s.n s.c) := B1.out.cell 10
  go_wp2_with fail
  ((with_reducible refine (HCL.out _ HR.out).mono ?_))
  rintro e w2 ⟨A2, c2, rfl, hacc, hb⟩
  have B1' := Lib.hid (B1.out.below hb)
  have B2' := Lib.hid (B2.out.below hb)
  have HL2 := Lib.hid (HL.out.trans (hb.mono HL.out.size))
  have HA2 := Lib.hid (hacc.lower HL.out.size)
  clear hacc hb x10 B1 B2 HL HR HCL
  have x10 : w2.cell? ⟨w.heap.size, 10, none⟩ = some (.slice s.a s.n s.c) := B1'.out.cell 10
  have f10 := B1'.out.free 10
  go_upto_region 2 with fail
  have hs := B1'.out.set 10 (.slice A2 s.n c2)
  have hu := upd_set_p w2 w.heap.size 10 (.slice A2 s.n c2)
  have B3 := Lib.hid (show Blk (w2.setCell ⟨w.heap.size, 10, none⟩ (.slice A2 s.n c2)) w.heap.size 40 (ssc ⟨s.p, A2, s.n, c2⟩) from hs)
  have B4 := Lib.hid (B2'.out.other (p := ⟨w.heap.size, 10, none⟩) (show w.heap.size ≠ w.heap.size + 1 by omega) (.slice A2 s.n c2))
  have HL3 := Lib.hid (bel_upd HL2.out hu (Nat.le_refl _) (Nat.le_refl _))
  have HA3 := Lib.hid (hacc18 HA2.out B1'.out hu)
  clear hs hu x10 f10 B1' B2' HL2 HA2
  generalize (w2.setCell ⟨w.heap.size, 10, none⟩ (.slice A2 s.n c2)) = w3 at *
  go_wp2_with (first | ((with_reducible refine step_load (o := ⟨some 7, _, _, _, _, _⟩) (x := .tmp 1) ?_ ?_ ?_ B3.out Try.underlying40 ?_ (HIN.out _ _) ?_); (rfl); (rfl); (rfl); (rfl)) | ((with_reducible refine step_store (o := ⟨none, _, _, _, _, _⟩) (vs := ssc ⟨s.p, A2, s.n, c2⟩) (ty := 40) (x := .tmp 2) (y := .tmp 7) ?_ ?_ ?_ ?_ B4.out (HIN.out _ _) rfl (HON.out _) ?_); (rfl); (rfl); (rfl); (rfl); intro w4 hb4 hg4 hs4))
  refine bodyPost_ret (v := .agg (ssc ⟨s.p, A2, s.n, c2⟩).toArray) (results_one8 rfl _ rfl hb4 Try.underlying40 rfl (HIN.out _ _)) rfl ?_
  exact ⟨A2, c2, rfl, hacc18 HA3.out B4.out hg4, bel_upd HL3.out hg4 (Nat.le_refl _) (by omega)⟩
end Go.Proofs.Ytogijfebfffobaa
