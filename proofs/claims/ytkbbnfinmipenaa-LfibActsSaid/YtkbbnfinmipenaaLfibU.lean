/-
  Contracts of the document's answer for layer 5 (viaductref05): Packet, begins, Step. Conditions: the rows and the entries that come in read as lists, of at most 2^38.
-/
import Derived.Test.YtkbbnfinmipenaaLfibT
import Derived.Test.YtkbbnfinmipenaaLfibF
namespace Go.Proofs.Ytkbbnfinmipenaa
open Go.RowKit Go.Maps
set_option linter.unusedVariables false

set_option maxRecDepth 100000 in
set_option maxHeartbeats 800000 in
theorem refPacket_calls (a : Option Addr) (n c : Nat) (es : List (Int × Int × Int)) (tun ttl : Int) (pay : ByteArray) (w : World) (h : Row ec w w.heap.size a n es) (hn : n ≤ 1099511627776) :
    Calls Try.prog 44 #[.agg #[.slice a n c, .int .i64 tun, .int .i64 ttl, .string pay]] w fun e w' => e = .returned (.bool (okPkt es ttl pay.size)) ∧ Below w.heap.size w w' := by
  have K0 := Lib.hid (bel_new (Below.refl w.heap.size w) (.cells #[.slice a n c, .int .i64 tun, .int .i64 ttl, .string pay] 33))
  have B0 := Lib.hid (Blk.new w 33 [.slice a n c, .int .i64 tun, .int .i64 ttl, .string pay])
  have HR := Lib.hid ((h.below K0.out).more K0.out.size)
  have HL := Lib.hid h.1
  clear h
  go_enter Try.func44, Try.ntmps44
  by_cases h8 : 8 < n
  · go_wp2
    go_ret
    exact ⟨by unfold okPkt; rw [HL.out, decide_eq_false (by omega)]; rfl, K0.out⟩
  have hm2 : decide (8 < (n : Int)) = false := by simp; omega
  by_cases ht0 : ttl < 0
  · have g1 : decide (ttl < 0) = true := by simpa using ht0
    go_wp2
    go_ret
    exact ⟨by unfold okPkt wn; rw [decide_eq_false (show ¬ 0 ≤ ttl by omega)]; simp, K0.out⟩
  have g1 : decide (ttl < 0) = false := by simpa using ht0
  by_cases ht1 : 255 < ttl
  · have g2 : decide (255 < ttl) = true := by simpa using ht1
    go_wp2
    go_ret
    exact ⟨by unfold okPkt wn; rw [decide_eq_false (show ¬ ttl ≤ 255 by omega)]; simp, K0.out⟩
  have g2 : decide (255 < ttl) = false := by simpa using ht1
  by_cases hm : 4096 < pay.size
  · have hm1 : decide (4096 < (pay.size : Int)) = true := by simp; omega
    go_wp2
    go_ret
    exact ⟨by unfold okPkt; rw [decide_eq_false (show ¬ pay.size ≤ 4096 by omega)]; simp, K0.out⟩
  have hm1 : decide (4096 < (pay.size : Int)) = false := by simp; omega
  go_wp2_with fail
  generalize (w.alloc (.cells #[.slice a n c, .int .i64 tun, .int .i64 ttl, .string pay] 33)) = w1 at *
  go_loopw [3] (fun t W => ∃ j : Nat, j ≤ n ∧ t = .int .i64 (j : Int) ∧ (es.take j).all mE = true ∧ Below w1.heap.size w1 W) (fun t _ => n - (intOf t).toNat)
  case atStart => exact ⟨0, Nat.zero_le _, rfl, rfl, Below.refl _ _⟩
  case round =>
    obtain ⟨j, hj, rfl, hal, hbel⟩ := hrel
    have HA := Lib.hid hal
    have HB := Lib.hid hbel
    have p0 : wr.cell? ⟨w.heap.size, 0, none⟩ = some (.slice a n c) := (B0.out.below hbel).cell 0
    by_cases hlt : j < n
    · have hjl : j < es.length := by rw [HL.out]; exact hlt
      obtain ⟨b, o, rfl, _, hc⟩ := row_at3 (HR.out.below hbel) (by omega)
      obtain ⟨e0, e1, e2⟩ := hc j hjl
      have HT := Lib.hid (show (es.take (j + 1)).all mE = ((es.take j).all mE && mE es[j]) by rw [List.take_succ_eq_append_getElem hjl, List.all_append, List.all_cons, List.all_nil, Bool.and_true])
      have HM := Lib.hid (show mE es[j] = may es[j].1 es[j].2.1 es[j].2.2 from rfl)
      have HX := Lib.hid (show mE es[j] = false → es.all mE = false from fun h => by rw [List.all_eq_false]; exact ⟨es[j], List.getElem_mem hjl, by rw [h]; simp⟩)
      clear hc hal hbel
      generalize mE es[j] = mm at *
      generalize es[j].1 = x at *
      generalize es[j].2.1 = y at *
      generalize es[j].2.2 = z at *
      go_wp2_with fail
      ((with_reducible refine (refmay_calls x y z _).mono ?_))
      rintro e w2 ⟨rfl, rfl⟩
      have K2 := Lib.hid (bel_new HB.out (.cells #[.int .i64 x, .int .i64 y, .int .i64 z] 61))
      rw [← HM.out]
      cases mm
      · go_wp2
        go_ret
        exact ⟨by unfold okPkt; rw [HX.out (by first | rfl | trivial)]; simp, bel_more K0.out (Nat.le_refl _) K2.out⟩
      · go_wp2
        exact ⟨⟨j + 1, by omega, by go_num, by rw [HT.out, HA.out]; rfl, K2.out⟩, by simp [intOf]; omega⟩
    · have hjn : j = n := by omega
      subst hjn
      have e1 : es.take j = es := List.take_of_length_le (by rw [HL.out]; exact Nat.le_refl _)
      have HA2 := Lib.hid (show es.all mE = true by rw [← e1]; exact hal)
      clear hal hbel e1
      go_wp2
      go_ret
      refine ⟨?_, bel_more K0.out (Nat.le_refl _) HB.out⟩
      unfold okPkt wn
      rw [HL.out, HA2.out, decide_eq_true (show j ≤ 8 by omega), decide_eq_true (show pay.size ≤ 4096 by omega), decide_eq_true (show 0 ≤ ttl by omega), decide_eq_true (show ttl ≤ 255 by omega)]
      rfl

set_option maxRecDepth 100000 in
set_option maxHeartbeats 1600000 in
theorem refbegins_calls (A1 A2 : Option Addr) (n1 c1 n2 c2 : Nat) (u : List (Int × Int × Int)) (most : Int) (a : Option Addr) (n c : Nat) (tun ttl : Int) (pay : ByteArray) (w : World) (h : Row ec w w.heap.size A2 n2 u) (hn : n2 ≤ 1099511627776) (h0 : 0 ≤ ttl) (h1 : ttl ≤ 255) :
    Calls Try.prog 45 #[.agg #[.slice A1 n1 c1, .slice A2 n2 c2, .int .i64 most], .agg #[.slice a n c, .int .i64 tun, .int .i64 ttl, .string pay]] w (StepPost w (beginR u tun ttl) tun pay) := by
  have K0 := Lib.hid (bel_new (bel_new (bel_new (Below.refl w.heap.size w) (.cells #[.slice A1 n1 c1, .slice A2 n2 c2, .int .i64 most] 28)) (.cells #[.slice a n c, .int .i64 tun, .int .i64 ttl, .string pay] 33)) (.cells #[.slice none 0 0, .int .i64 0, .int .i64 0, .string ⟨#[]⟩] 33))
  have T0 := Lib.hid (((Blk.new w 28 [.slice A1 n1 c1, .slice A2 n2 c2, .int .i64 most]).alloc (.cells #[.slice a n c, .int .i64 tun, .int .i64 ttl, .string pay] 33)).alloc (.cells #[.slice none 0 0, .int .i64 0, .int .i64 0, .string ⟨#[]⟩] 33))
  have P0 := Lib.hid (show Blk (((w.alloc (.cells #[.slice A1 n1 c1, .slice A2 n2 c2, .int .i64 most] 28)).alloc (.cells #[.slice a n c, .int .i64 tun, .int .i64 ttl, .string pay] 33)).alloc (.cells #[.slice none 0 0, .int .i64 0, .int .i64 0, .string ⟨#[]⟩] 33)) (w.heap.size + 1) 33 [.slice a n c, .int .i64 tun, .int .i64 ttl, .string pay] by
    have := (Blk.new (w.alloc (.cells #[.slice A1 n1 c1, .slice A2 n2 c2, .int .i64 most] 28)) 33 [.slice a n c, .int .i64 tun, .int .i64 ttl, .string pay]).alloc (.cells #[.slice none 0 0, .int .i64 0, .int .i64 0, .string ⟨#[]⟩] 33)
    rwa [World.size_alloc] at this)
  have R0 := Lib.hid (show Blk (((w.alloc (.cells #[.slice A1 n1 c1, .slice A2 n2 c2, .int .i64 most] 28)).alloc (.cells #[.slice a n c, .int .i64 tun, .int .i64 ttl, .string pay] 33)).alloc (.cells #[.slice none 0 0, .int .i64 0, .int .i64 0, .string ⟨#[]⟩] 33)) (w.heap.size + 2) 33 [.slice none 0 0, .int .i64 0, .int .i64 0, .string ⟨#[]⟩] by
    have := Blk.new ((w.alloc (.cells #[.slice A1 n1 c1, .slice A2 n2 c2, .int .i64 most] 28)).alloc (.cells #[.slice a n c, .int .i64 tun, .int .i64 ttl, .string pay] 33)) 33 [.slice none 0 0, .int .i64 0, .int .i64 0, .string ⟨#[]⟩]
    rwa [World.size_alloc, World.size_alloc] at this)
  have SZ := Lib.hid (show (((w.alloc (.cells #[.slice A1 n1 c1, .slice A2 n2 c2, .int .i64 most] 28)).alloc (.cells #[.slice a n c, .int .i64 tun, .int .i64 ttl, .string pay] 33)).alloc (.cells #[.slice none 0 0, .int .i64 0, .int .i64 0, .string ⟨#[]⟩] 33)).heap.size = w.heap.size + 3 by simp)
  have H1 := Lib.hid ((h.below K0.out).more K0.out.size)
  clear h
  go_enter Try.func45, Try.ntmps45
  go_wp2_with fail
  generalize (((w.alloc (.cells #[.slice A1 n1 c1, .slice A2 n2 c2, .int .i64 most] 28)).alloc (.cells #[.slice a n c, .int .i64 tun, .int .i64 ttl, .string pay] 33)).alloc (.cells #[.slice none 0 0, .int .i64 0, .int .i64 0, .string ⟨#[]⟩] 33)) = w1 at *
  have t1 : w1.cell? ⟨w.heap.size, 1, none⟩ = some (.slice A2 n2 c2) := T0.out.cell 1
  have p1 : w1.cell? ⟨w.heap.size + 1, 1, none⟩ = some (.int .i64 tun) := P0.out.cell 1
  go_wp2_with fail
  ((with_reducible refine (reffind_calls A2 n2 c2 u tun w1 H1.out hn).mono ?_))
  rintro e w2 ⟨rfl, b2⟩
  have HF := Lib.hid (show fndR u tun = ((fndR u tun).1, (fndR u tun).2.1, (fndR u tun).2.2) from rfl)
  generalize (fndR u tun).1 = f0 at *
  generalize (fndR u tun).2.1 = f1 at *
  generalize (fndR u tun).2.2 = f2 at *
  have k3 := bel_new b2 (.cells #[.int .i64 f0, .int .i64 f1, .int .i64 f2] 77)
  have K3 := Lib.hid (bel_more K0.out (Nat.le_refl _) k3)
  have P3 := Lib.hid (P0.out.below k3)
  have R3 := Lib.hid (R0.out.below k3)
  have X3 := Lib.hid (Blk.new w2 77 [.int .i64 f0, .int .i64 f1, .int .i64 f2])
  have QS := Lib.hid (show w.heap.size + 3 ≤ w2.heap.size by have := b2.size; rw [SZ.out] at this; exact this)
  clear b2 k3 t1 p1 T0 P0 R0
  go_upto_region 2 with fail
  generalize w2.alloc (.cells #[.int .i64 f0, .int .i64 f1, .int .i64 f2] 77) = w3 at *
  generalize w2.heap.size = q at *
  have QQ := QS.out
  cases hs : (fnd u tun).isSome
  · have hf : fnd u tun = none := by simpa using hs
    have r0 : w3.cell? ⟨w.heap.size + 2, 0, none⟩ = some (.slice none 0 0) := R3.out.cell 0
    have r1 : w3.cell? ⟨w.heap.size + 2, 1, none⟩ = some (.int .i64 0) := R3.out.cell 1
    have r2 : w3.cell? ⟨w.heap.size + 2, 2, none⟩ = some (.int .i64 0) := R3.out.cell 2
    have r3 : w3.cell? ⟨w.heap.size + 2, 3, none⟩ = some (.string ⟨#[]⟩) := R3.out.cell 3
    have g0' := R3.out.free 0
    have g1' := R3.out.free 1
    have g2' := R3.out.free 2
    have g3' := R3.out.free 3
    go_wp2
    have hq := R3.out.set4 (.slice none 0 0) (.int .i64 0) (.int .i64 0) (.string ⟨#[]⟩)
    have y0 := hq.cell 0
    have y1 := hq.cell 1
    have y2 := hq.cell 2
    have y3 := hq.cell 3
    simp only [List.getElem?_cons_zero, List.getElem?_cons_succ] at y0 y1 y2 y3
    refine bodyPost_ret (v := .tuple #[.int .i64 0, .agg #[.slice none 0 0, .int .i64 0, .int .i64 0, .string ⟨#[]⟩], .int .i64 8]) (by simp [results, Try.results45, go_sem, y0, y1, y2, y3]) rfl ?_
    exact stepPost_err (bel_set4 K3.out (by omega) _ _ _ _) (by unfold beginR; rw [hf]) rfl
  obtain ⟨pp, hpp⟩ := Option.isSome_iff_exists.1 hs
  have hfr : (f0, f1, f2) = (tun, pp) := by rw [← HF.out]; unfold fndR; rw [hpp]
  have HS := Lib.hid (show fnd u tun = some (f1, f2) by rw [hpp]; injection hfr with _ e; rw [e])
  clear hs hpp hfr
  by_cases hz : ttl = 0
  · subst hz
    have p2 : w3.cell? ⟨w.heap.size + 1, 2, none⟩ = some (.int .i64 0) := P3.out.cell 2
    have r0 : w3.cell? ⟨w.heap.size + 2, 0, none⟩ = some (.slice none 0 0) := R3.out.cell 0
    have r1 : w3.cell? ⟨w.heap.size + 2, 1, none⟩ = some (.int .i64 0) := R3.out.cell 1
    have r2 : w3.cell? ⟨w.heap.size + 2, 2, none⟩ = some (.int .i64 0) := R3.out.cell 2
    have r3 : w3.cell? ⟨w.heap.size + 2, 3, none⟩ = some (.string ⟨#[]⟩) := R3.out.cell 3
    have g0' := R3.out.free 0
    have g1' := R3.out.free 1
    have g2' := R3.out.free 2
    have g3' := R3.out.free 3
    go_wp2
    have hq := R3.out.set4 (.slice none 0 0) (.int .i64 0) (.int .i64 0) (.string ⟨#[]⟩)
    have y0 := hq.cell 0
    have y1 := hq.cell 1
    have y2 := hq.cell 2
    have y3 := hq.cell 3
    simp only [List.getElem?_cons_zero, List.getElem?_cons_succ] at y0 y1 y2 y3
    refine bodyPost_ret (v := .tuple #[.int .i64 0, .agg #[.slice none 0 0, .int .i64 0, .int .i64 0, .string ⟨#[]⟩], .int .i64 10]) (by simp [results, Try.results45, go_sem, y0, y1, y2, y3]) rfl ?_
    exact stepPost_err (bel_set4 K3.out (by omega) _ _ _ _) (by unfold beginR; rw [HS.out]; rfl) rfl
  have p2 : w3.cell? ⟨w.heap.size + 1, 2, none⟩ = some (.int .i64 ttl) := P3.out.cell 2
  have p0 : w3.cell? ⟨w.heap.size + 1, 0, none⟩ = some (.slice a n c) := P3.out.cell 0
  have g0 := P3.out.free 0
  have g2 := P3.out.free 2
  go_upto_region 8 with fail
  have K5 := Lib.hid (show Below w.heap.size w ((w3.setCell ⟨w.heap.size + 1, 2, none⟩ (.int .i64 (ttl - 1))).setCell ⟨w.heap.size + 1, 0, none⟩ (.slice none 0 0)) from (K3.out.setCell (p := ⟨w.heap.size + 1, 2, none⟩) (by show w.heap.size ≤ w.heap.size + 1; omega) _).setCell (p := ⟨w.heap.size + 1, 0, none⟩) (by show w.heap.size ≤ w.heap.size + 1; omega) _)
  have P5 := Lib.hid (show Blk ((w3.setCell ⟨w.heap.size + 1, 2, none⟩ (.int .i64 (ttl - 1))).setCell ⟨w.heap.size + 1, 0, none⟩ (.slice none 0 0)) (w.heap.size + 1) 33 [.slice none 0 0, .int .i64 tun, .int .i64 (ttl - 1), .string pay] from (P3.out.set 2 _).set 0 _)
  have R5 := Lib.hid ((R3.out.other (p := ⟨w.heap.size + 1, 2, none⟩) (by simp) (.int .i64 (ttl - 1))).other (p := ⟨w.heap.size + 1, 0, none⟩) (by simp) (.slice none 0 0))
  have X5 := Lib.hid ((X3.out.other (p := ⟨w.heap.size + 1, 2, none⟩) (by show w.heap.size + 1 ≠ q; omega) (.int .i64 (ttl - 1))).other (p := ⟨w.heap.size + 1, 0, none⟩) (by show w.heap.size + 1 ≠ q; omega) (.slice none 0 0))
  have S5 := Lib.hid (show w.heap.size + 3 ≤ ((w3.setCell ⟨w.heap.size + 1, 2, none⟩ (.int .i64 (ttl - 1))).setCell ⟨w.heap.size + 1, 0, none⟩ (.slice none 0 0)).heap.size by have := X5.out.lt; omega)
  clear p0 p2 g0 g2 K3 P3 R3 X3
  generalize ((w3.setCell ⟨w.heap.size + 1, 2, none⟩ (.int .i64 (ttl - 1))).setCell ⟨w.heap.size + 1, 0, none⟩ (.slice none 0 0)) = w5 at *
  have x2 : w5.cell? ⟨q, 2, none⟩ = some (.int .i64 f2) := X5.out.cell 2
  by_cases h3 : f2 = 3
  · subst h3
    go_wp2_with fail
    have K8 := K5
    have P8 := P5
    have R8 := R5
    have X8 := X5
    have A8 := Lib.hid (show AccE w5 (w.heap.size + 3) none 0 [] from AccR.nil _ _ _)
    clear K5 P5 R5 X5 x2
    generalize w5 = w8 at *
    refine region_seq (fun W => W.cell? ⟨q, 1, none⟩ = some (.int .i64 f1) ∧ W.cell? ⟨w.heap.size + 1, 0, none⟩ = some (.slice none 0 0) ∧ W.cell? ⟨w.heap.size + 1, 1, none⟩ = some (.int .i64 tun) ∧ W.cell? ⟨w.heap.size + 1, 2, none⟩ = some (.int .i64 (ttl - 1)) ∧ W.cell? ⟨w.heap.size + 1, 3, none⟩ = some (.string pay))
      [(0, true), (1, true), (2, true), (3, true), (4, false), (5, true)]
      (by kernel_rfl) (by kernel_rfl) (by kernel_rfl) (by kernel_rfl) (fun _ _ _ _ _ h => h) ⟨X8.out.cell 1, P8.out.cell 0, P8.out.cell 1, P8.out.cell 2, P8.out.cell 3⟩ ?_
    repeat
      refine seq_pure (v := ?_) rfl (by rfl) (fun W hW => ?_) ?_
      rotate_left
      · obtain ⟨d0, d1, d2, d3, d4⟩ := hW
        go_simp
        try with_reducible rfl
      simp only [Act.put, List.setIfInBounds_toArray, List.set_cons_zero, List.set_cons_succ]
    refine seq_make rfl (by rfl) (fun K hK => ?_)
    have r0 : w8.cell? ⟨w.heap.size + 2, 0, none⟩ = some (.slice none 0 0) := R8.out.cell 0
    have r1 : w8.cell? ⟨w.heap.size + 2, 1, none⟩ = some (.int .i64 0) := R8.out.cell 1
    have r2 : w8.cell? ⟨w.heap.size + 2, 2, none⟩ = some (.int .i64 0) := R8.out.cell 2
    have r3 : w8.cell? ⟨w.heap.size + 2, 3, none⟩ = some (.string ⟨#[]⟩) := R8.out.cell 3
    have f0 := R8.out.free 0
    have f1' := R8.out.free 1
    have f2' := R8.out.free 2
    have f3 := R8.out.free 3
    go_simp
    clear r0 r1 r2 r3 f0 f1' f2' f3
    have X9 := Lib.hid (X8.out.other4 (p := w.heap.size + 2) (by omega) (.slice none 0 0) (.int .i64 tun) (.int .i64 (ttl - 1)) (.string pay))
    have P9 := Lib.hid (P8.out.other4 (p := w.heap.size + 2) (by omega) (.slice none 0 0) (.int .i64 tun) (.int .i64 (ttl - 1)) (.string pay))
    have R9 := Lib.hid (R8.out.set4 (.slice none 0 0) (.int .i64 tun) (.int .i64 (ttl - 1)) (.string pay))
    have K9 := Lib.hid (bel_set4 (q := w.heap.size + 2) K8.out (by omega) (.slice none 0 0) (.int .i64 tun) (.int .i64 (ttl - 1)) (.string pay))
    have A9 := Lib.hid (show AccE ((((w8.setCell ⟨w.heap.size + 2, 0, none⟩ (.slice none 0 0)).setCell ⟨w.heap.size + 2, 1, none⟩ (.int .i64 tun)).setCell ⟨w.heap.size + 2, 2, none⟩ (.int .i64 (ttl - 1))).setCell ⟨w.heap.size + 2, 3, none⟩ (.string pay)) (w.heap.size + 3) none 0 [] from accr_setBelow (accr_setBelow (accr_setBelow (accr_setBelow A8.out (by show w.heap.size + 2 < w.heap.size + 3; omega) _) (by show w.heap.size + 2 < w.heap.size + 3; omega) _) (by show w.heap.size + 2 < w.heap.size + 3; omega) _) (by show w.heap.size + 2 < w.heap.size + 3; omega) _)
    generalize ((((w8.setCell ⟨w.heap.size + 2, 0, none⟩ (.slice none 0 0)).setCell ⟨w.heap.size + 2, 1, none⟩ (.int .i64 tun)).setCell ⟨w.heap.size + 2, 2, none⟩ (.int .i64 (ttl - 1))).setCell ⟨w.heap.size + 2, 3, none⟩ (.string pay)) = w9 at *
    refine hK _ _ (fun W => W.cell? ⟨q, 1, none⟩ = some (.int .i64 f1) ∧ W.cell? ⟨w.heap.size + 1, 0, none⟩ = some (.slice none 0 0) ∧ W.cell? ⟨w.heap.size + 1, 1, none⟩ = some (.int .i64 tun) ∧ W.cell? ⟨w.heap.size + 1, 2, none⟩ = some (.int .i64 (ttl - 1)) ∧ W.cell? ⟨w.heap.size + 1, 3, none⟩ = some (.string pay)) (fun W h => h) ⟨X9.out.cell 1, P9.out.cell 0, P9.out.cell 1, P9.out.cell 2, P9.out.cell 3⟩ ?_
    clear hK K
    repeat
      refine seq_pure (v := ?_) rfl (by rfl) (fun W hW => ?_) ?_
      rotate_left
      · clear hW
        go_simp
        try with_reducible rfl
      simp only [Act.put, List.setIfInBounds_toArray, List.set_cons_zero, List.set_cons_succ]
    refine seq_done ?_
    go_wp2
    have y0 : w9.cell? ⟨w.heap.size + 2, 0, none⟩ = some (.slice none 0 0) := R9.out.cell 0
    have y1 : w9.cell? ⟨w.heap.size + 2, 1, none⟩ = some (.int .i64 tun) := R9.out.cell 1
    have y2 : w9.cell? ⟨w.heap.size + 2, 2, none⟩ = some (.int .i64 (ttl - 1)) := R9.out.cell 2
    have y3 : w9.cell? ⟨w.heap.size + 2, 3, none⟩ = some (.string pay) := R9.out.cell 3
    refine bodyPost_ret (v := .tuple #[.int .i64 f1, .agg #[.slice none 0 0, .int .i64 tun, .int .i64 (ttl - 1), .string pay], .int .i64 0]) (by simp [results, Try.results45, go_sem, y0, y1, y2, y3]) rfl ?_
    refine ⟨bel_drewN K9.out 1, .inr ⟨f1, [], (ttl - 1), none, 0, ?_, by first | rfl | (simp only [List.length_cons, List.length_nil]; done) | (rw [HLEN]), A9.out.lower (by omega)⟩⟩
    unfold beginR
    rw [HS.out]
    simp only [if_neg hz, if_true]
  · have hn3 : (!(f2 == 3)) = true := by simpa using h3
    have p2 : w5.cell? ⟨w.heap.size + 1, 2, none⟩ = some (.int .i64 (ttl - 1)) := P5.out.cell 2
    have p0 : w5.cell? ⟨w.heap.size + 1, 0, none⟩ = some (.slice none 0 0) := P5.out.cell 0
    have g0 := P5.out.free 0
    have k7 := bel_new (Below.refl w5.heap.size w5) (.cells #[.int .i64 f2, .int .i64 0, .int .i64 (ttl - 1)] 61)
    have P7 := P5.out.below k7
    have q0 := P7.cell 0
    simp only [List.getElem?_cons_zero] at q0
    have g7 := P7.free 0
    go_upto_region 10 with fail
    have A7 := Lib.hid (show AccE (w5.alloc (.cells #[.int .i64 f2, .int .i64 0, .int .i64 (ttl - 1)] 61)) w5.heap.size (some ⟨w5.heap.size, 0, none⟩) 1 [(f2, 0, ttl - 1)] from accr_new (enc := ec) ec_length w5 61 (f2, 0, ttl - 1))
    have K7 := Lib.hid (bel_new K5.out (.cells #[.int .i64 f2, .int .i64 0, .int .i64 (ttl - 1)] 61))
    have A8 := Lib.hid (accr_setBelow (p := ⟨w.heap.size + 1, 0, none⟩) (A7.out.lower S5.out) (by show w.heap.size + 1 < w.heap.size + 3; omega) (.slice (some ⟨w5.heap.size, 0, none⟩) 1 1))
    have K8 := Lib.hid (K7.out.setCell (p := ⟨w.heap.size + 1, 0, none⟩) (by show w.heap.size ≤ w.heap.size + 1; omega) (.slice (some ⟨w5.heap.size, 0, none⟩) 1 1))
    have P8 := Lib.hid (P7.set 0 (.slice (some ⟨w5.heap.size, 0, none⟩) 1 1))
    have R8 := Lib.hid ((R5.out.below k7).other (p := ⟨w.heap.size + 1, 0, none⟩) (by simp) (.slice (some ⟨w5.heap.size, 0, none⟩) 1 1))
    have X8 := Lib.hid ((X5.out.below k7).other (p := ⟨w.heap.size + 1, 0, none⟩) (by show w.heap.size + 1 ≠ q; omega) (.slice (some ⟨w5.heap.size, 0, none⟩) 1 1))
    clear p0 p2 g0 q0 g7 P7 k7 A7 K7 K5 P5 R5 X5 x2
    simp only [List.set_cons_zero] at P8
    generalize (w5.alloc (.cells #[.int .i64 f2, .int .i64 0, .int .i64 (ttl - 1)] 61)).setCell ⟨w.heap.size + 1, 0, none⟩ (.slice (some ⟨w5.heap.size, 0, none⟩) 1 1) = w8 at *
    generalize w5.heap.size = z5 at *
    refine region_seq (fun W => W.cell? ⟨q, 1, none⟩ = some (.int .i64 f1) ∧ W.cell? ⟨w.heap.size + 1, 0, none⟩ = some (.slice (some ⟨z5, 0, none⟩) 1 1) ∧ W.cell? ⟨w.heap.size + 1, 1, none⟩ = some (.int .i64 tun) ∧ W.cell? ⟨w.heap.size + 1, 2, none⟩ = some (.int .i64 (ttl - 1)) ∧ W.cell? ⟨w.heap.size + 1, 3, none⟩ = some (.string pay))
      [(0, true), (1, true), (2, true), (3, true), (4, false), (5, true)]
      (by kernel_rfl) (by kernel_rfl) (by kernel_rfl) (by kernel_rfl) (fun _ _ _ _ _ h => h) ⟨X8.out.cell 1, P8.out.cell 0, P8.out.cell 1, P8.out.cell 2, P8.out.cell 3⟩ ?_
    repeat
      refine seq_pure (v := ?_) rfl (by rfl) (fun W hW => ?_) ?_
      rotate_left
      · obtain ⟨d0, d1, d2, d3, d4⟩ := hW
        go_simp
        try with_reducible rfl
      simp only [Act.put, List.setIfInBounds_toArray, List.set_cons_zero, List.set_cons_succ]
    refine seq_make rfl (by rfl) (fun K hK => ?_)
    have r0 : w8.cell? ⟨w.heap.size + 2, 0, none⟩ = some (.slice none 0 0) := R8.out.cell 0
    have r1 : w8.cell? ⟨w.heap.size + 2, 1, none⟩ = some (.int .i64 0) := R8.out.cell 1
    have r2 : w8.cell? ⟨w.heap.size + 2, 2, none⟩ = some (.int .i64 0) := R8.out.cell 2
    have r3 : w8.cell? ⟨w.heap.size + 2, 3, none⟩ = some (.string ⟨#[]⟩) := R8.out.cell 3
    have f0 := R8.out.free 0
    have f1' := R8.out.free 1
    have f2' := R8.out.free 2
    have f3 := R8.out.free 3
    go_simp
    clear r0 r1 r2 r3 f0 f1' f2' f3
    have X9 := Lib.hid (X8.out.other4 (p := w.heap.size + 2) (by omega) (.slice (some ⟨z5, 0, none⟩) 1 1) (.int .i64 tun) (.int .i64 (ttl - 1)) (.string pay))
    have P9 := Lib.hid (P8.out.other4 (p := w.heap.size + 2) (by omega) (.slice (some ⟨z5, 0, none⟩) 1 1) (.int .i64 tun) (.int .i64 (ttl - 1)) (.string pay))
    have R9 := Lib.hid (R8.out.set4 (.slice (some ⟨z5, 0, none⟩) 1 1) (.int .i64 tun) (.int .i64 (ttl - 1)) (.string pay))
    have K9 := Lib.hid (bel_set4 (q := w.heap.size + 2) K8.out (by omega) (.slice (some ⟨z5, 0, none⟩) 1 1) (.int .i64 tun) (.int .i64 (ttl - 1)) (.string pay))
    have A9 := Lib.hid (show AccE ((((w8.setCell ⟨w.heap.size + 2, 0, none⟩ (.slice (some ⟨z5, 0, none⟩) 1 1)).setCell ⟨w.heap.size + 2, 1, none⟩ (.int .i64 tun)).setCell ⟨w.heap.size + 2, 2, none⟩ (.int .i64 (ttl - 1))).setCell ⟨w.heap.size + 2, 3, none⟩ (.string pay)) (w.heap.size + 3) (some ⟨z5, 0, none⟩) 1 [(f2, 0, ttl - 1)] from accr_setBelow (accr_setBelow (accr_setBelow (accr_setBelow A8.out (by show w.heap.size + 2 < w.heap.size + 3; omega) _) (by show w.heap.size + 2 < w.heap.size + 3; omega) _) (by show w.heap.size + 2 < w.heap.size + 3; omega) _) (by show w.heap.size + 2 < w.heap.size + 3; omega) _)
    generalize ((((w8.setCell ⟨w.heap.size + 2, 0, none⟩ (.slice (some ⟨z5, 0, none⟩) 1 1)).setCell ⟨w.heap.size + 2, 1, none⟩ (.int .i64 tun)).setCell ⟨w.heap.size + 2, 2, none⟩ (.int .i64 (ttl - 1))).setCell ⟨w.heap.size + 2, 3, none⟩ (.string pay)) = w9 at *
    refine hK _ _ (fun W => W.cell? ⟨q, 1, none⟩ = some (.int .i64 f1) ∧ W.cell? ⟨w.heap.size + 1, 0, none⟩ = some (.slice (some ⟨z5, 0, none⟩) 1 1) ∧ W.cell? ⟨w.heap.size + 1, 1, none⟩ = some (.int .i64 tun) ∧ W.cell? ⟨w.heap.size + 1, 2, none⟩ = some (.int .i64 (ttl - 1)) ∧ W.cell? ⟨w.heap.size + 1, 3, none⟩ = some (.string pay)) (fun W h => h) ⟨X9.out.cell 1, P9.out.cell 0, P9.out.cell 1, P9.out.cell 2, P9.out.cell 3⟩ ?_
    clear hK K
    repeat
      refine seq_pure (v := ?_) rfl (by rfl) (fun W hW => ?_) ?_
      rotate_left
      · clear hW
        go_simp
        try with_reducible rfl
      simp only [Act.put, List.setIfInBounds_toArray, List.set_cons_zero, List.set_cons_succ]
    refine seq_done ?_
    go_wp2
    have y0 : w9.cell? ⟨w.heap.size + 2, 0, none⟩ = some (.slice (some ⟨z5, 0, none⟩) 1 1) := R9.out.cell 0
    have y1 : w9.cell? ⟨w.heap.size + 2, 1, none⟩ = some (.int .i64 tun) := R9.out.cell 1
    have y2 : w9.cell? ⟨w.heap.size + 2, 2, none⟩ = some (.int .i64 (ttl - 1)) := R9.out.cell 2
    have y3 : w9.cell? ⟨w.heap.size + 2, 3, none⟩ = some (.string pay) := R9.out.cell 3
    refine bodyPost_ret (v := .tuple #[.int .i64 f1, .agg #[.slice (some ⟨z5, 0, none⟩) 1 1, .int .i64 tun, .int .i64 (ttl - 1), .string pay], .int .i64 0]) (by simp [results, Try.results45, go_sem, y0, y1, y2, y3]) rfl ?_
    refine ⟨bel_drewN K9.out 1, .inr ⟨f1, [(f2, 0, ttl - 1)], (ttl - 1), (some ⟨z5, 0, none⟩), 1, ?_, by first | rfl | (simp only [List.length_cons, List.length_nil]; done) | (rw [HLEN]), A9.out.lower (by omega)⟩⟩
    unfold beginR
    rw [HS.out]
    simp only [if_neg hz, if_neg h3]
end Go.Proofs.Ytkbbnfinmipenaa
