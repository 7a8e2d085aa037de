/-
  Contracts of package lfib: begin, forward, Step. Conditions: the table is one that New made; the packet's entries read as a list, of at most 2^40; its numbers are of 64 bits.
-/
import Derived.Test.YtkbbnfinmipenaaLfibC
import Derived.Deep.DeepCutAuto
namespace Go.Proofs.Ytkbbnfinmipenaa
open Go.RowKit Go.Maps

/-- What a step answers: an error, or the node, the entries and the time of the packet as it goes there. -/
def beginR (u : List (Int × Int × Int)) (tun ttl : Int) : Except Int (Int × List (Int × Int × Int) × Int) :=
  match fnd u tun with
  | none => .error 8
  | some p => if ttl = 0 then .error 10 else .ok (p.1, if p.2 = 3 then [] else [(p.2, 0, ttl - 1)], ttl - 1)

def StepPost (w : World) (r : Except Int (Int × List (Int × Int × Int) × Int)) (tun : Int) (pay : ByteArray) (e : Ending) (w' : World) : Prop :=
  Below w.heap.size w w' ∧ ((∃ er, r = .error er ∧ e = .returned (.tuple #[.int .i64 0, .agg #[.slice none 0 0, .int .i64 0, .int .i64 0, .string ⟨#[]⟩], .int .i64 er])) ∨
    ∃ nx es ttl A c, r = .ok (nx, es, ttl) ∧ e = .returned (.tuple #[.int .i64 nx, .agg #[.slice A es.length c, .int .i64 tun, .int .i64 ttl, .string pay], .int .i64 0]) ∧ AccE w' w.heap.size A c es)

theorem stepPost_err {w w' : World} {r : Except Int (Int × List (Int × Int × Int) × Int)} {tun er : Int} {pay : ByteArray} {e : Ending} (hb : Below w.heap.size w w') (hr : r = .error er) (he : e = .returned (.tuple #[.int .i64 0, .agg #[.slice none 0 0, .int .i64 0, .int .i64 0, .string ⟨#[]⟩], .int .i64 er])) : StepPost w r tun pay e w' := ⟨hb, .inl ⟨er, hr, he⟩⟩

section
variable {w : World} {tb lb ub : Nat} {most : Int} {l u : List (Int × Int × Int)}

set_option maxRecDepth 100000 in
set_option maxHeartbeats 1600000 in
theorem begin_calls (h : Tbl w tb lb ub most l u) (a : Option Addr) (n c : Nat) (tun ttl : Int) (pay : ByteArray) (hk : (Lit.int .i64 tun).wf = true) (h0 : 0 ≤ ttl) (h1 : ttl ≤ 255) :
    Calls Try.prog 42 #[.pointer (some ⟨tb, 0, none⟩), .agg #[.slice a n c, .int .i64 tun, .int .i64 ttl, .string pay]] w (StepPost w (beginR u tun ttl) tun pay) := by
  have K0 := Lib.hid (bel_new (bel_new (Below.refl w.heap.size w) (.cells #[.slice a n c, .int .i64 tun, .int .i64 ttl, .string pay] 33)) (.cells #[.slice none 0 0, .int .i64 0, .int .i64 0, .string ⟨#[]⟩] 33))
  have B0 := Lib.hid ((Blk.new w 33 [.slice a n c, .int .i64 tun, .int .i64 ttl, .string pay]).alloc (.cells #[.slice none 0 0, .int .i64 0, .int .i64 0, .string ⟨#[]⟩] 33))
  have R0 := Lib.hid (show Blk ((w.alloc (.cells #[.slice a n c, .int .i64 tun, .int .i64 ttl, .string pay] 33)).alloc (.cells #[.slice none 0 0, .int .i64 0, .int .i64 0, .string ⟨#[]⟩] 33)) (w.heap.size + 1) 33 [.slice none 0 0, .int .i64 0, .int .i64 0, .string ⟨#[]⟩] by
    have := Blk.new (w.alloc (.cells #[.slice a n c, .int .i64 tun, .int .i64 ttl, .string pay] 33)) 33 [.slice none 0 0, .int .i64 0, .int .i64 0, .string ⟨#[]⟩]
    rwa [World.size_alloc] at this)
  have SZ := Lib.hid (show ((w.alloc (.cells #[.slice a n c, .int .i64 tun, .int .i64 ttl, .string pay] 33)).alloc (.cells #[.slice none 0 0, .int .i64 0, .int .i64 0, .string ⟨#[]⟩] 33)).heap.size = w.heap.size + 2 by simp)
  have H1 := Lib.hid (h.below K0.out)
  have HU := Lib.hid h.2.2.2.2.2.2
  have HK := Lib.hid hk
  have hp : (fnd u tun).getD (0, 0) = (((fnd u tun).getD (0, 0)).1, ((fnd u tun).getD (0, 0)).2) := rfl
  generalize hp1 : ((fnd u tun).getD (0, 0)).1 = p1 at hp
  generalize hp2 : ((fnd u tun).getD (0, 0)).2 = p2 at hp
  have hok : (fnd u tun).isSome = (fnd u tun).isSome := rfl
  generalize hok1 : (fnd u tun).isSome = ok at hok
  have HP := Lib.hid hp
  have HOK := Lib.hid hok1
  clear h hk hp hok hp1 hp2 hok1
  go_enter Try.func42, Try.ntmps42
  go_wp2_with fail
  generalize ((w.alloc (.cells #[.slice a n c, .int .i64 tun, .int .i64 ttl, .string pay] 33)).alloc (.cells #[.slice none 0 0, .int .i64 0, .int .i64 0, .string ⟨#[]⟩] 33)) = w1 at *
  have CC := Lib.hid (show w1.cell? ⟨tb, 3, none⟩ = some (.map (some ub)) ∧ w1.cell? ⟨w.heap.size, 1, none⟩ = some (.int .i64 tun) ∧ Outs w1 ub u from ⟨H1.out.c3, B0.out.cell 1, H1.out.2.2.1⟩)
  refine region_seq (fun W => W.cell? ⟨tb, 3, none⟩ = some (.map (some ub)) ∧ W.cell? ⟨w.heap.size, 1, none⟩ = some (.int .i64 tun) ∧ Outs W ub u)
    [(0, true), (1, true), (2, true), (3, true), (4, true), (5, true), (6, true), (7, true), (8, true), (9, true), (10, true), (11, false), (12, false), (13, true)]
    (by kernel_rfl) (by kernel_rfl) (by kernel_rfl) (by kernel_rfl) (fun _ _ _ _ _ h => h) CC.out ?_
  repeat
    refine seq_pure (v := ?_) rfl (by rfl) (fun W hW => ?_) ?_
    rotate_left
    · obtain ⟨d0, d1, ho⟩ := hW
      have hl := look_run ho HK.out HP.out HOK.out
      clear ho
      go_simp
      try with_reducible rfl
    simp only [Act.put, List.setIfInBounds_toArray, List.set_cons_zero, List.set_cons_succ]
  refine seq_make rfl (by rfl) (fun K hK => ?_)
  go_simp
  have K2 := Lib.hid (bel_new (Below.refl w1.heap.size w1) (.cells #[.int .i64 0, .int .i64 0] 30))
  have C2 := Lib.hid (show (w1.alloc (.cells #[.int .i64 0, .int .i64 0] 30)).cell? ⟨tb, 3, none⟩ = some (.map (some ub)) ∧ (w1.alloc (.cells #[.int .i64 0, .int .i64 0] 30)).cell? ⟨w.heap.size, 1, none⟩ = some (.int .i64 tun) ∧ Outs (w1.alloc (.cells #[.int .i64 0, .int .i64 0] 30)) ub u from ⟨(H1.out.below K2.out).c3, (B0.out.below K2.out).cell 1, (H1.out.below K2.out).2.2.1⟩)
  refine hK _ _ (fun W => W.cell? ⟨tb, 3, none⟩ = some (.map (some ub)) ∧ W.cell? ⟨w.heap.size, 1, none⟩ = some (.int .i64 tun) ∧ Outs W ub u) (fun W h => h) C2.out ?_
  clear hK K
  refine seq_make rfl (by rfl) (fun K hK => ?_)
  go_simp
  have K3 := Lib.hid (bel_new (Below.refl w1.heap.size w1) (.cells #[.int .i64 p1, .int .i64 p2] 30))
  have C3 := Lib.hid (show (w1.alloc (.cells #[.int .i64 p1, .int .i64 p2] 30)).cell? ⟨tb, 3, none⟩ = some (.map (some ub)) ∧ (w1.alloc (.cells #[.int .i64 p1, .int .i64 p2] 30)).cell? ⟨w.heap.size, 1, none⟩ = some (.int .i64 tun) ∧ Outs (w1.alloc (.cells #[.int .i64 p1, .int .i64 p2] 30)) ub u from ⟨(H1.out.below K3.out).c3, (B0.out.below K3.out).cell 1, (H1.out.below K3.out).2.2.1⟩)
  refine hK _ _ (fun W => W.cell? ⟨tb, 3, none⟩ = some (.map (some ub)) ∧ W.cell? ⟨w.heap.size, 1, none⟩ = some (.int .i64 tun) ∧ Outs W ub u) (fun W h => h) C3.out ?_
  clear hK K
  have K4 := Lib.hid (show Below w.heap.size w (w1.alloc (.cells #[.int .i64 p1, .int .i64 p2] 30)).drew from bel_drewN (bel_more K0.out (Nat.le_refl _) K3.out) 1)
  have B4 := Lib.hid (show Blk (w1.alloc (.cells #[.int .i64 p1, .int .i64 p2] 30)).drew w.heap.size 33 [.slice a n c, .int .i64 tun, .int .i64 ttl, .string pay] from (B0.out.below K3.out).drew)
  have R4 := Lib.hid (show Blk (w1.alloc (.cells #[.int .i64 p1, .int .i64 p2] 30)).drew (w.heap.size + 1) 33 [.slice none 0 0, .int .i64 0, .int .i64 0, .string ⟨#[]⟩] from (R0.out.below K3.out).drew)
  have O4 := Lib.hid (show Blk (w1.alloc (.cells #[.int .i64 p1, .int .i64 p2] 30)).drew w1.heap.size 30 [.int .i64 p1, .int .i64 p2] from Blk.new w1 _ _)
  clear K0 B0 R0 H1 K2 C2 K3 C3 CC
  rw [SZ.out] at O4 ⊢
  generalize (w1.alloc (.cells #[.int .i64 p1, .int .i64 p2] 30)).drew = w4 at *
  clear SZ
  repeat
    refine seq_pure (v := ?_) rfl (by rfl) (fun W hW => ?_) ?_
    rotate_left
    · clear hW
      go_simp
      try with_reducible rfl
    simp only [Act.put, List.setIfInBounds_toArray, List.set_cons_zero, List.set_cons_succ]
  refine seq_done ?_
  have r0 : w4.cell? ⟨w.heap.size + 1, 0, none⟩ = some (.slice none 0 0) := R4.out.cell 0
  have r1 : w4.cell? ⟨w.heap.size + 1, 1, none⟩ = some (.int .i64 0) := R4.out.cell 1
  have r2 : w4.cell? ⟨w.heap.size + 1, 2, none⟩ = some (.int .i64 0) := R4.out.cell 2
  have r3 : w4.cell? ⟨w.heap.size + 1, 3, none⟩ = some (.string ⟨#[]⟩) := R4.out.cell 3
  have b2 : w4.cell? ⟨w.heap.size, 2, none⟩ = some (.int .i64 ttl) := B4.out.cell 2
  have f0 := R4.out.free 0
  have f1 := R4.out.free 1
  have f2 := R4.out.free 2
  have f3 := R4.out.free 3
  cases ok
  · go_wp2
    have hq := R4.out.set4 (.slice none 0 0) (.int .i64 0) (.int .i64 0) (.string ⟨#[]⟩)
    have y0 := hq.cell 0
    have y1 := hq.cell 1
    have y2 := hq.cell 2
    have y3 := hq.cell 3
    simp only [List.getElem?_cons_zero, List.getElem?_cons_succ] at y0 y1 y2 y3
    refine bodyPost_ret (v := .tuple #[.int .i64 0, .agg #[.slice none 0 0, .int .i64 0, .int .i64 0, .string ⟨#[]⟩], .int .i64 8]) (by simp [results, Try.results42, go_sem, y0, y1, y2, y3]) rfl ?_
    exact stepPost_err (bel_set4 K4.out (by omega) _ _ _ _) (by unfold beginR; rw [Option.isSome_eq_false_iff.1 HOK.out |> Option.isNone_iff_eq_none.1]) rfl
  have hsome : fnd u tun = some (p1, p2) := by
    cases hf : fnd u tun with
    | none => have := HOK.out; rw [hf] at this; cases this
    | some q => have := HP.out; rw [hf] at this; exact congrArg some this
  have HS := Lib.hid hsome
  clear hsome
  by_cases hz : ttl = 0
  · subst hz
    go_wp2
    have hq := R4.out.set4 (.slice none 0 0) (.int .i64 0) (.int .i64 0) (.string ⟨#[]⟩)
    have y0 := hq.cell 0
    have y1 := hq.cell 1
    have y2 := hq.cell 2
    have y3 := hq.cell 3
    simp only [List.getElem?_cons_zero, List.getElem?_cons_succ] at y0 y1 y2 y3
    refine bodyPost_ret (v := .tuple #[.int .i64 0, .agg #[.slice none 0 0, .int .i64 0, .int .i64 0, .string ⟨#[]⟩], .int .i64 10]) (by simp [results, Try.results42, go_sem, y0, y1, y2, y3]) rfl ?_
    exact stepPost_err (bel_set4 K4.out (by omega) _ _ _ _) (by unfold beginR; rw [HS.out]; rfl) rfl
  have g0 := B4.out.free 0
  have g2 := B4.out.free 2
  have b0 : w4.cell? ⟨w.heap.size, 0, none⟩ = some (.slice a n c) := B4.out.cell 0
  go_upto_region 8 with fail
  have K5 := Lib.hid (show Below w.heap.size w ((w4.setCell ⟨w.heap.size, 2, none⟩ (.int .i64 (ttl - 1))).setCell ⟨w.heap.size, 0, none⟩ (.slice none 0 0)) from (K4.out.setCell (p := ⟨w.heap.size, 2, none⟩) (Nat.le_refl _) _).setCell (p := ⟨w.heap.size, 0, none⟩) (Nat.le_refl _) _)
  have B5 := Lib.hid (show Blk ((w4.setCell ⟨w.heap.size, 2, none⟩ (.int .i64 (ttl - 1))).setCell ⟨w.heap.size, 0, none⟩ (.slice none 0 0)) w.heap.size 33 [.slice none 0 0, .int .i64 tun, .int .i64 (ttl - 1), .string pay] from (B4.out.set 2 _).set 0 _)
  have R5 := Lib.hid ((R4.out.other (p := ⟨w.heap.size, 2, none⟩) (by simp) (.int .i64 (ttl - 1))).other (p := ⟨w.heap.size, 0, none⟩) (by simp) (.slice none 0 0))
  have O5 := Lib.hid ((O4.out.other (p := ⟨w.heap.size, 2, none⟩) (by simp) (.int .i64 (ttl - 1))).other (p := ⟨w.heap.size, 0, none⟩) (by simp) (.slice none 0 0))
  clear r0 r1 r2 r3 f0 f1 f2 f3 g0 g2 b0 b2 K4 B4 R4 O4
  generalize ((w4.setCell ⟨w.heap.size, 2, none⟩ (.int .i64 (ttl - 1))).setCell ⟨w.heap.size, 0, none⟩ (.slice none 0 0)) = w5 at *
  have o1 : w5.cell? ⟨w.heap.size + 2, 1, none⟩ = some (.int .i64 p2) := O5.out.cell 1
  by_cases h3 : p2 = 3
  · subst h3
    go_wp2_with fail
    refine region_seq (fun W => W.cell? ⟨w.heap.size + 2, 0, none⟩ = some (.int .i64 p1) ∧ W.cell? ⟨w.heap.size, 0, none⟩ = some (.slice none 0 0) ∧ W.cell? ⟨w.heap.size, 1, none⟩ = some (.int .i64 tun) ∧ W.cell? ⟨w.heap.size, 2, none⟩ = some (.int .i64 (ttl - 1)) ∧ W.cell? ⟨w.heap.size, 3, none⟩ = some (.string pay))
      [(0, true), (1, true), (2, true), (3, true), (4, false), (5, true)]
      (by kernel_rfl) (by kernel_rfl) (by kernel_rfl) (by kernel_rfl) (fun _ _ _ _ _ h => h) ⟨O5.out.cell 0, B5.out.cell 0, B5.out.cell 1, B5.out.cell 2, B5.out.cell 3⟩ ?_
    repeat
      refine seq_pure (v := ?_) rfl (by rfl) (fun W hW => ?_) ?_
      rotate_left
      · obtain ⟨d0, d1, d2, d3, d4⟩ := hW
        go_simp
        try with_reducible rfl
      simp only [Act.put, List.setIfInBounds_toArray, List.set_cons_zero, List.set_cons_succ]
    refine seq_make rfl (by rfl) (fun K hK => ?_)
    have r0 : w5.cell? ⟨w.heap.size + 1, 0, none⟩ = some (.slice none 0 0) := R5.out.cell 0
    have r1 : w5.cell? ⟨w.heap.size + 1, 1, none⟩ = some (.int .i64 0) := R5.out.cell 1
    have r2 : w5.cell? ⟨w.heap.size + 1, 2, none⟩ = some (.int .i64 0) := R5.out.cell 2
    have r3 : w5.cell? ⟨w.heap.size + 1, 3, none⟩ = some (.string ⟨#[]⟩) := R5.out.cell 3
    have f0 := R5.out.free 0
    have f1 := R5.out.free 1
    have f2 := R5.out.free 2
    have f3 := R5.out.free 3
    go_simp
    clear r0 r1 r2 r3 f0 f1 f2 f3
    have O6 := Lib.hid (O5.out.other4 (p := w.heap.size + 1) (by simp) (.slice none 0 0) (.int .i64 tun) (.int .i64 (ttl - 1)) (.string pay))
    have B6 := Lib.hid (B5.out.other4 (p := w.heap.size + 1) (by simp) (.slice none 0 0) (.int .i64 tun) (.int .i64 (ttl - 1)) (.string pay))
    have R6 := Lib.hid (R5.out.set4 (.slice none 0 0) (.int .i64 tun) (.int .i64 (ttl - 1)) (.string pay))
    have K6 := Lib.hid (bel_set4 (q := w.heap.size + 1) K5.out (by omega) (.slice none 0 0) (.int .i64 tun) (.int .i64 (ttl - 1)) (.string pay))
    generalize ((((w5.setCell ⟨w.heap.size + 1, 0, none⟩ (.slice none 0 0)).setCell ⟨w.heap.size + 1, 1, none⟩ (.int .i64 tun)).setCell ⟨w.heap.size + 1, 2, none⟩ (.int .i64 (ttl - 1))).setCell ⟨w.heap.size + 1, 3, none⟩ (.string pay)) = w6 at *
    refine hK _ _ (fun W => W.cell? ⟨w.heap.size + 2, 0, none⟩ = some (.int .i64 p1) ∧ W.cell? ⟨w.heap.size, 0, none⟩ = some (.slice none 0 0) ∧ W.cell? ⟨w.heap.size, 1, none⟩ = some (.int .i64 tun) ∧ W.cell? ⟨w.heap.size, 2, none⟩ = some (.int .i64 (ttl - 1)) ∧ W.cell? ⟨w.heap.size, 3, none⟩ = some (.string pay)) (fun W h => h) ⟨O6.out.cell 0, B6.out.cell 0, B6.out.cell 1, B6.out.cell 2, B6.out.cell 3⟩ ?_
    clear hK K
    repeat
      refine seq_pure (v := ?_) rfl (by rfl) (fun W hW => ?_) ?_
      rotate_left
      · clear hW
        go_simp
        try with_reducible rfl
      simp only [Act.put, List.setIfInBounds_toArray, List.set_cons_zero, List.set_cons_succ]
    refine seq_done ?_
    go_wp2
    have y0 : w6.cell? ⟨w.heap.size + 1, 0, none⟩ = some (.slice none 0 0) := R6.out.cell 0
    have y1 : w6.cell? ⟨w.heap.size + 1, 1, none⟩ = some (.int .i64 tun) := R6.out.cell 1
    have y2 : w6.cell? ⟨w.heap.size + 1, 2, none⟩ = some (.int .i64 (ttl - 1)) := R6.out.cell 2
    have y3 : w6.cell? ⟨w.heap.size + 1, 3, none⟩ = some (.string pay) := R6.out.cell 3
    refine bodyPost_ret (v := .tuple #[.int .i64 p1, .agg #[.slice none 0 0, .int .i64 tun, .int .i64 (ttl - 1), .string pay], .int .i64 0]) (by simp [results, Try.results42, go_sem, y0, y1, y2, y3]) rfl ?_
    refine ⟨bel_drewN K6.out 1, .inr ⟨p1, [], ttl - 1, none, 0, ?_, rfl, AccR.nil _ _ _⟩⟩
    unfold beginR
    rw [HS.out]
    simp only [if_neg hz, if_true]
  · have hn3 : (!(p2 == 3)) = true := by simpa using h3
    have hok : okOut (p1, p2) := (HU.out _ (fnd_mem HS.out)).2
    have hm : mE (p2, 0, ttl - 1) = true := by
      unfold okOut at hok
      simp only at hok
      simp [mE, may, wi]
      omega
    have HE := Lib.hid (show pushL [] (p2, 0, ttl - 1) = [(p2, 0, ttl - 1)] by unfold pushL pushErr; rw [hm]; rfl)
    have HR := Lib.hid R5.out.lt
    have b2 : w5.cell? ⟨w.heap.size, 2, none⟩ = some (.int .i64 (ttl - 1)) := B5.out.cell 2
    clear hm hok
    go_wp2_with fail
    ((with_reducible refine (pushed_calls none 0 0 [] p2 0 (ttl - 1) w5 Row.nil (Nat.zero_le _)).mono ?_))
    rintro e w6 ⟨A, c6, rfl, a6, k6⟩
    rw [HE.out] at a6 ⊢
    have A6 := Lib.hid a6
    have B6 := Lib.hid (B5.out.below k6)
    have R6 := Lib.hid (R5.out.below k6)
    have O6 := Lib.hid (O5.out.below k6)
    have K6 := Lib.hid (bel_more K5.out (Nat.le_refl _) k6)
    have HB := Lib.hid B5.out.lt
    have K50 := Lib.hid K5.out.size
    clear a6 k6 b2 o1 K5 B5 R5 O5
    have b0 : w6.cell? ⟨w.heap.size, 0, none⟩ = some (.slice none 0 0) := B6.out.cell 0
    have g0 := B6.out.free 0
    go_upto_region 10 with fail
    have K7 := Lib.hid (K6.out.setCell (p := ⟨w.heap.size, 0, none⟩) (Nat.le_refl _) (.slice A 1 c6))
    have B7 := Lib.hid (show Blk (w6.setCell ⟨w.heap.size, 0, none⟩ (.slice A 1 c6)) w.heap.size 33 [.slice A 1 c6, .int .i64 tun, .int .i64 (ttl - 1), .string pay] from B6.out.set 0 _)
    have R7 := Lib.hid (R6.out.other (p := ⟨w.heap.size, 0, none⟩) (by simp) (.slice A 1 c6))
    have O7 := Lib.hid (O6.out.other (p := ⟨w.heap.size, 0, none⟩) (by simp) (.slice A 1 c6))
    have A7 := Lib.hid (show AccE (w6.setCell ⟨w.heap.size, 0, none⟩ (.slice A 1 c6)) w5.heap.size A c6 [(p2, 0, ttl - 1)] from accr_setBelow A6.out HB.out _)
    clear K6 B6 R6 O6 A6 b0 g0
    generalize w6.setCell ⟨w.heap.size, 0, none⟩ (.slice A 1 c6) = w7 at *
    refine region_seq (fun W => W.cell? ⟨w.heap.size + 2, 0, none⟩ = some (.int .i64 p1) ∧ W.cell? ⟨w.heap.size, 0, none⟩ = some (.slice A 1 c6) ∧ W.cell? ⟨w.heap.size, 1, none⟩ = some (.int .i64 tun) ∧ W.cell? ⟨w.heap.size, 2, none⟩ = some (.int .i64 (ttl - 1)) ∧ W.cell? ⟨w.heap.size, 3, none⟩ = some (.string pay))
      [(0, true), (1, true), (2, true), (3, true), (4, false), (5, true)]
      (by kernel_rfl) (by kernel_rfl) (by kernel_rfl) (by kernel_rfl) (fun _ _ _ _ _ h => h) ⟨O7.out.cell 0, B7.out.cell 0, B7.out.cell 1, B7.out.cell 2, B7.out.cell 3⟩ ?_
    repeat
      refine seq_pure (v := ?_) rfl (by rfl) (fun W hW => ?_) ?_
      rotate_left
      · obtain ⟨d0, d1, d2, d3, d4⟩ := hW
        go_simp
        try with_reducible rfl
      simp only [Act.put, List.setIfInBounds_toArray, List.set_cons_zero, List.set_cons_succ]
    refine seq_make rfl (by rfl) (fun K hK => ?_)
    have r0 : w7.cell? ⟨w.heap.size + 1, 0, none⟩ = some (.slice none 0 0) := R7.out.cell 0
    have r1 : w7.cell? ⟨w.heap.size + 1, 1, none⟩ = some (.int .i64 0) := R7.out.cell 1
    have r2 : w7.cell? ⟨w.heap.size + 1, 2, none⟩ = some (.int .i64 0) := R7.out.cell 2
    have r3 : w7.cell? ⟨w.heap.size + 1, 3, none⟩ = some (.string ⟨#[]⟩) := R7.out.cell 3
    have f0 := R7.out.free 0
    have f1 := R7.out.free 1
    have f2 := R7.out.free 2
    have f3 := R7.out.free 3
    go_simp
    clear r0 r1 r2 r3 f0 f1 f2 f3
    have O8 := Lib.hid (O7.out.other4 (p := w.heap.size + 1) (by simp) (.slice A 1 c6) (.int .i64 tun) (.int .i64 (ttl - 1)) (.string pay))
    have B8 := Lib.hid (B7.out.other4 (p := w.heap.size + 1) (by simp) (.slice A 1 c6) (.int .i64 tun) (.int .i64 (ttl - 1)) (.string pay))
    have R8 := Lib.hid (R7.out.set4 (.slice A 1 c6) (.int .i64 tun) (.int .i64 (ttl - 1)) (.string pay))
    have K8 := Lib.hid (bel_set4 (q := w.heap.size + 1) K7.out (by omega) (.slice A 1 c6) (.int .i64 tun) (.int .i64 (ttl - 1)) (.string pay))
    have A8 := Lib.hid (show AccE ((((w7.setCell ⟨w.heap.size + 1, 0, none⟩ (.slice A 1 c6)).setCell ⟨w.heap.size + 1, 1, none⟩ (.int .i64 tun)).setCell ⟨w.heap.size + 1, 2, none⟩ (.int .i64 (ttl - 1))).setCell ⟨w.heap.size + 1, 3, none⟩ (.string pay)) w5.heap.size A c6 [(p2, 0, ttl - 1)] from accr_setBelow (accr_setBelow (accr_setBelow (accr_setBelow A7.out HR.out _) HR.out _) HR.out _) HR.out _)
    generalize ((((w7.setCell ⟨w.heap.size + 1, 0, none⟩ (.slice A 1 c6)).setCell ⟨w.heap.size + 1, 1, none⟩ (.int .i64 tun)).setCell ⟨w.heap.size + 1, 2, none⟩ (.int .i64 (ttl - 1))).setCell ⟨w.heap.size + 1, 3, none⟩ (.string pay)) = w8 at *
    refine hK _ _ (fun W => W.cell? ⟨w.heap.size + 2, 0, none⟩ = some (.int .i64 p1) ∧ W.cell? ⟨w.heap.size, 0, none⟩ = some (.slice A 1 c6) ∧ W.cell? ⟨w.heap.size, 1, none⟩ = some (.int .i64 tun) ∧ W.cell? ⟨w.heap.size, 2, none⟩ = some (.int .i64 (ttl - 1)) ∧ W.cell? ⟨w.heap.size, 3, none⟩ = some (.string pay)) (fun W h => h) ⟨O8.out.cell 0, B8.out.cell 0, B8.out.cell 1, B8.out.cell 2, B8.out.cell 3⟩ ?_
    clear hK K
    repeat
      refine seq_pure (v := ?_) rfl (by rfl) (fun W hW => ?_) ?_
      rotate_left
      · clear hW
        go_simp
        try with_reducible rfl
      simp only [Act.put, List.setIfInBounds_toArray, List.set_cons_zero, List.set_cons_succ]
    refine seq_done ?_
    go_wp2
    have y0 : w8.cell? ⟨w.heap.size + 1, 0, none⟩ = some (.slice A 1 c6) := R8.out.cell 0
    have y1 : w8.cell? ⟨w.heap.size + 1, 1, none⟩ = some (.int .i64 tun) := R8.out.cell 1
    have y2 : w8.cell? ⟨w.heap.size + 1, 2, none⟩ = some (.int .i64 (ttl - 1)) := R8.out.cell 2
    have y3 : w8.cell? ⟨w.heap.size + 1, 3, none⟩ = some (.string pay) := R8.out.cell 3
    refine bodyPost_ret (v := .tuple #[.int .i64 p1, .agg #[.slice A 1 c6, .int .i64 tun, .int .i64 (ttl - 1), .string pay], .int .i64 0]) (by simp [results, Try.results42, go_sem, y0, y1, y2, y3]) rfl ?_
    refine ⟨bel_drewN K8.out 1, .inr ⟨p1, [(p2, 0, ttl - 1)], ttl - 1, A, c6, ?_, rfl, A8.out.lower K50.out⟩⟩
    unfold beginR
    rw [HS.out]
    simp only [if_neg hz, if_neg h3]
end
end Go.Proofs.Ytkbbnfinmipenaa
