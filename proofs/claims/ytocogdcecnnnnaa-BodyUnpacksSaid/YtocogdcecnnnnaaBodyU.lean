/-
  Contract of the document's own bytes for layer 7. Conditions: the item is one that may be; its list reads as numbers.
-/
import Derived.Test.YtocogdcecnnnnaaBodyT
import Derived.Test.YtocogdcecnnnnaaBodyQ
namespace Go.Proofs.Ytocogdcecnnnnaa
open Go.RowKit

/-- The pieces of an item's object. -/
def pcs (x : PIt) : List (Nat × Nat) :=
  if x.cl = 1 then [(4, 167772160 + u64 x.a), (2, 0), (2, u64 x.b), (4, 167772160 + u64 x.c)]
  else if x.cl = 3 then [(4, 167772160 + u64 x.a), (4, 0)]
  else if x.cl = 5 then [(4, x.u)]
  else if x.cl = 6 then [(4, 167772160 + u64 x.a), (1, 0), (1, u64 x.b), (2, u64 x.c)]
  else if x.cl = 8 then [(4, 18)]
  else if x.cl = 9 ∨ x.cl = 12 then [(8, x.u)]
  else if x.cl = 10 ∨ x.cl = 11 then [(4, 167772160 + u64 x.a), (2, 0), (2, u64 x.b)]
  else if x.cl = 16 ∨ x.cl = 19 then [(4, u64 x.a)]
  else if x.cl = 20 ∨ x.cl = 21 then x.l.flatMap hopP
  else if x.cl = 23 then [(4, 0), (4, x.u)]
  else [(4, x.w.non), (4, x.w.any), (4, x.w.all), (1, u64 x.w.setup), (1, u64 x.w.hold), (2, 0)]
theorem row_new_pieces (w : World) (ps : List (Nat × Nat)) : Row ep (w.alloc (.cells (ps.flatMap ep).toArray 85)) (w.alloc (.cells (ps.flatMap ep).toArray 85)).heap.size (some ⟨w.heap.size, 0, none⟩) ps.length ps := by
  have h := row_pieces w ps
  rw [World.size_alloc]
  exact h
/-- What bytes answers. -/
def BytPost (w : World) (l : List UInt8) (ty : Int) (e : Ending) (w' : World) : Prop :=
  ∃ A c, e = .returned (.tuple #[.slice A l.length c, .int .i64 ty]) ∧ Acc w' w.heap.size A c l ∧ Below w.heap.size w w'
theorem ndB_yes {n : Int} (h : ndB n = true) : 0 ≤ n ∧ n < 16 := by simpa [ndB] using h
theorem ndsB_yes {l : List Int} (h : ndsB l = true) : l.length ≤ 16 ∧ ∀ x ∈ l, 0 ≤ x ∧ x < 16 := by
  simp only [ndsB, Bool.and_eq_true, decide_eq_true_eq, List.all_eq_true] at h
  exact ⟨h.1, fun x hx => ndB_yes (h.2 x hx)⟩
theorem u64_lt (n : Int) : u64 n < 18446744073709551616 := by unfold u64; omega
/-- Pieces that were laid out just now. -/
theorem laid_new (V : World) (ps : List (Nat × Nat)) (hn : ps.length ≤ 100) (hok : ∀ q ∈ ps, q.1 ≤ 8 ∧ q.2 < 18446744073709551616) :
    Calls Try.prog 40 #[.slice (some ⟨V.heap.size, 0, none⟩) ps.length ps.length] (V.alloc (.cells (ps.flatMap ep).toArray 85)) (LaidPost (V.alloc (.cells (ps.flatMap ep).toArray 85)) (pcL ps)) :=
  laid_calls _ _ _ ps _ (row_new_pieces V ps) hn hok

set_option maxRecDepth 100000 in
set_option maxHeartbeats 6400000 in
theorem rbytes_calls (x : It) (w : World) (h : Fine w w.heap.size x) (hc : condB x.val = true) :
    Calls Try.prog 23 #[.agg x.cells.toArray] w (BytPost w (pcL (pcs x.val)) (knd x.cl)) := by
  have HX := Lib.hid h
  have H0 := Lib.hid (Blk.new w 28 x.cells)
  have HB := Lib.hid (bel_new (Below.refl w.heap.size w) (.cells x.cells.toArray 28))
  have hu := h.u
  have hwa := h.any
  have hwl := h.all
  have hwn := h.non
  clear h
  obtain ⟨xcl, xa, xb, xc, xu, xla, xln, xlc, xl, xbw, xsu, xho, xan, xal, xno⟩ := x
  simp only [It.cells, It.val] at H0 HB hc hu hwa hwl hwn ⊢
  go_enter Try.func23, Try.ntmps23
  go_upto_region 1 with fail
  revert H0 HB
  generalize World.alloc w _ = W1
  intro H0 HB
  have x0 := H0.out.cell 0
  simp only [List.getElem?_cons_zero] at x0
  by_cases e0 : xcl = 1
  · subst e0
    obtain ⟨k1, k2, k3⟩ : ndB xa = true ∧ smB xb = true ∧ ndB xc = true := by simpa [condB] using hc
    obtain ⟨v1, ev1⟩ : ∃ v, v = 167772160 + u64 xa := ⟨_, rfl⟩
    have cv1 := fun W => addr7_calls xa v1 ev1 W (ndB_yes k1).1 (ndB_yes k1).2
    have bv1 : v1 < 18446744073709551616 := by have := ndB_yes k1; rw [ev1]; unfold u64; omega
    have Ev1 := Lib.hid ev1
    have cv2 := num7_calls 2 0 0 (by decide)
    obtain ⟨v3, ev3⟩ : ∃ v, v = u64 xb := ⟨_, rfl⟩
    have cv3 := num7_calls 2 xb v3 ev3
    have bv3 : v3 < 18446744073709551616 := by rw [ev3]; exact u64_lt _
    have Ev3 := Lib.hid ev3
    obtain ⟨v4, ev4⟩ : ∃ v, v = 167772160 + u64 xc := ⟨_, rfl⟩
    have cv4 := fun W => addr7_calls xc v4 ev4 W (ndB_yes k3).1 (ndB_yes k3).2
    have bv4 : v4 < 18446744073709551616 := by have := ndB_yes k3; rw [ev4]; unfold u64; omega
    have Ev4 := Lib.hid ev4
    have HPC := Lib.hid (show pcs ⟨1, xa, xb, xc, xu, xl, ⟨xbw, xsu, xho, xan, xal, xno⟩⟩ = [(4, v1), (2, 0), (2, v3), (4, v4)] by simp [pcs, ev1, ev3, ev4])
    have HKN := Lib.hid (show knd 1 = 7 by decide)
    have hl : ∀ V : World, Calls Try.prog 40 #[.slice (some ⟨V.heap.size, 0, none⟩) 4 4] (V.alloc (.cells #[.int .i64 4, .int .u64 (v1 : Int), .int .i64 2, .int .u64 0, .int .i64 2, .int .u64 (v3 : Int), .int .i64 4, .int .u64 (v4 : Int)] 85)) (LaidPost (V.alloc (.cells #[.int .i64 4, .int .u64 (v1 : Int), .int .i64 2, .int .u64 0, .int .i64 2, .int .u64 (v3 : Int), .int .i64 4, .int .u64 (v4 : Int)] 85)) (pcL [(4, v1), (2, 0), (2, v3), (4, v4)])) := fun V => laid_new V [(4, v1), (2, 0), (2, v3), (4, v4)] (by simp) (by
      intro q hq
      simp only [List.mem_cons, List.not_mem_nil, or_false] at hq
      rcases hq with rfl | rfl | rfl | rfl
      all_goals exact ⟨by simp, by simp only; omega⟩)
    clear ev1 ev3 ev4
    go_wp2_with fail
    refine region_seq (fun W => Below W1.heap.size W1 W)
      [(0, true), (1, true), (4, true), (5, true), (7, true), (8, true), (2, false), (3, false), (6, false), (9, false), (10, false), (11, false), (12, true), (13, true)]
      (by kernel_rfl) (by kernel_rfl) (by kernel_rfl) (by kernel_rfl) (fun _ _ _ _ _ h => h) ⟨rfl, rfl, rfl, Nat.le_refl _, fun _ _ => rfl⟩ ?_
    repeat
      first
      | (refine seq_pure (v := ?_) rfl (by rfl) (fun W hW => ?_) ?_
         rotate_left
         · clear hW
           go_simp
           with_reducible rfl
         simp only [Act.put, List.setIfInBounds_toArray, List.set_cons_zero, List.set_cons_succ])
      | (refine seq_pure (v := ?_) rfl (by rfl) (fun W hW => ?_) ?_
         rotate_left
         · have a0 := (H0.out.below hW).cell 0
           have a1 := (H0.out.below hW).cell 1
           have a2 := (H0.out.below hW).cell 2
           have a3 := (H0.out.below hW).cell 3
           have a4 := (H0.out.below hW).cell 4
           simp only [List.getElem?_cons_zero, List.getElem?_cons_succ] at a0 a1 a2 a3 a4
           go_simp
           with_reducible rfl
         simp only [Act.put, List.setIfInBounds_toArray, List.set_cons_zero, List.set_cons_succ])
      | (refine seq_skip rfl (by rfl) ?_
         simp only [Act.put, List.setIfInBounds_toArray, List.set_cons_zero, List.set_cons_succ])
    refine seq_make rfl (by rfl) (fun K hK => ?_)
    go_simp
    ((with_reducible refine (cv1 _).mono ?_))
    rintro e V0 ⟨rfl, hb⟩
    have B0 := Lib.hid (show Below W1.heap.size W1 V0 from below_of_drew hb)
    clear hb
    go_simp
    refine hK _ _ (fun W => Below W1.heap.size W1 W) (fun W h => h) B0.out ?_
    clear hK K
    refine seq_make rfl (by rfl) (fun K hK => ?_)
    go_simp
    ((with_reducible refine (cv2 _).mono ?_))
    rintro e V1 ⟨rfl, hb⟩
    have B1 := Lib.hid (show Below W1.heap.size W1 V1 from bel_more B0.out (Nat.le_refl _) hb)
    clear hb
    go_simp
    refine hK _ _ (fun W => Below W1.heap.size W1 W) (fun W h => h) B1.out ?_
    clear hK K
    refine seq_make rfl (by rfl) (fun K hK => ?_)
    go_simp
    ((with_reducible refine (cv3 _).mono ?_))
    rintro e V2 ⟨rfl, hb⟩
    have B2 := Lib.hid (show Below W1.heap.size W1 V2 from bel_more B1.out (Nat.le_refl _) hb)
    clear hb
    go_simp
    refine hK _ _ (fun W => Below W1.heap.size W1 W) (fun W h => h) B2.out ?_
    clear hK K
    refine seq_make rfl (by rfl) (fun K hK => ?_)
    go_simp
    ((with_reducible refine (cv4 _).mono ?_))
    rintro e V3 ⟨rfl, hb⟩
    have B3 := Lib.hid (show Below W1.heap.size W1 V3 from bel_more B2.out (Nat.le_refl _) hb)
    clear hb
    go_simp
    refine hK _ _ (fun W => Below W1.heap.size W1 W) (fun W h => h) B3.out ?_
    clear hK K
    refine seq_make rfl (by rfl) (fun K hK => ?_)
    go_simp
    refine hK _ _ (fun W => Below W1.heap.size W1 W) (fun W h => h) (bel_new B3.out _) ?_
    clear hK K
    refine seq_make rfl (by rfl) (fun K hK => ?_)
    go_simp
    ((with_reducible refine (hl _).mono ?_))
    rintro e V9 ⟨A, c, rfl, ha, hb⟩
    have bn := bel_more (bel_new B3.out (.cells #[.int .i64 4, .int .u64 (v1 : Int), .int .i64 2, .int .u64 0, .int .i64 2, .int .u64 (v3 : Int), .int .i64 4, .int .u64 (v4 : Int)] 85)) (Nat.le_refl _) hb
    have BN := Lib.hid bn
    have HA := Lib.hid (ha.lower (Nat.le_trans HB.out.size (bel_new B3.out (.cells #[.int .i64 4, .int .u64 (v1 : Int), .int .i64 2, .int .u64 0, .int .i64 2, .int .u64 (v3 : Int), .int .i64 4, .int .u64 (v4 : Int)] 85)).size))
    have HBB := Lib.hid (bel_more HB.out (Nat.le_refl _) bn)
    clear ha hb bn
    go_simp
    refine hK _ _ (fun W => Below W1.heap.size W1 W) (fun W h => h) BN.out ?_
    clear hK K
    repeat
      first
      | (refine seq_pure (v := ?_) rfl (by rfl) (fun W hW => ?_) ?_
         rotate_left
         · clear hW
           go_simp
           with_reducible rfl
         simp only [Act.put, List.setIfInBounds_toArray, List.set_cons_zero, List.set_cons_succ])
      | (refine seq_skip rfl (by rfl) ?_
         simp only [Act.put, List.setIfInBounds_toArray, List.set_cons_zero, List.set_cons_succ])
    refine seq_done ?_
    go_wp2
    go_ret2
    rw [HPC.out, HKN.out]
    exact ⟨A, c, rfl, HA.out, HBB.out⟩
  by_cases e1 : xcl = 3
  · subst e1
    have k1 : ndB xa = true := by simpa [condB] using hc
    obtain ⟨v1, ev1⟩ : ∃ v, v = 167772160 + u64 xa := ⟨_, rfl⟩
    have cv1 := fun W => addr7_calls xa v1 ev1 W (ndB_yes k1).1 (ndB_yes k1).2
    have bv1 : v1 < 18446744073709551616 := by have := ndB_yes k1; rw [ev1]; unfold u64; omega
    have Ev1 := Lib.hid ev1
    have cv2 := num7_calls 4 0 0 (by decide)
    have HPC := Lib.hid (show pcs ⟨3, xa, xb, xc, xu, xl, ⟨xbw, xsu, xho, xan, xal, xno⟩⟩ = [(4, v1), (4, 0)] by simp [pcs, ev1])
    have HKN := Lib.hid (show knd 3 = 1 by decide)
    have hl : ∀ V : World, Calls Try.prog 40 #[.slice (some ⟨V.heap.size, 0, none⟩) 2 2] (V.alloc (.cells #[.int .i64 4, .int .u64 (v1 : Int), .int .i64 4, .int .u64 0] 85)) (LaidPost (V.alloc (.cells #[.int .i64 4, .int .u64 (v1 : Int), .int .i64 4, .int .u64 0] 85)) (pcL [(4, v1), (4, 0)])) := fun V => laid_new V [(4, v1), (4, 0)] (by simp) (by
      intro q hq
      simp only [List.mem_cons, List.not_mem_nil, or_false] at hq
      rcases hq with rfl | rfl
      all_goals exact ⟨by simp, by simp only; omega⟩)
    clear ev1
    have a1 := H0.out.cell 1
    simp only [List.getElem?_cons_zero, List.getElem?_cons_succ] at a1
    go_wp2_with fail
    ((with_reducible refine (cv1 _).mono ?_))
    rintro e V0 ⟨rfl, hb⟩
    have B0 := Lib.hid (bel_more HB.out (Nat.le_refl _) hb)
    clear hb
    go_wp2_with fail
    ((with_reducible refine (cv2 _).mono ?_))
    rintro e V1 ⟨rfl, hb⟩
    have B1 := Lib.hid (bel_more B0.out (Nat.le_refl _) hb)
    clear hb
    go_wp2_with fail
    ((with_reducible refine (hl _).mono ?_))
    rintro e V9 ⟨A, c, rfl, ha, hb⟩
    have HA := Lib.hid (ha.lower (bel_new B1.out (.cells #[.int .i64 4, .int .u64 (v1 : Int), .int .i64 4, .int .u64 0] 85)).size)
    have HBB := Lib.hid (bel_more (bel_new B1.out (.cells #[.int .i64 4, .int .u64 (v1 : Int), .int .i64 4, .int .u64 0] 85)) (Nat.le_refl _) hb)
    clear ha hb
    go_wp2
    go_ret2
    rw [HPC.out, HKN.out]
    exact ⟨A, c, rfl, HA.out, HBB.out⟩
  by_cases e2 : xcl = 5
  · subst e2
    have HPC := Lib.hid (show pcs ⟨5, xa, xb, xc, xu, xl, ⟨xbw, xsu, xho, xan, xal, xno⟩⟩ = [(4, xu)] by simp [pcs])
    have HKN := Lib.hid (show knd 5 = 1 by decide)
    have hl : ∀ V : World, Calls Try.prog 40 #[.slice (some ⟨V.heap.size, 0, none⟩) 1 1] (V.alloc (.cells #[.int .i64 4, .int .u64 (xu : Int)] 85)) (LaidPost (V.alloc (.cells #[.int .i64 4, .int .u64 (xu : Int)] 85)) (pcL [(4, xu)])) := fun V => laid_new V [(4, xu)] (by simp) (by
      intro q hq
      simp only [List.mem_cons, List.not_mem_nil, or_false] at hq
      subst hq
      exact ⟨by simp, by simp only; omega⟩)
    have a4 := H0.out.cell 4
    simp only [List.getElem?_cons_zero, List.getElem?_cons_succ] at a4
    go_wp2_with fail
    ((with_reducible refine (hl _).mono ?_))
    rintro e V9 ⟨A, c, rfl, ha, hb⟩
    have HA := Lib.hid (ha.lower (bel_new HB.out (.cells #[.int .i64 4, .int .u64 (xu : Int)] 85)).size)
    have HBB := Lib.hid (bel_more (bel_new HB.out (.cells #[.int .i64 4, .int .u64 (xu : Int)] 85)) (Nat.le_refl _) hb)
    clear ha hb
    go_wp2
    go_ret2
    rw [HPC.out, HKN.out]
    exact ⟨A, c, rfl, HA.out, HBB.out⟩
  by_cases e3 : xcl = 6
  · subst e3
    have k1 : ndB xa = true := by simp [condB] at hc; exact hc.1
    obtain ⟨v1, ev1⟩ : ∃ v, v = 167772160 + u64 xa := ⟨_, rfl⟩
    have cv1 := fun W => addr7_calls xa v1 ev1 W (ndB_yes k1).1 (ndB_yes k1).2
    have bv1 : v1 < 18446744073709551616 := by have := ndB_yes k1; rw [ev1]; unfold u64; omega
    have Ev1 := Lib.hid ev1
    have cv2 := num7_calls 1 0 0 (by decide)
    obtain ⟨v3, ev3⟩ : ∃ v, v = u64 xb := ⟨_, rfl⟩
    have cv3 := num7_calls 1 xb v3 ev3
    have bv3 : v3 < 18446744073709551616 := by rw [ev3]; exact u64_lt _
    have Ev3 := Lib.hid ev3
    obtain ⟨v4, ev4⟩ : ∃ v, v = u64 xc := ⟨_, rfl⟩
    have cv4 := num7_calls 2 xc v4 ev4
    have bv4 : v4 < 18446744073709551616 := by rw [ev4]; exact u64_lt _
    have Ev4 := Lib.hid ev4
    have HPC := Lib.hid (show pcs ⟨6, xa, xb, xc, xu, xl, ⟨xbw, xsu, xho, xan, xal, xno⟩⟩ = [(4, v1), (1, 0), (1, v3), (2, v4)] by simp [pcs, ev1, ev3, ev4])
    have HKN := Lib.hid (show knd 6 = 1 by decide)
    have hl : ∀ V : World, Calls Try.prog 40 #[.slice (some ⟨V.heap.size, 0, none⟩) 4 4] (V.alloc (.cells #[.int .i64 4, .int .u64 (v1 : Int), .int .i64 1, .int .u64 0, .int .i64 1, .int .u64 (v3 : Int), .int .i64 2, .int .u64 (v4 : Int)] 85)) (LaidPost (V.alloc (.cells #[.int .i64 4, .int .u64 (v1 : Int), .int .i64 1, .int .u64 0, .int .i64 1, .int .u64 (v3 : Int), .int .i64 2, .int .u64 (v4 : Int)] 85)) (pcL [(4, v1), (1, 0), (1, v3), (2, v4)])) := fun V => laid_new V [(4, v1), (1, 0), (1, v3), (2, v4)] (by simp) (by
      intro q hq
      simp only [List.mem_cons, List.not_mem_nil, or_false] at hq
      rcases hq with rfl | rfl | rfl | rfl
      all_goals exact ⟨by simp, by simp only; omega⟩)
    clear ev1 ev3 ev4
    go_wp2_with fail
    refine region_seq (fun W => Below W1.heap.size W1 W)
      [(0, true), (1, true), (4, true), (5, true), (7, true), (8, true), (2, false), (3, false), (6, false), (9, false), (10, false), (11, false), (12, true), (13, true)]
      (by kernel_rfl) (by kernel_rfl) (by kernel_rfl) (by kernel_rfl) (fun _ _ _ _ _ h => h) ⟨rfl, rfl, rfl, Nat.le_refl _, fun _ _ => rfl⟩ ?_
    repeat
      first
      | (refine seq_pure (v := ?_) rfl (by rfl) (fun W hW => ?_) ?_
         rotate_left
         · clear hW
           go_simp
           with_reducible rfl
         simp only [Act.put, List.setIfInBounds_toArray, List.set_cons_zero, List.set_cons_succ])
      | (refine seq_pure (v := ?_) rfl (by rfl) (fun W hW => ?_) ?_
         rotate_left
         · have a0 := (H0.out.below hW).cell 0
           have a1 := (H0.out.below hW).cell 1
           have a2 := (H0.out.below hW).cell 2
           have a3 := (H0.out.below hW).cell 3
           have a4 := (H0.out.below hW).cell 4
           simp only [List.getElem?_cons_zero, List.getElem?_cons_succ] at a0 a1 a2 a3 a4
           go_simp
           with_reducible rfl
         simp only [Act.put, List.setIfInBounds_toArray, List.set_cons_zero, List.set_cons_succ])
      | (refine seq_skip rfl (by rfl) ?_
         simp only [Act.put, List.setIfInBounds_toArray, List.set_cons_zero, List.set_cons_succ])
    refine seq_make rfl (by rfl) (fun K hK => ?_)
    go_simp
    ((with_reducible refine (cv1 _).mono ?_))
    rintro e V0 ⟨rfl, hb⟩
    have B0 := Lib.hid (show Below W1.heap.size W1 V0 from below_of_drew hb)
    clear hb
    go_simp
    refine hK _ _ (fun W => Below W1.heap.size W1 W) (fun W h => h) B0.out ?_
    clear hK K
    refine seq_make rfl (by rfl) (fun K hK => ?_)
    go_simp
    ((with_reducible refine (cv2 _).mono ?_))
    rintro e V1 ⟨rfl, hb⟩
    have B1 := Lib.hid (show Below W1.heap.size W1 V1 from bel_more B0.out (Nat.le_refl _) hb)
    clear hb
    go_simp
    refine hK _ _ (fun W => Below W1.heap.size W1 W) (fun W h => h) B1.out ?_
    clear hK K
    refine seq_make rfl (by rfl) (fun K hK => ?_)
    go_simp
    ((with_reducible refine (cv3 _).mono ?_))
    rintro e V2 ⟨rfl, hb⟩
    have B2 := Lib.hid (show Below W1.heap.size W1 V2 from bel_more B1.out (Nat.le_refl _) hb)
    clear hb
    go_simp
    refine hK _ _ (fun W => Below W1.heap.size W1 W) (fun W h => h) B2.out ?_
    clear hK K
    refine seq_make rfl (by rfl) (fun K hK => ?_)
    go_simp
    ((with_reducible refine (cv4 _).mono ?_))
    rintro e V3 ⟨rfl, hb⟩
    have B3 := Lib.hid (show Below W1.heap.size W1 V3 from bel_more B2.out (Nat.le_refl _) hb)
    clear hb
    go_simp
    refine hK _ _ (fun W => Below W1.heap.size W1 W) (fun W h => h) B3.out ?_
    clear hK K
    refine seq_make rfl (by rfl) (fun K hK => ?_)
    go_simp
    refine hK _ _ (fun W => Below W1.heap.size W1 W) (fun W h => h) (bel_new B3.out _) ?_
    clear hK K
    refine seq_make rfl (by rfl) (fun K hK => ?_)
    go_simp
    ((with_reducible refine (hl _).mono ?_))
    rintro e V9 ⟨A, c, rfl, ha, hb⟩
    have bn := bel_more (bel_new B3.out (.cells #[.int .i64 4, .int .u64 (v1 : Int), .int .i64 1, .int .u64 0, .int .i64 1, .int .u64 (v3 : Int), .int .i64 2, .int .u64 (v4 : Int)] 85)) (Nat.le_refl _) hb
    have BN := Lib.hid bn
    have HA := Lib.hid (ha.lower (Nat.le_trans HB.out.size (bel_new B3.out (.cells #[.int .i64 4, .int .u64 (v1 : Int), .int .i64 1, .int .u64 0, .int .i64 1, .int .u64 (v3 : Int), .int .i64 2, .int .u64 (v4 : Int)] 85)).size))
    have HBB := Lib.hid (bel_more HB.out (Nat.le_refl _) bn)
    clear ha hb bn
    go_simp
    refine hK _ _ (fun W => Below W1.heap.size W1 W) (fun W h => h) BN.out ?_
    clear hK K
    repeat
      first
      | (refine seq_pure (v := ?_) rfl (by rfl) (fun W hW => ?_) ?_
         rotate_left
         · clear hW
           go_simp
           with_reducible rfl
         simp only [Act.put, List.setIfInBounds_toArray, List.set_cons_zero, List.set_cons_succ])
      | (refine seq_skip rfl (by rfl) ?_
         simp only [Act.put, List.setIfInBounds_toArray, List.set_cons_zero, List.set_cons_succ])
    refine seq_done ?_
    go_wp2
    go_ret2
    rw [HPC.out, HKN.out]
    exact ⟨A, c, rfl, HA.out, HBB.out⟩
  by_cases e4 : xcl = 8
  · subst e4
    have cv1 := num7_calls 4 18 18 (by decide)
    have HPC := Lib.hid (show pcs ⟨8, xa, xb, xc, xu, xl, ⟨xbw, xsu, xho, xan, xal, xno⟩⟩ = [(4, 18)] by simp [pcs])
    have HKN := Lib.hid (show knd 8 = 1 by decide)
    have hl : ∀ V : World, Calls Try.prog 40 #[.slice (some ⟨V.heap.size, 0, none⟩) 1 1] (V.alloc (.cells #[.int .i64 4, .int .u64 18] 85)) (LaidPost (V.alloc (.cells #[.int .i64 4, .int .u64 18] 85)) (pcL [(4, 18)])) := fun V => laid_new V [(4, 18)] (by simp) (by
      intro q hq
      simp only [List.mem_cons, List.not_mem_nil, or_false] at hq
      subst hq
      exact ⟨by simp, by simp only; omega⟩)
    go_wp2_with fail
    ((with_reducible refine (cv1 _).mono ?_))
    rintro e V0 ⟨rfl, hb⟩
    have B0 := Lib.hid (bel_more HB.out (Nat.le_refl _) hb)
    clear hb
    go_wp2_with fail
    ((with_reducible refine (hl _).mono ?_))
    rintro e V9 ⟨A, c, rfl, ha, hb⟩
    have HA := Lib.hid (ha.lower (bel_new B0.out (.cells #[.int .i64 4, .int .u64 18] 85)).size)
    have HBB := Lib.hid (bel_more (bel_new B0.out (.cells #[.int .i64 4, .int .u64 18] 85)) (Nat.le_refl _) hb)
    clear ha hb
    go_wp2
    go_ret2
    rw [HPC.out, HKN.out]
    exact ⟨A, c, rfl, HA.out, HBB.out⟩
  by_cases e5 : xcl = 9
  · subst e5
    have HPC := Lib.hid (show pcs ⟨9, xa, xb, xc, xu, xl, ⟨xbw, xsu, xho, xan, xal, xno⟩⟩ = [(8, xu)] by simp [pcs])
    have HKN := Lib.hid (show knd 9 = 2 by decide)
    have hl : ∀ V : World, Calls Try.prog 40 #[.slice (some ⟨V.heap.size, 0, none⟩) 1 1] (V.alloc (.cells #[.int .i64 8, .int .u64 (xu : Int)] 85)) (LaidPost (V.alloc (.cells #[.int .i64 8, .int .u64 (xu : Int)] 85)) (pcL [(8, xu)])) := fun V => laid_new V [(8, xu)] (by simp) (by
      intro q hq
      simp only [List.mem_cons, List.not_mem_nil, or_false] at hq
      subst hq
      exact ⟨by simp, by simp only; omega⟩)
    have a4 := H0.out.cell 4
    simp only [List.getElem?_cons_zero, List.getElem?_cons_succ] at a4
    go_wp2_with fail
    ((with_reducible refine (hl _).mono ?_))
    rintro e V9 ⟨A, c, rfl, ha, hb⟩
    have HA := Lib.hid (ha.lower (bel_new HB.out (.cells #[.int .i64 8, .int .u64 (xu : Int)] 85)).size)
    have HBB := Lib.hid (bel_more (bel_new HB.out (.cells #[.int .i64 8, .int .u64 (xu : Int)] 85)) (Nat.le_refl _) hb)
    clear ha hb
    go_wp2
    go_ret2
    rw [HPC.out, HKN.out]
    exact ⟨A, c, rfl, HA.out, HBB.out⟩
  by_cases e6 : xcl = 12
  · subst e6
    have HPC := Lib.hid (show pcs ⟨12, xa, xb, xc, xu, xl, ⟨xbw, xsu, xho, xan, xal, xno⟩⟩ = [(8, xu)] by simp [pcs])
    have HKN := Lib.hid (show knd 12 = 2 by decide)
    have hl : ∀ V : World, Calls Try.prog 40 #[.slice (some ⟨V.heap.size, 0, none⟩) 1 1] (V.alloc (.cells #[.int .i64 8, .int .u64 (xu : Int)] 85)) (LaidPost (V.alloc (.cells #[.int .i64 8, .int .u64 (xu : Int)] 85)) (pcL [(8, xu)])) := fun V => laid_new V [(8, xu)] (by simp) (by
      intro q hq
      simp only [List.mem_cons, List.not_mem_nil, or_false] at hq
      subst hq
      exact ⟨by simp, by simp only; omega⟩)
    have a4 := H0.out.cell 4
    simp only [List.getElem?_cons_zero, List.getElem?_cons_succ] at a4
    go_wp2_with fail
    ((with_reducible refine (hl _).mono ?_))
    rintro e V9 ⟨A, c, rfl, ha, hb⟩
    have HA := Lib.hid (ha.lower (bel_new HB.out (.cells #[.int .i64 8, .int .u64 (xu : Int)] 85)).size)
    have HBB := Lib.hid (bel_more (bel_new HB.out (.cells #[.int .i64 8, .int .u64 (xu : Int)] 85)) (Nat.le_refl _) hb)
    clear ha hb
    go_wp2
    go_ret2
    rw [HPC.out, HKN.out]
    exact ⟨A, c, rfl, HA.out, HBB.out⟩
  by_cases e7 : xcl = 10
  · subst e7
    obtain ⟨k1, k2⟩ : ndB xa = true ∧ smB xb = true := by simpa [condB] using hc
    obtain ⟨v1, ev1⟩ : ∃ v, v = 167772160 + u64 xa := ⟨_, rfl⟩
    have cv1 := fun W => addr7_calls xa v1 ev1 W (ndB_yes k1).1 (ndB_yes k1).2
    have bv1 : v1 < 18446744073709551616 := by have := ndB_yes k1; rw [ev1]; unfold u64; omega
    have Ev1 := Lib.hid ev1
    have cv2 := num7_calls 2 0 0 (by decide)
    obtain ⟨v3, ev3⟩ : ∃ v, v = u64 xb := ⟨_, rfl⟩
    have cv3 := num7_calls 2 xb v3 ev3
    have bv3 : v3 < 18446744073709551616 := by rw [ev3]; exact u64_lt _
    have Ev3 := Lib.hid ev3
    have HPC := Lib.hid (show pcs ⟨10, xa, xb, xc, xu, xl, ⟨xbw, xsu, xho, xan, xal, xno⟩⟩ = [(4, v1), (2, 0), (2, v3)] by simp [pcs, ev1, ev3])
    have HKN := Lib.hid (show knd 10 = 7 by decide)
    have hl : ∀ V : World, Calls Try.prog 40 #[.slice (some ⟨V.heap.size, 0, none⟩) 3 3] (V.alloc (.cells #[.int .i64 4, .int .u64 (v1 : Int), .int .i64 2, .int .u64 0, .int .i64 2, .int .u64 (v3 : Int)] 85)) (LaidPost (V.alloc (.cells #[.int .i64 4, .int .u64 (v1 : Int), .int .i64 2, .int .u64 0, .int .i64 2, .int .u64 (v3 : Int)] 85)) (pcL [(4, v1), (2, 0), (2, v3)])) := fun V => laid_new V [(4, v1), (2, 0), (2, v3)] (by simp) (by
      intro q hq
      simp only [List.mem_cons, List.not_mem_nil, or_false] at hq
      rcases hq with rfl | rfl | rfl
      all_goals exact ⟨by simp, by simp only; omega⟩)
    clear ev1 ev3
    go_wp2_with fail
    refine region_seq (fun W => Below W1.heap.size W1 W)
      [(0, true), (1, true), (4, true), (5, true), (2, false), (3, false), (6, false), (7, false), (8, false), (9, true), (10, true)]
      (by kernel_rfl) (by kernel_rfl) (by kernel_rfl) (by kernel_rfl) (fun _ _ _ _ _ h => h) ⟨rfl, rfl, rfl, Nat.le_refl _, fun _ _ => rfl⟩ ?_
    repeat
      first
      | (refine seq_pure (v := ?_) rfl (by rfl) (fun W hW => ?_) ?_
         rotate_left
         · clear hW
           go_simp
           with_reducible rfl
         simp only [Act.put, List.setIfInBounds_toArray, List.set_cons_zero, List.set_cons_succ])
      | (refine seq_pure (v := ?_) rfl (by rfl) (fun W hW => ?_) ?_
         rotate_left
         · have a0 := (H0.out.below hW).cell 0
           have a1 := (H0.out.below hW).cell 1
           have a2 := (H0.out.below hW).cell 2
           have a3 := (H0.out.below hW).cell 3
           have a4 := (H0.out.below hW).cell 4
           simp only [List.getElem?_cons_zero, List.getElem?_cons_succ] at a0 a1 a2 a3 a4
           go_simp
           with_reducible rfl
         simp only [Act.put, List.setIfInBounds_toArray, List.set_cons_zero, List.set_cons_succ])
      | (refine seq_skip rfl (by rfl) ?_
         simp only [Act.put, List.setIfInBounds_toArray, List.set_cons_zero, List.set_cons_succ])
    refine seq_make rfl (by rfl) (fun K hK => ?_)
    go_simp
    ((with_reducible refine (cv1 _).mono ?_))
    rintro e V0 ⟨rfl, hb⟩
    have B0 := Lib.hid (show Below W1.heap.size W1 V0 from below_of_drew hb)
    clear hb
    go_simp
    refine hK _ _ (fun W => Below W1.heap.size W1 W) (fun W h => h) B0.out ?_
    clear hK K
    refine seq_make rfl (by rfl) (fun K hK => ?_)
    go_simp
    ((with_reducible refine (cv2 _).mono ?_))
    rintro e V1 ⟨rfl, hb⟩
    have B1 := Lib.hid (show Below W1.heap.size W1 V1 from bel_more B0.out (Nat.le_refl _) hb)
    clear hb
    go_simp
    refine hK _ _ (fun W => Below W1.heap.size W1 W) (fun W h => h) B1.out ?_
    clear hK K
    refine seq_make rfl (by rfl) (fun K hK => ?_)
    go_simp
    ((with_reducible refine (cv3 _).mono ?_))
    rintro e V2 ⟨rfl, hb⟩
    have B2 := Lib.hid (show Below W1.heap.size W1 V2 from bel_more B1.out (Nat.le_refl _) hb)
    clear hb
    go_simp
    refine hK _ _ (fun W => Below W1.heap.size W1 W) (fun W h => h) B2.out ?_
    clear hK K
    refine seq_make rfl (by rfl) (fun K hK => ?_)
    go_simp
    refine hK _ _ (fun W => Below W1.heap.size W1 W) (fun W h => h) (bel_new B2.out _) ?_
    clear hK K
    refine seq_make rfl (by rfl) (fun K hK => ?_)
    go_simp
    ((with_reducible refine (hl _).mono ?_))
    rintro e V9 ⟨A, c, rfl, ha, hb⟩
    have bn := bel_more (bel_new B2.out (.cells #[.int .i64 4, .int .u64 (v1 : Int), .int .i64 2, .int .u64 0, .int .i64 2, .int .u64 (v3 : Int)] 85)) (Nat.le_refl _) hb
    have BN := Lib.hid bn
    have HA := Lib.hid (ha.lower (Nat.le_trans HB.out.size (bel_new B2.out (.cells #[.int .i64 4, .int .u64 (v1 : Int), .int .i64 2, .int .u64 0, .int .i64 2, .int .u64 (v3 : Int)] 85)).size))
    have HBB := Lib.hid (bel_more HB.out (Nat.le_refl _) bn)
    clear ha hb bn
    go_simp
    refine hK _ _ (fun W => Below W1.heap.size W1 W) (fun W h => h) BN.out ?_
    clear hK K
    repeat
      first
      | (refine seq_pure (v := ?_) rfl (by rfl) (fun W hW => ?_) ?_
         rotate_left
         · clear hW
           go_simp
           with_reducible rfl
         simp only [Act.put, List.setIfInBounds_toArray, List.set_cons_zero, List.set_cons_succ])
      | (refine seq_skip rfl (by rfl) ?_
         simp only [Act.put, List.setIfInBounds_toArray, List.set_cons_zero, List.set_cons_succ])
    refine seq_done ?_
    go_wp2
    go_ret2
    rw [HPC.out, HKN.out]
    exact ⟨A, c, rfl, HA.out, HBB.out⟩
  by_cases e8 : xcl = 11
  · subst e8
    obtain ⟨k1, k2⟩ : ndB xa = true ∧ smB xb = true := by simpa [condB] using hc
    obtain ⟨v1, ev1⟩ : ∃ v, v = 167772160 + u64 xa := ⟨_, rfl⟩
    have cv1 := fun W => addr7_calls xa v1 ev1 W (ndB_yes k1).1 (ndB_yes k1).2
    have bv1 : v1 < 18446744073709551616 := by have := ndB_yes k1; rw [ev1]; unfold u64; omega
    have Ev1 := Lib.hid ev1
    have cv2 := num7_calls 2 0 0 (by decide)
    obtain ⟨v3, ev3⟩ : ∃ v, v = u64 xb := ⟨_, rfl⟩
    have cv3 := num7_calls 2 xb v3 ev3
    have bv3 : v3 < 18446744073709551616 := by rw [ev3]; exact u64_lt _
    have Ev3 := Lib.hid ev3
    have HPC := Lib.hid (show pcs ⟨11, xa, xb, xc, xu, xl, ⟨xbw, xsu, xho, xan, xal, xno⟩⟩ = [(4, v1), (2, 0), (2, v3)] by simp [pcs, ev1, ev3])
    have HKN := Lib.hid (show knd 11 = 7 by decide)
    have hl : ∀ V : World, Calls Try.prog 40 #[.slice (some ⟨V.heap.size, 0, none⟩) 3 3] (V.alloc (.cells #[.int .i64 4, .int .u64 (v1 : Int), .int .i64 2, .int .u64 0, .int .i64 2, .int .u64 (v3 : Int)] 85)) (LaidPost (V.alloc (.cells #[.int .i64 4, .int .u64 (v1 : Int), .int .i64 2, .int .u64 0, .int .i64 2, .int .u64 (v3 : Int)] 85)) (pcL [(4, v1), (2, 0), (2, v3)])) := fun V => laid_new V [(4, v1), (2, 0), (2, v3)] (by simp) (by
      intro q hq
      simp only [List.mem_cons, List.not_mem_nil, or_false] at hq
      rcases hq with rfl | rfl | rfl
      all_goals exact ⟨by simp, by simp only; omega⟩)
    clear ev1 ev3
    go_wp2_with fail
    refine region_seq (fun W => Below W1.heap.size W1 W)
      [(0, true), (1, true), (4, true), (5, true), (2, false), (3, false), (6, false), (7, false), (8, false), (9, true), (10, true)]
      (by kernel_rfl) (by kernel_rfl) (by kernel_rfl) (by kernel_rfl) (fun _ _ _ _ _ h => h) ⟨rfl, rfl, rfl, Nat.le_refl _, fun _ _ => rfl⟩ ?_
    repeat
      first
      | (refine seq_pure (v := ?_) rfl (by rfl) (fun W hW => ?_) ?_
         rotate_left
         · clear hW
           go_simp
           with_reducible rfl
         simp only [Act.put, List.setIfInBounds_toArray, List.set_cons_zero, List.set_cons_succ])
      | (refine seq_pure (v := ?_) rfl (by rfl) (fun W hW => ?_) ?_
         rotate_left
         · have a0 := (H0.out.below hW).cell 0
           have a1 := (H0.out.below hW).cell 1
           have a2 := (H0.out.below hW).cell 2
           have a3 := (H0.out.below hW).cell 3
           have a4 := (H0.out.below hW).cell 4
           simp only [List.getElem?_cons_zero, List.getElem?_cons_succ] at a0 a1 a2 a3 a4
           go_simp
           with_reducible rfl
         simp only [Act.put, List.setIfInBounds_toArray, List.set_cons_zero, List.set_cons_succ])
      | (refine seq_skip rfl (by rfl) ?_
         simp only [Act.put, List.setIfInBounds_toArray, List.set_cons_zero, List.set_cons_succ])
    refine seq_make rfl (by rfl) (fun K hK => ?_)
    go_simp
    ((with_reducible refine (cv1 _).mono ?_))
    rintro e V0 ⟨rfl, hb⟩
    have B0 := Lib.hid (show Below W1.heap.size W1 V0 from below_of_drew hb)
    clear hb
    go_simp
    refine hK _ _ (fun W => Below W1.heap.size W1 W) (fun W h => h) B0.out ?_
    clear hK K
    refine seq_make rfl (by rfl) (fun K hK => ?_)
    go_simp
    ((with_reducible refine (cv2 _).mono ?_))
    rintro e V1 ⟨rfl, hb⟩
    have B1 := Lib.hid (show Below W1.heap.size W1 V1 from bel_more B0.out (Nat.le_refl _) hb)
    clear hb
    go_simp
    refine hK _ _ (fun W => Below W1.heap.size W1 W) (fun W h => h) B1.out ?_
    clear hK K
    refine seq_make rfl (by rfl) (fun K hK => ?_)
    go_simp
    ((with_reducible refine (cv3 _).mono ?_))
    rintro e V2 ⟨rfl, hb⟩
    have B2 := Lib.hid (show Below W1.heap.size W1 V2 from bel_more B1.out (Nat.le_refl _) hb)
    clear hb
    go_simp
    refine hK _ _ (fun W => Below W1.heap.size W1 W) (fun W h => h) B2.out ?_
    clear hK K
    refine seq_make rfl (by rfl) (fun K hK => ?_)
    go_simp
    refine hK _ _ (fun W => Below W1.heap.size W1 W) (fun W h => h) (bel_new B2.out _) ?_
    clear hK K
    refine seq_make rfl (by rfl) (fun K hK => ?_)
    go_simp
    ((with_reducible refine (hl _).mono ?_))
    rintro e V9 ⟨A, c, rfl, ha, hb⟩
    have bn := bel_more (bel_new B2.out (.cells #[.int .i64 4, .int .u64 (v1 : Int), .int .i64 2, .int .u64 0, .int .i64 2, .int .u64 (v3 : Int)] 85)) (Nat.le_refl _) hb
    have BN := Lib.hid bn
    have HA := Lib.hid (ha.lower (Nat.le_trans HB.out.size (bel_new B2.out (.cells #[.int .i64 4, .int .u64 (v1 : Int), .int .i64 2, .int .u64 0, .int .i64 2, .int .u64 (v3 : Int)] 85)).size))
    have HBB := Lib.hid (bel_more HB.out (Nat.le_refl _) bn)
    clear ha hb bn
    go_simp
    refine hK _ _ (fun W => Below W1.heap.size W1 W) (fun W h => h) BN.out ?_
    clear hK K
    repeat
      first
      | (refine seq_pure (v := ?_) rfl (by rfl) (fun W hW => ?_) ?_
         rotate_left
         · clear hW
           go_simp
           with_reducible rfl
         simp only [Act.put, List.setIfInBounds_toArray, List.set_cons_zero, List.set_cons_succ])
      | (refine seq_skip rfl (by rfl) ?_
         simp only [Act.put, List.setIfInBounds_toArray, List.set_cons_zero, List.set_cons_succ])
    refine seq_done ?_
    go_wp2
    go_ret2
    rw [HPC.out, HKN.out]
    exact ⟨A, c, rfl, HA.out, HBB.out⟩
  by_cases e9 : xcl = 16
  · subst e9
    obtain ⟨v1, ev1⟩ : ∃ v, v = u64 xa := ⟨_, rfl⟩
    have cv1 := num7_calls 4 xa v1 ev1
    have bv1 : v1 < 18446744073709551616 := by rw [ev1]; exact u64_lt _
    have Ev1 := Lib.hid ev1
    have HPC := Lib.hid (show pcs ⟨16, xa, xb, xc, xu, xl, ⟨xbw, xsu, xho, xan, xal, xno⟩⟩ = [(4, v1)] by simp [pcs, ev1])
    have HKN := Lib.hid (show knd 16 = 1 by decide)
    have hl : ∀ V : World, Calls Try.prog 40 #[.slice (some ⟨V.heap.size, 0, none⟩) 1 1] (V.alloc (.cells #[.int .i64 4, .int .u64 (v1 : Int)] 85)) (LaidPost (V.alloc (.cells #[.int .i64 4, .int .u64 (v1 : Int)] 85)) (pcL [(4, v1)])) := fun V => laid_new V [(4, v1)] (by simp) (by
      intro q hq
      simp only [List.mem_cons, List.not_mem_nil, or_false] at hq
      subst hq
      exact ⟨by simp, by simp only; omega⟩)
    clear ev1
    have a1 := H0.out.cell 1
    simp only [List.getElem?_cons_zero, List.getElem?_cons_succ] at a1
    go_wp2_with fail
    ((with_reducible refine (cv1 _).mono ?_))
    rintro e V0 ⟨rfl, hb⟩
    have B0 := Lib.hid (bel_more HB.out (Nat.le_refl _) hb)
    clear hb
    go_wp2_with fail
    ((with_reducible refine (hl _).mono ?_))
    rintro e V9 ⟨A, c, rfl, ha, hb⟩
    have HA := Lib.hid (ha.lower (bel_new B0.out (.cells #[.int .i64 4, .int .u64 (v1 : Int)] 85)).size)
    have HBB := Lib.hid (bel_more (bel_new B0.out (.cells #[.int .i64 4, .int .u64 (v1 : Int)] 85)) (Nat.le_refl _) hb)
    clear ha hb
    go_wp2
    go_ret2
    rw [HPC.out, HKN.out]
    exact ⟨A, c, rfl, HA.out, HBB.out⟩
  by_cases e10 : xcl = 19
  · subst e10
    obtain ⟨v1, ev1⟩ : ∃ v, v = u64 xa := ⟨_, rfl⟩
    have cv1 := num7_calls 4 xa v1 ev1
    have bv1 : v1 < 18446744073709551616 := by rw [ev1]; exact u64_lt _
    have Ev1 := Lib.hid ev1
    have HPC := Lib.hid (show pcs ⟨19, xa, xb, xc, xu, xl, ⟨xbw, xsu, xho, xan, xal, xno⟩⟩ = [(4, v1)] by simp [pcs, ev1])
    have HKN := Lib.hid (show knd 19 = 1 by decide)
    have hl : ∀ V : World, Calls Try.prog 40 #[.slice (some ⟨V.heap.size, 0, none⟩) 1 1] (V.alloc (.cells #[.int .i64 4, .int .u64 (v1 : Int)] 85)) (LaidPost (V.alloc (.cells #[.int .i64 4, .int .u64 (v1 : Int)] 85)) (pcL [(4, v1)])) := fun V => laid_new V [(4, v1)] (by simp) (by
      intro q hq
      simp only [List.mem_cons, List.not_mem_nil, or_false] at hq
      subst hq
      exact ⟨by simp, by simp only; omega⟩)
    clear ev1
    have a1 := H0.out.cell 1
    simp only [List.getElem?_cons_zero, List.getElem?_cons_succ] at a1
    go_wp2_with fail
    ((with_reducible refine (cv1 _).mono ?_))
    rintro e V0 ⟨rfl, hb⟩
    have B0 := Lib.hid (bel_more HB.out (Nat.le_refl _) hb)
    clear hb
    go_wp2_with fail
    ((with_reducible refine (hl _).mono ?_))
    rintro e V9 ⟨A, c, rfl, ha, hb⟩
    have HA := Lib.hid (ha.lower (bel_new B0.out (.cells #[.int .i64 4, .int .u64 (v1 : Int)] 85)).size)
    have HBB := Lib.hid (bel_more (bel_new B0.out (.cells #[.int .i64 4, .int .u64 (v1 : Int)] 85)) (Nat.le_refl _) hb)
    clear ha hb
    go_wp2
    go_ret2
    rw [HPC.out, HKN.out]
    exact ⟨A, c, rfl, HA.out, HBB.out⟩
  by_cases e11 : xcl = 20
  · subst e11
    have hk := ndsB_yes (show ndsB xl = true by simpa [condB] using hc)
    have HL := Lib.hid HX.out.row.1
    have hh := hops7_calls xla xln xlc xl W1 ((HX.out.row.below HB.out).more HB.out.size) (by have := HL.out; simp only at this; omega) hk.2
    have HK := Lib.hid hk
    clear hk
    have x5 := H0.out.cell 5
    simp only [List.getElem?_cons_zero, List.getElem?_cons_succ] at x5
    have hok : ∀ q ∈ xl.flatMap hopP, q.1 ≤ 8 ∧ q.2 < 18446744073709551616 := by
      intro q hq
      obtain ⟨n, hnm, hn⟩ := List.mem_flatMap.1 hq
      have hnn := HK.out.2 n hnm
      simp only [hopP, List.mem_cons, List.not_mem_nil, or_false] at hn
      rcases hn with rfl | rfl | rfl
      · exact ⟨by simp, by simp⟩
      · refine ⟨by simp, ?_⟩
        simp only
        unfold u64
        omega
      · exact ⟨by simp, by simp⟩
    have hpl : (xl.flatMap hopP).length ≤ 100 := by rw [hopP_len]; have := HK.out.1; omega
    have HPC := Lib.hid (show pcs ⟨20, xa, xb, xc, xu, xl, ⟨xbw, xsu, xho, xan, xal, xno⟩⟩ = xl.flatMap hopP by simp [pcs])
    have HKN := Lib.hid (show knd 20 = 1 by decide)
    generalize xl.flatMap hopP = ps at hh hok hpl HPC
    go_wp2_with fail
    ((with_reducible refine hh.mono ?_))
    rintro e V1 ⟨A1, c1, rfl, ha1, hb1⟩
    have hl := laid_calls A1 ps.length c1 ps V1 (AccR.row ha1) hpl hok
    have B1 := Lib.hid (bel_more HB.out (Nat.le_refl _) hb1)
    clear hb1 ha1 hh
    go_wp2_with fail
    ((with_reducible refine hl.mono ?_))
    rintro e V2 ⟨A, c, rfl, ha, hb⟩
    clear hl
    have HA := Lib.hid (ha.lower B1.out.size)
    have HBB := Lib.hid (bel_more B1.out (Nat.le_refl _) hb)
    clear ha hb
    go_wp2
    go_ret2
    rw [HPC.out, HKN.out]
    exact ⟨A, c, rfl, HA.out, HBB.out⟩
  by_cases e12 : xcl = 21
  · subst e12
    have hk := ndsB_yes (show ndsB xl = true by simpa [condB] using hc)
    have HL := Lib.hid HX.out.row.1
    have hh := hops7_calls xla xln xlc xl W1 ((HX.out.row.below HB.out).more HB.out.size) (by have := HL.out; simp only at this; omega) hk.2
    have HK := Lib.hid hk
    clear hk
    have x5 := H0.out.cell 5
    simp only [List.getElem?_cons_zero, List.getElem?_cons_succ] at x5
    have hok : ∀ q ∈ xl.flatMap hopP, q.1 ≤ 8 ∧ q.2 < 18446744073709551616 := by
      intro q hq
      obtain ⟨n, hnm, hn⟩ := List.mem_flatMap.1 hq
      have hnn := HK.out.2 n hnm
      simp only [hopP, List.mem_cons, List.not_mem_nil, or_false] at hn
      rcases hn with rfl | rfl | rfl
      · exact ⟨by simp, by simp⟩
      · refine ⟨by simp, ?_⟩
        simp only
        unfold u64
        omega
      · exact ⟨by simp, by simp⟩
    have hpl : (xl.flatMap hopP).length ≤ 100 := by rw [hopP_len]; have := HK.out.1; omega
    have HPC := Lib.hid (show pcs ⟨21, xa, xb, xc, xu, xl, ⟨xbw, xsu, xho, xan, xal, xno⟩⟩ = xl.flatMap hopP by simp [pcs])
    have HKN := Lib.hid (show knd 21 = 1 by decide)
    generalize xl.flatMap hopP = ps at hh hok hpl HPC
    go_wp2_with fail
    ((with_reducible refine hh.mono ?_))
    rintro e V1 ⟨A1, c1, rfl, ha1, hb1⟩
    have hl := laid_calls A1 ps.length c1 ps V1 (AccR.row ha1) hpl hok
    have B1 := Lib.hid (bel_more HB.out (Nat.le_refl _) hb1)
    clear hb1 ha1 hh
    go_wp2_with fail
    ((with_reducible refine hl.mono ?_))
    rintro e V2 ⟨A, c, rfl, ha, hb⟩
    clear hl
    have HA := Lib.hid (ha.lower B1.out.size)
    have HBB := Lib.hid (bel_more B1.out (Nat.le_refl _) hb)
    clear ha hb
    go_wp2
    go_ret2
    rw [HPC.out, HKN.out]
    exact ⟨A, c, rfl, HA.out, HBB.out⟩
  by_cases e13 : xcl = 23
  · subst e13
    have cv1 := num7_calls 4 0 0 (by decide)
    have HPC := Lib.hid (show pcs ⟨23, xa, xb, xc, xu, xl, ⟨xbw, xsu, xho, xan, xal, xno⟩⟩ = [(4, 0), (4, xu)] by simp [pcs])
    have HKN := Lib.hid (show knd 23 = 1 by decide)
    have hl : ∀ V : World, Calls Try.prog 40 #[.slice (some ⟨V.heap.size, 0, none⟩) 2 2] (V.alloc (.cells #[.int .i64 4, .int .u64 0, .int .i64 4, .int .u64 (xu : Int)] 85)) (LaidPost (V.alloc (.cells #[.int .i64 4, .int .u64 0, .int .i64 4, .int .u64 (xu : Int)] 85)) (pcL [(4, 0), (4, xu)])) := fun V => laid_new V [(4, 0), (4, xu)] (by simp) (by
      intro q hq
      simp only [List.mem_cons, List.not_mem_nil, or_false] at hq
      rcases hq with rfl | rfl
      all_goals exact ⟨by simp, by simp only; omega⟩)
    go_wp2_with fail
    refine region_seq (fun W => Below W1.heap.size W1 W)
      [(1, true), (2, true), (3, true), (0, false), (4, false), (5, false), (6, true), (7, true)]
      (by kernel_rfl) (by kernel_rfl) (by kernel_rfl) (by kernel_rfl) (fun _ _ _ _ _ h => h) ⟨rfl, rfl, rfl, Nat.le_refl _, fun _ _ => rfl⟩ ?_
    repeat
      first
      | (refine seq_pure (v := ?_) rfl (by rfl) (fun W hW => ?_) ?_
         rotate_left
         · clear hW
           go_simp
           with_reducible rfl
         simp only [Act.put, List.setIfInBounds_toArray, List.set_cons_zero, List.set_cons_succ])
      | (refine seq_pure (v := ?_) rfl (by rfl) (fun W hW => ?_) ?_
         rotate_left
         · have a0 := (H0.out.below hW).cell 0
           have a1 := (H0.out.below hW).cell 1
           have a2 := (H0.out.below hW).cell 2
           have a3 := (H0.out.below hW).cell 3
           have a4 := (H0.out.below hW).cell 4
           simp only [List.getElem?_cons_zero, List.getElem?_cons_succ] at a0 a1 a2 a3 a4
           go_simp
           with_reducible rfl
         simp only [Act.put, List.setIfInBounds_toArray, List.set_cons_zero, List.set_cons_succ])
      | (refine seq_skip rfl (by rfl) ?_
         simp only [Act.put, List.setIfInBounds_toArray, List.set_cons_zero, List.set_cons_succ])
    refine seq_make rfl (by rfl) (fun K hK => ?_)
    go_simp
    ((with_reducible refine (cv1 _).mono ?_))
    rintro e V0 ⟨rfl, hb⟩
    have B0 := Lib.hid (show Below W1.heap.size W1 V0 from below_of_drew hb)
    clear hb
    go_simp
    refine hK _ _ (fun W => Below W1.heap.size W1 W) (fun W h => h) B0.out ?_
    clear hK K
    refine seq_make rfl (by rfl) (fun K hK => ?_)
    go_simp
    refine hK _ _ (fun W => Below W1.heap.size W1 W) (fun W h => h) (bel_new B0.out _) ?_
    clear hK K
    refine seq_make rfl (by rfl) (fun K hK => ?_)
    go_simp
    ((with_reducible refine (hl _).mono ?_))
    rintro e V9 ⟨A, c, rfl, ha, hb⟩
    have bn := bel_more (bel_new B0.out (.cells #[.int .i64 4, .int .u64 0, .int .i64 4, .int .u64 (xu : Int)] 85)) (Nat.le_refl _) hb
    have BN := Lib.hid bn
    have HA := Lib.hid (ha.lower (Nat.le_trans HB.out.size (bel_new B0.out (.cells #[.int .i64 4, .int .u64 0, .int .i64 4, .int .u64 (xu : Int)] 85)).size))
    have HBB := Lib.hid (bel_more HB.out (Nat.le_refl _) bn)
    clear ha hb bn
    go_simp
    refine hK _ _ (fun W => Below W1.heap.size W1 W) (fun W h => h) BN.out ?_
    clear hK K
    repeat
      first
      | (refine seq_pure (v := ?_) rfl (by rfl) (fun W hW => ?_) ?_
         rotate_left
         · clear hW
           go_simp
           with_reducible rfl
         simp only [Act.put, List.setIfInBounds_toArray, List.set_cons_zero, List.set_cons_succ])
      | (refine seq_skip rfl (by rfl) ?_
         simp only [Act.put, List.setIfInBounds_toArray, List.set_cons_zero, List.set_cons_succ])
    refine seq_done ?_
    go_wp2
    go_ret2
    rw [HPC.out, HKN.out]
    exact ⟨A, c, rfl, HA.out, HBB.out⟩
  by_cases e14 : xcl = 207
  · subst e14
    have wxno : IntKind.u64.wrap (xno : Int) = (xno : Int) := by rw [IntKind.wrap_u64]; omega
    have wxan : IntKind.u64.wrap (xan : Int) = (xan : Int) := by rw [IntKind.wrap_u64]; omega
    have wxal : IntKind.u64.wrap (xal : Int) = (xal : Int) := by rw [IntKind.wrap_u64]; omega
    obtain ⟨v1, ev1⟩ : ∃ v, v = u64 xsu := ⟨_, rfl⟩
    have cv1 := num7_calls 1 xsu v1 ev1
    have bv1 : v1 < 18446744073709551616 := by rw [ev1]; exact u64_lt _
    have Ev1 := Lib.hid ev1
    obtain ⟨v2, ev2⟩ : ∃ v, v = u64 xho := ⟨_, rfl⟩
    have cv2 := num7_calls 1 xho v2 ev2
    have bv2 : v2 < 18446744073709551616 := by rw [ev2]; exact u64_lt _
    have Ev2 := Lib.hid ev2
    have cv3 := num7_calls 2 0 0 (by decide)
    have HPC := Lib.hid (show pcs ⟨207, xa, xb, xc, xu, xl, ⟨xbw, xsu, xho, xan, xal, xno⟩⟩ = [(4, xno), (4, xan), (4, xal), (1, v1), (1, v2), (2, 0)] by simp [pcs, ev1, ev2])
    have HKN := Lib.hid (show knd 207 = 1 by decide)
    have hl : ∀ V : World, Calls Try.prog 40 #[.slice (some ⟨V.heap.size, 0, none⟩) 6 6] (V.alloc (.cells #[.int .i64 4, .int .u64 (xno : Int), .int .i64 4, .int .u64 (xan : Int), .int .i64 4, .int .u64 (xal : Int), .int .i64 1, .int .u64 (v1 : Int), .int .i64 1, .int .u64 (v2 : Int), .int .i64 2, .int .u64 0] 85)) (LaidPost (V.alloc (.cells #[.int .i64 4, .int .u64 (xno : Int), .int .i64 4, .int .u64 (xan : Int), .int .i64 4, .int .u64 (xal : Int), .int .i64 1, .int .u64 (v1 : Int), .int .i64 1, .int .u64 (v2 : Int), .int .i64 2, .int .u64 0] 85)) (pcL [(4, xno), (4, xan), (4, xal), (1, v1), (1, v2), (2, 0)])) := fun V => laid_new V [(4, xno), (4, xan), (4, xal), (1, v1), (1, v2), (2, 0)] (by simp) (by
      intro q hq
      simp only [List.mem_cons, List.not_mem_nil, or_false] at hq
      rcases hq with rfl | rfl | rfl | rfl | rfl | rfl
      all_goals exact ⟨by simp, by simp only; omega⟩)
    clear ev1 ev2
    have y0 := H0.out.cell 6
    have y1 := H0.out.cell 7
    have y2 := H0.out.cell 8
    have y3 := H0.out.cell 9
    have y4 := H0.out.cell 10
    have y5 := H0.out.cell 11
    simp only [List.getElem?_cons_zero, List.getElem?_cons_succ] at y0 y1 y2 y3 y4 y5
    have HW := Lib.hid (Blk.new W1 26 [.int .u64 (xbw : Int), .int .i64 xsu, .int .i64 xho, .int .u32 (xan : Int), .int .u32 (xal : Int), .int .u32 (xno : Int)])
    have HB2 := Lib.hid (bel_new HB.out (.cells ([.int .u64 (xbw : Int), .int .i64 xsu, .int .i64 xho, .int .u32 (xan : Int), .int .u32 (xal : Int), .int .u32 (xno : Int)] : List Value).toArray 26))
    go_upto_region 27 with fail
    clear y0 y1 y2 y3 y4 y5 x0
    revert HW HB2
    generalize World.alloc W1 _ = W2
    intro HW HB2
    obtain ⟨qq, hqq⟩ : ∃ q, q = W1.heap.size := ⟨_, rfl⟩
    rw [← hqq] at HW ⊢
    clear hqq
    go_wp2_with fail
    refine region_seq (fun W => Below W2.heap.size W2 W)
      [(0, true), (1, true), (2, true), (3, true), (4, true), (5, true), (6, true), (7, true), (8, true), (9, true), (10, true), (11, true), (12, true), (13, true), (15, true), (16, true), (14, false), (17, false), (18, false), (19, false), (20, false), (21, true), (22, true)]
      (by kernel_rfl) (by kernel_rfl) (by kernel_rfl) (by kernel_rfl) (fun _ _ _ _ _ h => h) ⟨rfl, rfl, rfl, Nat.le_refl _, fun _ _ => rfl⟩ ?_
    repeat
      first
      | (refine seq_pure (v := ?_) rfl (by rfl) (fun W hW => ?_) ?_
         rotate_left
         · clear hW
           go_simp
           with_reducible rfl
         simp only [Act.put, List.setIfInBounds_toArray, List.set_cons_zero, List.set_cons_succ])
      | (refine seq_pure (v := ?_) rfl (by rfl) (fun W hW => ?_) ?_
         rotate_left
         · have a0 := (HW.out.below hW).cell 0
           have a1 := (HW.out.below hW).cell 1
           have a2 := (HW.out.below hW).cell 2
           have a3 := (HW.out.below hW).cell 3
           have a4 := (HW.out.below hW).cell 4
           have a5 := (HW.out.below hW).cell 5
           simp only [List.getElem?_cons_zero, List.getElem?_cons_succ] at a0 a1 a2 a3 a4 a5
           go_simp
           with_reducible rfl
         simp only [Act.put, List.setIfInBounds_toArray, List.set_cons_zero, List.set_cons_succ])
      | (refine seq_skip rfl (by rfl) ?_
         simp only [Act.put, List.setIfInBounds_toArray, List.set_cons_zero, List.set_cons_succ])
    refine seq_make rfl (by rfl) (fun K hK => ?_)
    go_simp
    ((with_reducible refine (cv1 _).mono ?_))
    rintro e V0 ⟨rfl, hb⟩
    have B0 := Lib.hid (show Below W2.heap.size W2 V0 from below_of_drew hb)
    clear hb
    go_simp
    refine hK _ _ (fun W => Below W2.heap.size W2 W) (fun W h => h) B0.out ?_
    clear hK K
    refine seq_make rfl (by rfl) (fun K hK => ?_)
    go_simp
    ((with_reducible refine (cv2 _).mono ?_))
    rintro e V1 ⟨rfl, hb⟩
    have B1 := Lib.hid (show Below W2.heap.size W2 V1 from bel_more B0.out (Nat.le_refl _) hb)
    clear hb
    go_simp
    refine hK _ _ (fun W => Below W2.heap.size W2 W) (fun W h => h) B1.out ?_
    clear hK K
    refine seq_make rfl (by rfl) (fun K hK => ?_)
    go_simp
    ((with_reducible refine (cv3 _).mono ?_))
    rintro e V2 ⟨rfl, hb⟩
    have B2 := Lib.hid (show Below W2.heap.size W2 V2 from bel_more B1.out (Nat.le_refl _) hb)
    clear hb
    go_simp
    refine hK _ _ (fun W => Below W2.heap.size W2 W) (fun W h => h) B2.out ?_
    clear hK K
    refine seq_make rfl (by rfl) (fun K hK => ?_)
    go_simp
    refine hK _ _ (fun W => Below W2.heap.size W2 W) (fun W h => h) (bel_new B2.out _) ?_
    clear hK K
    refine seq_make rfl (by rfl) (fun K hK => ?_)
    go_simp
    ((with_reducible refine (hl _).mono ?_))
    rintro e V9 ⟨A, c, rfl, ha, hb⟩
    have bn := bel_more (bel_new B2.out (.cells #[.int .i64 4, .int .u64 (xno : Int), .int .i64 4, .int .u64 (xan : Int), .int .i64 4, .int .u64 (xal : Int), .int .i64 1, .int .u64 (v1 : Int), .int .i64 1, .int .u64 (v2 : Int), .int .i64 2, .int .u64 0] 85)) (Nat.le_refl _) hb
    have BN := Lib.hid bn
    have HA := Lib.hid (ha.lower (Nat.le_trans HB2.out.size (bel_new B2.out (.cells #[.int .i64 4, .int .u64 (xno : Int), .int .i64 4, .int .u64 (xan : Int), .int .i64 4, .int .u64 (xal : Int), .int .i64 1, .int .u64 (v1 : Int), .int .i64 1, .int .u64 (v2 : Int), .int .i64 2, .int .u64 0] 85)).size))
    have HBB := Lib.hid (bel_more HB2.out (Nat.le_refl _) bn)
    clear ha hb bn
    go_simp
    refine hK _ _ (fun W => Below W2.heap.size W2 W) (fun W h => h) BN.out ?_
    clear hK K
    repeat
      first
      | (refine seq_pure (v := ?_) rfl (by rfl) (fun W hW => ?_) ?_
         rotate_left
         · clear hW
           go_simp
           with_reducible rfl
         simp only [Act.put, List.setIfInBounds_toArray, List.set_cons_zero, List.set_cons_succ])
      | (refine seq_skip rfl (by rfl) ?_
         simp only [Act.put, List.setIfInBounds_toArray, List.set_cons_zero, List.set_cons_succ])
    refine seq_done ?_
    go_wp2
    go_ret2
    rw [HPC.out, HKN.out]
    exact ⟨A, c, rfl, HA.out, HBB.out⟩
  exfalso
  simp [condB, e0, e1, e2, e3, e4, e5, e6, e7, e8, e9, e10, e11, e12, e13, e14] at hc
end Go.Proofs.Ytocogdcecnnnnaa
