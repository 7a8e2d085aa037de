/-
  The walk of WholeChain: for all three arguments it returns true and turns no memory that was there. No condition.
-/
import Derived.Test.YtkbbnfinmipenaaChainP
import Derived.Test.YtkbbnfinmipenaaOpen
namespace Go.Proofs.Ytkbbnfinmipenaa
open Go.RowKit Go.Maps

/-- The tables that were made so far. -/
def Tabs (w : World) (m : Nat) (ts : List Nat) : Prop := ∀ i (h : i < ts.length), ∃ lb ub, Tbl w ts[i] lb ub 4 (labC m i) (tunC m i)

theorem Tabs.below {w w' : World} {m : Nat} {ts : List Nat} (h : Tabs w m ts) (hb : Below w.heap.size w w') : Tabs w' m ts := fun i hi => by
  obtain ⟨lb, ub, ht⟩ := h i hi
  exact ⟨lb, ub, ht.below hb⟩
theorem Tabs.grown {w w' : World} {m : Nat} {ts : List Nat} {base c : Nat} {A : Option Addr} {vs : List Value} (h : Tabs w m ts) (ha : AccV w base 24 A c vs) (hg : w.grownBy w' (blk A)) : Tabs w' m ts := fun i hi => by
  obtain ⟨lb, ub, ht⟩ := h i hi
  have hlt := ht.lt
  have hne : ∀ k, blk A = some k → k ≠ ts[i] ∧ k ≠ lb ∧ k ≠ ub := fun k hk => by
    obtain ⟨cs, e⟩ := ha.row hk
    obtain ⟨es, cl, e2⟩ := ht.2.1.isMap
    obtain ⟨es', cl', e3⟩ := ht.2.2.1.isMap
    refine ⟨?_, ?_, ?_⟩
    · rintro rfl
      have := ht.1
      rw [e] at this
      injection this with this
      injection this with _ this
      exact absurd this (by decide)
    · rintro rfl
      rw [e] at e2; cases e2
    · rintro rfl
      rw [e] at e3; cases e3
  refine ⟨lb, ub, ht.same (hg.block _ hlt.1 fun e => (hne _ e.symm).1 rfl) (hg.block _ hlt.2.1 fun e => (hne _ e.symm).2.1 rfl) (hg.block _ hlt.2.2 fun e => (hne _ e.symm).2.2 rfl)⟩
theorem Tabs.snoc {w : World} {m : Nat} {ts : List Nat} (h : Tabs w m ts) {tb lb ub : Nat} (ht : Tbl w tb lb ub 4 (labC m ts.length) (tunC m ts.length)) : Tabs w m (ts ++ [tb]) := fun i hi => by
  by_cases hl : i < ts.length
  · obtain ⟨lb', ub', h'⟩ := h i hl
    exact ⟨lb', ub', by rw [List.getElem_append_left hl]; exact h'⟩
  · have : i = ts.length := by simp at hi; omega
    subst this
    exact ⟨lb, ub, by rw [List.getElem_append_right (Nat.le_refl _)]; simpa using ht⟩

theorem Tabs.drew {w : World} {m : Nat} {ts : List Nat} (h : Tabs w m ts) : Tabs w.drew m ts := fun i hi => by
  obtain ⟨lb, ub, ht⟩ := h i hi
  exact ⟨lb, ub, ht.drew⟩
theorem Tabs.write {w : World} {m q : Nat} {ts : List Nat} {vs : List Value} (h : Tabs w m ts) (hb : Blk w q 33 vs) (v0 v1 v2 v3 : Value) : Tabs (write4 w q v0 v1 v2 v3) m ts := fun i hi => by
  obtain ⟨lb, ub, ht⟩ := h i hi
  have hne := ht.neBlk hb (by decide)
  exact ⟨lb, ub, ht.same (write4_block _ _ _ _ _ hne.1) (write4_block _ _ _ _ _ hne.2.1) (write4_block _ _ _ _ _ hne.2.2)⟩
theorem infoTab : (Try.prog.info? 24).map (fun i => (i.zero, i.size, i.bytes)) = some (some (.pointer none), 1, 8) := by kernel_rfl

/-- One more table behind those that were gathered. -/
theorem tabs_push {w W : World} {m c : Nat} {ts : List Nat} {A : Option Addr} (ha : AccV W w.heap.size 24 A c (ts.map ptr)) (hT : Tabs W m ts) {tb lb ub : Nat} (ht : Tbl W tb lb ub 4 (labC m ts.length) (tunC m ts.length)) (hb : Below w.heap.size w W) (hl : ts.length ≤ 100) :
    ∃ A' c' w', (Builtin.append_ #[59, 59] 59 #[.slice A ts.length c, .slice (some ⟨W.heap.size, 0, none⟩) 1 1]).run Try.prog (W.alloc (.cells #[ptr tb] 24)) = .ok (.slice A' (ts.length + 1) c') w' ∧
      AccV w' w.heap.size 24 A' c' ((ts ++ [tb]).map ptr) ∧ Tabs w' m (ts ++ [tb]) ∧ Below w.heap.size w w' := by
  have hk := bel_new (Below.refl W.heap.size W) (.cells #[ptr tb] 24)
  have ha1 := ha.alloc (.cells #[ptr tb] 24)
  have hb1 := bel_more hb (Nat.le_refl _) hk
  have hq : (W.alloc (.cells #[ptr tb] 24)).cell? ⟨W.heap.size, 0, none⟩ = some (ptr tb) := cell_of_row _ _ 0 _ _ _ (heap_alloc_new W _)
  obtain ⟨A', c', w', r, a, g⟩ := accv_push (P := Try.prog) ha1 (ty := 59) Try.underlying59 infoTab rfl hq rfl hb1.size (by simp; omega)
  rw [List.length_map] at r
  refine ⟨A', c', w', r, by rw [List.map_append]; exact a, ((hT.snoc ht).below hk).grown ha1 g, ?_⟩
  exact hb1.grown g hb1.size (fun k hk => (ha1.ge hk).1)

set_option maxRecDepth 100000 in
set_option maxHeartbeats 3200000 in
theorem chain_walk (n ttl : Nat) (pay : ByteArray) (w : World) (hn : n < 256) (ht : ttl < 256) :
    Calls Try.prog 7 #[.int .u8 (n : Int), .int .u8 (ttl : Int), .string pay] w fun e w' => e = .returned (.bool true) ∧ Below w.heap.size w w' := by
  go_enter Try.func7, Try.ntmps7
  go_wp2_with fail
  obtain ⟨m, hm, hm2, hm7⟩ : ∃ m : Nat, ((n : Int) % 6 + 2) = m ∧ 2 ≤ m ∧ m ≤ 7 := ⟨n % 6 + 2, by omega, by omega, by omega⟩
  rw [hm]
  clear hm
  go_loopw [8, 26] (fun s t W => ∃ (i : Nat) (ts : List Nat) (A : Option Addr) (c : Nat), i ≤ m ∧ ts.length = i ∧ t = .int .i64 (i : Int) ∧ s = .slice A i c ∧ AccV W w.heap.size 24 A c (ts.map ptr) ∧ Tabs W m ts ∧ Below w.heap.size w W) (fun _ t _ => m - (intOf t).toNat)
  case atStart => exact ⟨0, [], none, 0, Nat.zero_le _, rfl, rfl, rfl, AccV.nil _ _ _, fun i hi => absurd hi (by simp), Below.refl _ _⟩
  case round =>
    obtain ⟨i, ts, A, c, hi, hts, rfl, rfl, hA, hT, hbel⟩ := hrel
    have HA := Lib.hid hA
    have HT := Lib.hid hT
    have HBL := Lib.hid hbel
    have HTS := Lib.hid hts
    clear hA hT hbel hts
    by_cases hlt : i < m
    · by_cases hi0 : i = 0
      · have hl : ((i : Int) == (m : Int) - 1) = false := by rw [beq_eq_false_iff_ne]; omega
        have hg : decide (0 < i) = false := by simp; omega
        have HI0 := Lib.hid hi0
        have HIM := Lib.hid (show ¬ i + 1 = m by omega)
        clear hi0
        go_wp2_with fail
        ((with_reducible refine (lnew_yes 4 wr (by omega) (by omega)).mono ?_))
        rintro e w1 ⟨tb, lb, ub, rfl, h1, hB, b1⟩
        have K2 := Lib.hid (bel_new b1 (.cells #[.int .i64 ((i : Int) + 1), .int .i64 (16 + (i : Int))] 30))
        have H2 := Lib.hid (h1.below (bel_new (Below.refl w1.heap.size w1) (.cells #[.int .i64 ((i : Int) + 1), .int .i64 (16 + (i : Int))] 30)))
        have O2 := Lib.hid (Blk.new w1 30 [.int .i64 ((i : Int) + 1), .int .i64 (16 + (i : Int))])
        have HB := Lib.hid hB
        have L1 := Lib.hid h1.lt
        clear h1 hB b1
        go_upto_region 12 with fail
        generalize (w1.alloc (.cells #[.int .i64 ((i : Int) + 1), .int .i64 (16 + (i : Int))] 30)) = w2 at *
        have o0 : w2.cell? ⟨w1.heap.size, 0, none⟩ = some (.int .i64 ((i : Int) + 1)) := O2.out.cell 0
        have o1 : w2.cell? ⟨w1.heap.size, 1, none⟩ = some (.int .i64 (16 + (i : Int))) := O2.out.cell 1
        go_wp2_with fail
        ((with_reducible refine (map_calls H2.out 7 ((i : Int) + 1) (16 + (i : Int)) (by decide)).mono ?_))
        rintro e w4 ⟨rfl, h4, t4⟩
        have e1 : actE (wn 7 1 65535 && okO ((i : Int) + 1) (16 + (i : Int))) 4 [] 7 = 0 := by
          rw [show (wn 7 1 65535 && okO ((i : Int) + 1) (16 + (i : Int))) = true by simp [wn, okO]; omega]; rfl
        have e2 : actL (wn 7 1 65535 && okO ((i : Int) + 1) (16 + (i : Int))) 4 [] (7, (i : Int) + 1, (16 + (i : Int))) = tunC m i := by
          rw [show (wn 7 1 65535 && okO ((i : Int) + 1) (16 + (i : Int))) = true by simp [wn, okO]; omega]
          unfold tunC outC
          rw [if_neg HIM.out]; rfl
        rw [e1]
        rw [e2] at h4
        have K4 := Lib.hid (Turn.bel K2.out (Nat.le_refl _) t4 (by have := HB.out; simp; omega))
        have H4 := Lib.hid h4
        have O4 := Lib.hid (O2.out.same (t4.block _ O2.out.lt (by have := L1.out; simp; omega)))
        clear h4 t4 e1 e2 o0 o1
        have o0 : w4.cell? ⟨w1.heap.size, 0, none⟩ = some (.int .i64 ((i : Int) + 1)) := O4.out.cell 0
        have o1 : w4.cell? ⟨w1.heap.size, 1, none⟩ = some (.int .i64 (16 + (i : Int))) := O4.out.cell 1
        have K5 := Lib.hid K4.out
        have H5 := Lib.hid (show Tbl w4 tb lb ub 4 (labC m i) (tunC m i) by unfold labC; rw [if_pos HI0.out]; exact H4.out)
        clear o0 o1
        go_upto_region 17 with fail
        obtain ⟨A6, c6, w6, r6, a6, T6, b6⟩ := tabs_push (tb := tb) (HA.out.bel K5.out) (HT.out.below K5.out) (by rw [HTS.out]; exact H5.out) (bel_more HBL.out (Nat.le_refl _) K5.out) (by rw [HTS.out]; omega)
        rw [HTS.out] at r6
        have R6 := Lib.hid r6
        have A6' := Lib.hid a6
        have T6' := Lib.hid T6
        have B6' := Lib.hid b6
        unfold ptr at R6
        clear r6 a6 T6 b6 H5 K5 H4 K4 O4 H2 K2 O2
        go_wp2_with (at_builtin; refine step_append rfl rfl rfl rfl R6.out ?_)
        exact ⟨⟨i + 1, ts ++ [tb], A6, c6, by omega, by simp [HTS.out], by go_num, rfl, A6'.out, T6'.out, B6'.out⟩, by simp [intOf]; omega⟩
      by_cases hil : i + 1 = m
      · have hl : ((i : Int) == (m : Int) - 1) = true := by rw [beq_iff_eq]; omega
        have hg : decide (0 < i) = true := by simp; omega
        have HI0 := Lib.hid hi0
        have HIM := Lib.hid hil
        have hi1 : 1 ≤ i := by omega
        clear hi0 hil
        go_wp2_with fail
        ((with_reducible refine (lnew_yes 4 wr (by omega) (by omega)).mono ?_))
        rintro e w1 ⟨tb, lb, ub, rfl, h1, hB, b1⟩
        have K2 := Lib.hid (bel_new b1 (.cells #[.int .i64 ((i : Int) + 1), .int .i64 3] 30))
        have H2 := Lib.hid (h1.below (bel_new (Below.refl w1.heap.size w1) (.cells #[.int .i64 ((i : Int) + 1), .int .i64 3] 30)))
        have O2 := Lib.hid (Blk.new w1 30 [.int .i64 ((i : Int) + 1), .int .i64 3])
        have HB := Lib.hid hB
        have L1 := Lib.hid h1.lt
        clear h1 hB b1
        go_upto_region 12 with fail
        generalize (w1.alloc (.cells #[.int .i64 ((i : Int) + 1), .int .i64 3] 30)) = w2 at *
        have o0 : w2.cell? ⟨w1.heap.size, 0, none⟩ = some (.int .i64 ((i : Int) + 1)) := O2.out.cell 0
        have o1 : w2.cell? ⟨w1.heap.size, 1, none⟩ = some (.int .i64 3) := O2.out.cell 1
        go_wp2_with fail
        ((with_reducible refine (map_calls H2.out 7 ((i : Int) + 1) 3 (by decide)).mono ?_))
        rintro e w4 ⟨rfl, h4, t4⟩
        have e1 : actE (wn 7 1 65535 && okO ((i : Int) + 1) 3) 4 [] 7 = 0 := by
          rw [show (wn 7 1 65535 && okO ((i : Int) + 1) 3) = true by simp [wn, okO]; omega]; rfl
        have e2 : actL (wn 7 1 65535 && okO ((i : Int) + 1) 3) 4 [] (7, (i : Int) + 1, 3) = tunC m i := by
          rw [show (wn 7 1 65535 && okO ((i : Int) + 1) 3) = true by simp [wn, okO]; omega]
          unfold tunC outC
          rw [if_pos HIM.out]; rfl
        rw [e1]
        rw [e2] at h4
        have K4 := Lib.hid (Turn.bel K2.out (Nat.le_refl _) t4 (by have := HB.out; simp; omega))
        have H4 := Lib.hid h4
        have O4 := Lib.hid (O2.out.same (t4.block _ O2.out.lt (by have := L1.out; simp; omega)))
        clear h4 t4 e1 e2 o0 o1
        have o0 : w4.cell? ⟨w1.heap.size, 0, none⟩ = some (.int .i64 ((i : Int) + 1)) := O4.out.cell 0
        have o1 : w4.cell? ⟨w1.heap.size, 1, none⟩ = some (.int .i64 3) := O4.out.cell 1
        go_wp2_with fail
        ((with_reducible refine (bind_calls H4.out (15 + (i : Int)) ((i : Int) + 1) 3 (WalkArith.wf_i64 (by omega))).mono ?_))
        rintro e w5 ⟨rfl, h5, t5⟩
        have e1 : actE (wn (15 + (i : Int)) 16 1048575 && okO ((i : Int) + 1) 3) 4 [] (15 + (i : Int)) = 0 := by
          rw [show (wn (15 + (i : Int)) 16 1048575 && okO ((i : Int) + 1) 3) = true by simp [wn, okO]; omega]; rfl
        have e2 : actL (wn (15 + (i : Int)) 16 1048575 && okO ((i : Int) + 1) 3) 4 [] (15 + (i : Int), (i : Int) + 1, 3) = labC m i := by
          rw [show (wn (15 + (i : Int)) 16 1048575 && okO ((i : Int) + 1) 3) = true by simp [wn, okO]; omega]
          unfold labC outC
          rw [if_neg HI0.out, if_pos HIM.out]; rfl
        rw [e1]
        rw [e2] at h5
        have K5 := Lib.hid (Turn.bel K4.out (Nat.le_refl _) t5 (by have := HB.out; simp; omega))
        have H5 := Lib.hid h5
        clear h5 t5 e1 e2
        clear o0 o1
        go_upto_region 17 with fail
        obtain ⟨A6, c6, w6, r6, a6, T6, b6⟩ := tabs_push (tb := tb) (HA.out.bel K5.out) (HT.out.below K5.out) (by rw [HTS.out]; exact H5.out) (bel_more HBL.out (Nat.le_refl _) K5.out) (by rw [HTS.out]; omega)
        rw [HTS.out] at r6
        have R6 := Lib.hid r6
        have A6' := Lib.hid a6
        have T6' := Lib.hid T6
        have B6' := Lib.hid b6
        unfold ptr at R6
        clear r6 a6 T6 b6 H5 K5 H4 K4 O4 H2 K2 O2
        go_wp2_with (at_builtin; refine step_append rfl rfl rfl rfl R6.out ?_)
        exact ⟨⟨i + 1, ts ++ [tb], A6, c6, by omega, by simp [HTS.out], by go_num, rfl, A6'.out, T6'.out, B6'.out⟩, by simp [intOf]; omega⟩
      · have hl : ((i : Int) == (m : Int) - 1) = false := by rw [beq_eq_false_iff_ne]; omega
        have hg : decide (0 < i) = true := by simp; omega
        have HI0 := Lib.hid hi0
        have HIM := Lib.hid hil
        have hi1 : 1 ≤ i := by omega
        clear hi0 hil
        go_wp2_with fail
        ((with_reducible refine (lnew_yes 4 wr (by omega) (by omega)).mono ?_))
        rintro e w1 ⟨tb, lb, ub, rfl, h1, hB, b1⟩
        have K2 := Lib.hid (bel_new b1 (.cells #[.int .i64 ((i : Int) + 1), .int .i64 (16 + (i : Int))] 30))
        have H2 := Lib.hid (h1.below (bel_new (Below.refl w1.heap.size w1) (.cells #[.int .i64 ((i : Int) + 1), .int .i64 (16 + (i : Int))] 30)))
        have O2 := Lib.hid (Blk.new w1 30 [.int .i64 ((i : Int) + 1), .int .i64 (16 + (i : Int))])
        have HB := Lib.hid hB
        have L1 := Lib.hid h1.lt
        clear h1 hB b1
        go_upto_region 12 with fail
        generalize (w1.alloc (.cells #[.int .i64 ((i : Int) + 1), .int .i64 (16 + (i : Int))] 30)) = w2 at *
        have o0 : w2.cell? ⟨w1.heap.size, 0, none⟩ = some (.int .i64 ((i : Int) + 1)) := O2.out.cell 0
        have o1 : w2.cell? ⟨w1.heap.size, 1, none⟩ = some (.int .i64 (16 + (i : Int))) := O2.out.cell 1
        go_wp2_with fail
        ((with_reducible refine (map_calls H2.out 7 ((i : Int) + 1) (16 + (i : Int)) (by decide)).mono ?_))
        rintro e w4 ⟨rfl, h4, t4⟩
        have e1 : actE (wn 7 1 65535 && okO ((i : Int) + 1) (16 + (i : Int))) 4 [] 7 = 0 := by
          rw [show (wn 7 1 65535 && okO ((i : Int) + 1) (16 + (i : Int))) = true by simp [wn, okO]; omega]; rfl
        have e2 : actL (wn 7 1 65535 && okO ((i : Int) + 1) (16 + (i : Int))) 4 [] (7, (i : Int) + 1, (16 + (i : Int))) = tunC m i := by
          rw [show (wn 7 1 65535 && okO ((i : Int) + 1) (16 + (i : Int))) = true by simp [wn, okO]; omega]
          unfold tunC outC
          rw [if_neg HIM.out]; rfl
        rw [e1]
        rw [e2] at h4
        have K4 := Lib.hid (Turn.bel K2.out (Nat.le_refl _) t4 (by have := HB.out; simp; omega))
        have H4 := Lib.hid h4
        have O4 := Lib.hid (O2.out.same (t4.block _ O2.out.lt (by have := L1.out; simp; omega)))
        clear h4 t4 e1 e2 o0 o1
        have o0 : w4.cell? ⟨w1.heap.size, 0, none⟩ = some (.int .i64 ((i : Int) + 1)) := O4.out.cell 0
        have o1 : w4.cell? ⟨w1.heap.size, 1, none⟩ = some (.int .i64 (16 + (i : Int))) := O4.out.cell 1
        go_wp2_with fail
        ((with_reducible refine (bind_calls H4.out (15 + (i : Int)) ((i : Int) + 1) (16 + (i : Int)) (WalkArith.wf_i64 (by omega))).mono ?_))
        rintro e w5 ⟨rfl, h5, t5⟩
        have e1 : actE (wn (15 + (i : Int)) 16 1048575 && okO ((i : Int) + 1) (16 + (i : Int))) 4 [] (15 + (i : Int)) = 0 := by
          rw [show (wn (15 + (i : Int)) 16 1048575 && okO ((i : Int) + 1) (16 + (i : Int))) = true by simp [wn, okO]; omega]; rfl
        have e2 : actL (wn (15 + (i : Int)) 16 1048575 && okO ((i : Int) + 1) (16 + (i : Int))) 4 [] (15 + (i : Int), (i : Int) + 1, (16 + (i : Int))) = labC m i := by
          rw [show (wn (15 + (i : Int)) 16 1048575 && okO ((i : Int) + 1) (16 + (i : Int))) = true by simp [wn, okO]; omega]
          unfold labC outC
          rw [if_neg HI0.out, if_neg HIM.out]; rfl
        rw [e1]
        rw [e2] at h5
        have K5 := Lib.hid (Turn.bel K4.out (Nat.le_refl _) t5 (by have := HB.out; simp; omega))
        have H5 := Lib.hid h5
        clear h5 t5 e1 e2
        clear o0 o1
        go_upto_region 17 with fail
        obtain ⟨A6, c6, w6, r6, a6, T6, b6⟩ := tabs_push (tb := tb) (HA.out.bel K5.out) (HT.out.below K5.out) (by rw [HTS.out]; exact H5.out) (bel_more HBL.out (Nat.le_refl _) K5.out) (by rw [HTS.out]; omega)
        rw [HTS.out] at r6
        have R6 := Lib.hid r6
        have A6' := Lib.hid a6
        have T6' := Lib.hid T6
        have B6' := Lib.hid b6
        unfold ptr at R6
        clear r6 a6 T6 b6 H5 K5 H4 K4 O4 H2 K2 O2
        go_wp2_with (at_builtin; refine step_append rfl rfl rfl rfl R6.out ?_)
        exact ⟨⟨i + 1, ts ++ [tb], A6, c6, by omega, by simp [HTS.out], by go_num, rfl, A6'.out, T6'.out, B6'.out⟩, by simp [intOf]; omega⟩
    · have him : i = m := by omega
      subst him
      have hi0 : 0 < ts.length := by rw [HTS.out]; omega
      obtain ⟨g, rfl, hg, hc0⟩ := HA.out.cell (i := 0) (by simpa using hi0)
      have C0 := Lib.hid (show wr.cell? ⟨g, 0, none⟩ = some (ptr ts[0]) by rw [hc0]; simp)
      have HG := Lib.hid hg
      clear hc0 hg
      have k4 := bel_new (Below.refl wr.heap.size wr) (.cells #[.slice none 0 0, .int .i64 7, .int .i64 (ttl : Int), .string pay] 33)
      have K4 := Lib.hid k4
      have A4 := Lib.hid (HA.out.bel k4)
      have T4 := Lib.hid (HT.out.below k4)
      have B4 := Lib.hid (bel_more HBL.out (Nat.le_refl _) k4)
      have P4 := Lib.hid (Blk.new wr 33 [.slice none 0 0, .int .i64 7, .int .i64 (ttl : Int), .string pay])
      have C4 := Lib.hid ((k4.cell (p := ⟨g, 0, none⟩) HG.out).trans C0.out)
      have G4 := Lib.hid (Nat.lt_of_lt_of_le HG.out k4.size)
      clear k4
      by_cases hbig : 4096 < pay.size
      · have hb1 : decide (4096 < (pay.size : Int)) = true := by simp; omega
        go_wp2_with fail
        generalize wr.alloc (.cells #[.slice none 0 0, .int .i64 7, .int .i64 (ttl : Int), .string pay] 33) = w4 at *
        obtain ⟨lb, ub, H4⟩ := T4.out 0 hi0
        have hpos : 0 < i := by omega
        generalize ts[0] = tb0 at *
        have HS := Lib.hid (show stepR (labC i 0) (tunC i 0) [] 7 (ttl : Int) pay.size = .error 2 by
          unfold stepR; rw [if_neg (by simp [okPkt]; omega)])
        refine region_way (fun W => Below w4.heap.size w4 W)
          (.step 0 true (.step 1 true (.step 2 true (.step 3 true (.both 4 9 (.step 5 true (.step 6 true (.step 7 true (.step 8 true (.step 9 false (.step 10 true (.step 11 false (.step 12 true .done)))))))) (.step 4 false (.step 5 true (.step 6 true (.step 7 true (.step 8 true (.step 10 true (.step 11 false (.step 12 true .done)))))))))))))
          (by kernel_rfl) (by kernel_rfl) (by kernel_rfl) (by kernel_rfl) (fun _ _ _ _ _ h => h) (bel_drewN (Below.refl _ _) 1) ?_
        repeat
          refine way_pure (v := ?_) rfl (by rfl) (fun W hW => ?_) ?_
          rotate_left
          · have d0 : W.cell? ⟨g, 0, none⟩ = some (.pointer (some ⟨tb0, 0, none⟩)) := (hW.cell (p := ⟨g, 0, none⟩) G4.out).trans C4.out
            have p0 : W.cell? ⟨wr.heap.size, 0, none⟩ = some (.slice none 0 0) := (P4.out.below hW).cell 0
            have p1 : W.cell? ⟨wr.heap.size, 1, none⟩ = some (.int .i64 7) := (P4.out.below hW).cell 1
            have p2 : W.cell? ⟨wr.heap.size, 2, none⟩ = some (.int .i64 (ttl : Int)) := (P4.out.below hW).cell 2
            have p3 : W.cell? ⟨wr.heap.size, 3, none⟩ = some (.string pay) := (P4.out.below hW).cell 3
            clear hW
            go_simp
            try with_reducible rfl
          simp only [Act.put, List.setIfInBounds_toArray, List.set_cons_zero, List.set_cons_succ]
        refine way_both rfl (by rfl) rfl (by rfl) (fun K hK => ?_) (fun K hK => ?_)
        · have HC := Lib.hid (step_calls (H4.drew) none 0 0 [] 7 (ttl : Int) pay Row.nil (by omega) (by omega) (by decide))
          go_simp
          ((with_reducible refine HC.out.mono ?_))
          rintro e w5 h5
          obtain ⟨rfl, b5⟩ := h5.err HS.out
          have B5 := Lib.hid (below_of_drew b5)
          clear h5 b5
          go_simp
          refine hK _ w5 (fun W => Below w4.heap.size w4 W) (fun W h => h) B5.out ?_
          clear hK K
          repeat
            refine way_pure (v := ?_) rfl (by rfl) (fun W hW => ?_) ?_
            rotate_left
            · clear hW
              go_simp
              try with_reducible rfl
            simp only [Act.put, List.setIfInBounds_toArray, List.set_cons_zero, List.set_cons_succ]
          refine way_make rfl (by rfl) (fun K hK => ?_)
          go_simp
          refine hK _ _ (fun W => Below w4.heap.size w4 W) (fun W h => h) (bel_new B5.out _) ?_
          clear hK K
          repeat
            refine way_pure (v := ?_) rfl (by rfl) (fun W hW => ?_) ?_
            rotate_left
            · clear hW
              go_simp
              try with_reducible rfl
            simp only [Act.put, List.setIfInBounds_toArray, List.set_cons_zero, List.set_cons_succ]
          refine way_make rfl (by rfl) (fun K hK => ?_)
          go_simp
          refine hK _ _ (fun W => Below w4.heap.size w4 W) (fun W h => h) (bel_new B5.out _) ?_
          clear hK K
          repeat
            refine way_pure (v := ?_) rfl (by rfl) (fun W hW => ?_) ?_
            rotate_left
            · clear hW
              go_simp
              try with_reducible rfl
            simp only [Act.put, List.setIfInBounds_toArray, List.set_cons_zero, List.set_cons_succ]
          refine way_done ?_
          go_wp2
          go_ret
          exact ⟨rfl, bel_more B4.out (Nat.le_refl _) (bel_new B5.out _)⟩
        · go_simp
          have K5 := Lib.hid (show Below w4.heap.size w4 (w4.alloc (.cells #[.slice none 0 0, .int .i64 0, .int .i64 0, .string ⟨#[]⟩] 33)).drew from bel_drewN (bel_new (Below.refl _ _) _) 1)
          have Q5 := Lib.hid (show Blk (w4.alloc (.cells #[.slice none 0 0, .int .i64 0, .int .i64 0, .string ⟨#[]⟩] 33)).drew w4.heap.size 33 [.slice none 0 0, .int .i64 0, .int .i64 0, .string ⟨#[]⟩] from Blk.new w4 _ _)
          generalize (w4.alloc (.cells #[.slice none 0 0, .int .i64 0, .int .i64 0, .string ⟨#[]⟩] 33)).drew = w5 at *
          refine hK _ w5 (fun W => Below w4.heap.size w4 W) (fun W h => h) K5.out ?_
          clear hK K
          have HC := Lib.hid (step_calls (H4.below K5.out) none 0 0 [] 7 (ttl : Int) pay Row.nil (by omega) (by omega) (by decide))
          refine way_make rfl (by rfl) (fun K hK => ?_)
          go_simp
          ((with_reducible refine HC.out.mono ?_))
          rintro e w6 h6
          obtain ⟨rfl, b6⟩ := h6.err HS.out
          have K6 := Lib.hid (bel_more K5.out (Nat.le_refl _) b6)
          have Q6 := Lib.hid (Q5.out.below b6)
          clear h6 b6
          go_simp
          refine hK _ w6 (fun W => Below w4.heap.size w4 W) (fun W h => h) K6.out ?_
          clear hK K
          repeat
            refine way_pure (v := ?_) rfl (by rfl) (fun W hW => ?_) ?_
            rotate_left
            · clear hW
              go_simp
              try with_reducible rfl
            simp only [Act.put, List.setIfInBounds_toArray, List.set_cons_zero, List.set_cons_succ]
          have r0 : w6.cell? ⟨w4.heap.size, 0, none⟩ = some (.slice none 0 0) := Q6.out.cell 0
          have r1 : w6.cell? ⟨w4.heap.size, 1, none⟩ = some (.int .i64 0) := Q6.out.cell 1
          have r2 : w6.cell? ⟨w4.heap.size, 2, none⟩ = some (.int .i64 0) := Q6.out.cell 2
          have r3 : w6.cell? ⟨w4.heap.size, 3, none⟩ = some (.string ⟨#[]⟩) := Q6.out.cell 3
          have f0 := Q6.out.free 0
          have f1 := Q6.out.free 1
          have f2 := Q6.out.free 2
          have f3 := Q6.out.free 3
          refine way_make rfl (by rfl) (fun K hK => ?_)
          go_simp
          have K7 := Lib.hid (bel_set4 (q := w4.heap.size) K6.out (Nat.le_refl _) (.slice none 0 0) (.int .i64 0) (.int .i64 0) (.string ⟨#[]⟩))
          refine hK _ _ (fun W => Below w4.heap.size w4 W) (fun W h => h) K7.out ?_
          clear hK K
          repeat
            refine way_pure (v := ?_) rfl (by rfl) (fun W hW => ?_) ?_
            rotate_left
            · clear hW
              go_simp
              try with_reducible rfl
            simp only [Act.put, List.setIfInBounds_toArray, List.set_cons_zero, List.set_cons_succ]
          refine way_done ?_
          go_wp2
          go_ret
          exact ⟨rfl, bel_more B4.out (Nat.le_refl _) K7.out⟩
      · have hb1 : decide (4096 < (pay.size : Int)) = false := by simp; omega
        go_wp2_with fail
        generalize wr.alloc (.cells #[.slice none 0 0, .int .i64 7, .int .i64 (ttl : Int), .string pay] 33) = w4 at *
        generalize HQ : wr.heap.size = pq at *
        have HPQ := Lib.hid (show w.heap.size ≤ pq by rw [← HQ]; exact HBL.out.size)
        clear C0 C4 G4 HG K4 HT HA HQ
        go_loopw [17] (fun t W => ∃ (a : Nat) (E : Option Addr) (ce : Nat), a ≤ i ∧ a ≤ ttl ∧ t = .int .i64 (a : Int) ∧ AccV W w.heap.size 24 (some ⟨g, 0, none⟩) c (ts.map ptr) ∧ Tabs W i ts ∧ Blk W pq 33 [.slice E (entC i ttl a).length ce, .int .i64 7, .int .i64 (timC i ttl a), .string pay] ∧ AccE W w.heap.size E ce (entC i ttl a) ∧ Below w.heap.size w W) (fun t _ => i - (intOf t).toNat)
        case atStart =>
          refine ⟨0, none, 0, by omega, by omega, rfl, A4.out, T4.out, ?_, ?_, B4.out⟩
          · simpa [entC, timC] using P4.out
          · have : entC i ttl 0 = [] := by simp [entC]
            rw [this]; exact AccR.nil _ _ _
        case round =>
          obtain ⟨a, E, ce, hai, hat, rfl, hA, hT, hP, hE, hB⟩ := hrel
          have HA := Lib.hid hA
          have HT := Lib.hid hT
          have HP := Lib.hid hP
          have HE := Lib.hid hE
          have HB := Lib.hid hB
          clear hA hT hP hE hB A4 T4 B4 P4
          by_cases hlt2 : a < i
          · have hats : a < ts.length := by rw [HTS.out]; exact hlt2
            obtain ⟨g', eg, hgl, hca⟩ := HA.out.cell (i := a) (by simpa using hats)
            injection eg with eg
            injection eg with eg _
            subst eg
            obtain ⟨lb, ub, ht4⟩ := HT.out a hats
            have CA := Lib.hid (show wr.cell? ⟨g, a, none⟩ = some (ptr ts[a]) by rw [hca]; simp)
            have H4 := Lib.hid ht4
            clear hca ht4
            generalize ts[a] = tba at *
            have HRW := Lib.hid (show Row ec wr wr.heap.size E (entC i ttl a).length (entC i ttl a) from AccR.row HE.out)
            have HCP := Lib.hid (AccR.cap HE.out).1
            have HLN := Lib.hid (show (entC i ttl a).length ≤ 1 by unfold entC; split <;> simp)
            go_upto_region 25 with fail
            go_cut [18, 19, 20] from 80 to 89 (fun s t u wx => CutS wr (stepR (labC i a) (tunC i a) (entC i ttl a) 7 (timC i ttl a) pay.size) 7 pay s t u wx)
            case first =>
              generalize hent : entC i ttl a = ents at *
              generalize htim : timC i ttl a = tim at *
              generalize hlen : ents.length = ln at *
              refine region_way (fun W => Below wr.heap.size wr W)
                (.step 0 true (.step 1 true (.step 2 true (.step 3 true (.step 4 true (.both 5 10 (.step 6 true (.step 7 true (.step 8 true (.step 9 true (.step 10 false (.step 11 true (.step 12 false (.step 13 true .done)))))))) (.step 5 false (.step 6 true (.step 7 true (.step 8 true (.step 9 true (.step 11 true (.step 12 false (.step 13 true .done))))))))))))))
                (by kernel_rfl) (by kernel_rfl) (by kernel_rfl) (by kernel_rfl) (fun _ _ _ _ _ h => h) (bel_drewN (Below.refl _ _) 1) ?_
              repeat
                refine way_pure (v := ?_) rfl (by rfl) (fun W hW => ?_) ?_
                rotate_left
                · have d0 : W.cell? ⟨g, a, none⟩ = some (.pointer (some ⟨tba, 0, none⟩)) := (hW.cell (p := ⟨g, a, none⟩) hgl).trans CA.out
                  have p0 : W.cell? ⟨pq, 0, none⟩ = some (.slice E ln ce) := (HP.out.below hW).cell 0
                  have p1 : W.cell? ⟨pq, 1, none⟩ = some (.int .i64 7) := (HP.out.below hW).cell 1
                  have p2 : W.cell? ⟨pq, 2, none⟩ = some (.int .i64 tim) := (HP.out.below hW).cell 2
                  have p3 : W.cell? ⟨pq, 3, none⟩ = some (.string pay) := (HP.out.below hW).cell 3
                  clear hW
                  go_simp
                  try with_reducible rfl
                simp only [Act.put, List.setIfInBounds_toArray, List.set_cons_zero, List.set_cons_succ]
              refine way_both rfl (by rfl) rfl (by rfl) (fun K hK => ?_) (fun K hK => ?_)
              · have HC := Lib.hid (step_calls (H4.out.drew) E ln ce ents 7 tim pay HRW.out.drewS (by have := HLN.out; omega) HCP.out (by decide))
                go_simp
                ((with_reducible refine HC.out.mono ?_))
                rintro e w5 h5
                obtain ⟨nx, er, E5, n5, c5, x5, y5, py, rfl, b5, cut⟩ := cutS_first h5
                have B5 := Lib.hid (below_of_drew b5)
                have CUT := Lib.hid cut
                clear h5 b5 cut
                go_simp
                refine hK _ w5 (fun W => Below wr.heap.size wr W) (fun W h => h) B5.out ?_
                clear hK K
                repeat
                  refine way_pure (v := ?_) rfl (by rfl) (fun W hW => ?_) ?_
                  rotate_left
                  · clear hW
                    go_simp
                    try with_reducible rfl
                  simp only [Act.put, List.setIfInBounds_toArray, List.set_cons_zero, List.set_cons_succ]
                refine way_make rfl (by rfl) (fun K hK => ?_)
                go_simp
                refine hK _ _ (fun W => Below wr.heap.size wr W) (fun W h => h) (bel_new B5.out _) ?_
                clear hK K
                repeat
                  refine way_pure (v := ?_) rfl (by rfl) (fun W hW => ?_) ?_
                  rotate_left
                  · clear hW
                    go_simp
                    try with_reducible rfl
                  simp only [Act.put, List.setIfInBounds_toArray, List.set_cons_zero, List.set_cons_succ]
                refine way_make rfl (by rfl) (fun K hK => ?_)
                go_simp
                refine hK _ _ (fun W => Below wr.heap.size wr W) (fun W h => h) (bel_new B5.out _) ?_
                clear hK K
                repeat
                  refine way_pure (v := ?_) rfl (by rfl) (fun W hW => ?_) ?_
                  rotate_left
                  · clear hW
                    go_simp
                    try with_reducible rfl
                  simp only [Act.put, List.setIfInBounds_toArray, List.set_cons_zero, List.set_cons_succ]
                refine way_done ?_
                go_wp2_with fail
                go_meet
                exact CUT.out.drew
              · go_simp
                have K5 := Lib.hid (show Below wr.heap.size wr (wr.alloc (.cells #[.slice none 0 0, .int .i64 0, .int .i64 0, .string ⟨#[]⟩] 33)).drew from bel_drewN (bel_new (Below.refl _ _) _) 1)
                have Q5 := Lib.hid (show Blk (wr.alloc (.cells #[.slice none 0 0, .int .i64 0, .int .i64 0, .string ⟨#[]⟩] 33)).drew wr.heap.size 33 [.slice none 0 0, .int .i64 0, .int .i64 0, .string ⟨#[]⟩] from Blk.new wr _ _)
                generalize (wr.alloc (.cells #[.slice none 0 0, .int .i64 0, .int .i64 0, .string ⟨#[]⟩] 33)).drew = w5 at *
                refine hK _ w5 (fun W => Below wr.heap.size wr W) (fun W h => h) K5.out ?_
                clear hK K
                have HC := Lib.hid (step_calls (H4.out.below K5.out) E ln ce ents 7 tim pay ((HRW.out.below K5.out).more K5.out.size) (by have := HLN.out; omega) HCP.out (by decide))
                refine way_make rfl (by rfl) (fun K hK => ?_)
                go_simp
                ((with_reducible refine HC.out.mono ?_))
                rintro e w6 h6
                obtain ⟨nx, er, E5, n5, c5, x5, y5, py, rfl, b6, q6, cut⟩ := cutS_then h6 K5.out (Nat.le_refl _) Q5.out rfl
                have K6 := Lib.hid b6
                have Q6 := Lib.hid q6
                have CUT := Lib.hid cut
                clear h6 b6 q6 cut
                go_simp
                refine hK _ w6 (fun W => Below wr.heap.size wr W) (fun W h => h) K6.out ?_
                clear hK K
                repeat
                  refine way_pure (v := ?_) rfl (by rfl) (fun W hW => ?_) ?_
                  rotate_left
                  · clear hW
                    go_simp
                    try with_reducible rfl
                  simp only [Act.put, List.setIfInBounds_toArray, List.set_cons_zero, List.set_cons_succ]
                have r0 : w6.cell? ⟨wr.heap.size, 0, none⟩ = some (.slice none 0 0) := Q6.out.cell 0
                have r1 : w6.cell? ⟨wr.heap.size, 1, none⟩ = some (.int .i64 0) := Q6.out.cell 1
                have r2 : w6.cell? ⟨wr.heap.size, 2, none⟩ = some (.int .i64 0) := Q6.out.cell 2
                have r3 : w6.cell? ⟨wr.heap.size, 3, none⟩ = some (.string ⟨#[]⟩) := Q6.out.cell 3
                have f0 := Q6.out.free 0
                have f1 := Q6.out.free 1
                have f2 := Q6.out.free 2
                have f3 := Q6.out.free 3
                refine way_make rfl (by rfl) (fun K hK => ?_)
                go_simp
                have K7 := Lib.hid (bel_set4 (q := wr.heap.size) K6.out (Nat.le_refl _) (.slice E5 n5 c5) (.int .i64 x5) (.int .i64 y5) (.string py))
                refine hK _ _ (fun W => Below wr.heap.size wr W) (fun W h => h) K7.out ?_
                clear hK K
                repeat
                  refine way_pure (v := ?_) rfl (by rfl) (fun W hW => ?_) ?_
                  rotate_left
                  · clear hW
                    go_simp
                    try with_reducible rfl
                  simp only [Act.put, List.setIfInBounds_toArray, List.set_cons_zero, List.set_cons_succ]
                refine way_done ?_
                go_wp2_with fail
                go_meet
                exact CUT.out
            case rest =>
              obtain ⟨q, rfl, hq, hb, hcase⟩ := hcut
              have BW := Lib.hid (bel_more HB.out (Nat.le_refl _) hb)
              by_cases hst : a = ttl
              · rw [step_stop hm2 hm7 ht (by omega) hlt2 hst] at hcase
                rcases hcase with ⟨er, h1, rfl, rfl, _⟩ | ⟨nx, es, tl, A, cc, h1, _⟩
                · injection h1 with h1
                  subst h1
                  have hst2 : (a : Int) = (ttl : Int) := by omega
                  clear hst
                  go_wp2
                  go_ret
                  exact ⟨rfl, BW.out⟩
                · cases h1
              · rw [step_on hm2 hm7 ht (by omega) hlt2 (by omega)] at hcase
                rcases hcase with ⟨er, h1, _⟩ | ⟨nx, es, tl, E5, c5, h1, rfl, rfl, hq5, ha5⟩
                · cases h1
                · injection h1 with h1
                  injection h1 with h2 h1
                  injection h1 with h3 h4
                  subst h2; subst h3; subst h4
                  have Q5 := Lib.hid hq5
                  have E5' := Lib.hid (ha5.lower HB.out.size)
                  have A5' := Lib.hid (HA.out.bel hb)
                  have T5' := Lib.hid (HT.out.below hb)
                  have P5' := Lib.hid (HP.out.below hb)
                  have HNE : q ≠ pq := by have := HP.out.lt; omega
                  clear hq5 ha5 hb HA HT HP HE HB HRW HCP HLN CA H4 hgl
                  by_cases hl : a + 1 = i
                  · have hl1 : decide ((a : Int) < (i : Int) - 1) = false := by simp; omega
                    go_upto_region 30 with fail
                    generalize hent : entC i ttl (a + 1) = ents at *
                    generalize htim : timC i ttl (a + 1) = tim at *
                    generalize hlen : ents.length = ln at *
                    have HENT := Lib.hid hent
                    have HTIM := Lib.hid htim
                    have HLEN := Lib.hid hlen
                    clear hent htim hlen
                    have PK1 : wc.cell? ⟨q, 0, none⟩ = some (.slice E5 ln c5) := Q5.out.cell 0
                    have PK2 : wc.cell? ⟨q, 1, none⟩ = some (.int .i64 7) := Q5.out.cell 1
                    have PK3 : wc.cell? ⟨q, 2, none⟩ = some (.int .i64 tim) := Q5.out.cell 2
                    have PK4 : wc.cell? ⟨q, 3, none⟩ = some (.string pay) := Q5.out.cell 3
                    refine region_seq (fun W => W.cell? ⟨q, 0, none⟩ = some (.slice E5 ln c5) ∧ W.cell? ⟨q, 1, none⟩ = some (.int .i64 7) ∧ W.cell? ⟨q, 2, none⟩ = some (.int .i64 tim) ∧ W.cell? ⟨q, 3, none⟩ = some (.string pay))
                      [(0, true), (1, true), (2, true), (3, false)]
                      (by kernel_rfl) (by kernel_rfl) (by kernel_rfl) (by kernel_rfl) (fun _ _ _ _ _ h => h) ⟨PK1, PK2, PK3, PK4⟩ ?_
                    clear PK1 PK2 PK3 PK4
                    repeat
                      refine seq_pure (v := ?_) rfl (by rfl) (fun W hW => ?_) ?_
                      rotate_left
                      · obtain ⟨d0, d1, d2, d3⟩ := hW
                        go_simp
                        try with_reducible rfl
                      simp only [Act.put, List.setIfInBounds_toArray, List.set_cons_zero, List.set_cons_succ]
                    have r0 := P5'.out.cell 0
                    have r1 := P5'.out.cell 1
                    have r2 := P5'.out.cell 2
                    have r3 := P5'.out.cell 3
                    simp only [List.getElem?_cons_zero, List.getElem?_cons_succ] at r0 r1 r2 r3
                    have f0 := P5'.out.free 0
                    have f1 := P5'.out.free 1
                    have f2 := P5'.out.free 2
                    have f3 := P5'.out.free 3
                    refine seq_make rfl (by rfl) (fun K hK => ?_)
                    go_simp
                    have G9 := write4_grown wc pq (.slice E5 ln c5) (.int .i64 7) (.int .i64 tim) (.string pay)
                    have Q9 := Lib.hid (show Blk (write4 wc pq (.slice E5 ln c5) (.int .i64 7) (.int .i64 tim) (.string pay)) q 33 [.slice E5 ln c5, .int .i64 7, .int .i64 tim, .string pay] from Q5.out.same (write4_block _ _ _ _ _ HNE))
                    have A9 := Lib.hid (AccV.kept A5'.out G9 (fun x hx e => by injection e with e; exact (AccV.ne A5'.out P5'.out (by decide) x hx) e.symm))
                    have T9 := Lib.hid (T5'.out.write P5'.out (.slice E5 ln c5) (.int .i64 7) (.int .i64 tim) (.string pay))
                    have P9 := Lib.hid (show Blk (write4 wc pq (.slice E5 ln c5) (.int .i64 7) (.int .i64 tim) (.string pay)) pq 33 [.slice E5 ln c5, .int .i64 7, .int .i64 tim, .string pay] from P5'.out.set4 _ _ _ _)
                    have E9 := Lib.hid (AccR.kept E5'.out G9 (fun x hx e => by injection e with e; exact (AccR.ne E5'.out P5'.out (by decide) x hx) e.symm))
                    have B9 := Lib.hid (show Below w.heap.size w (write4 wc pq (.slice E5 ln c5) (.int .i64 7) (.int .i64 tim) (.string pay)) from bel_set4 BW.out HPQ.out _ _ _ _)
                    clear G9
                    unfold write4 at Q9 A9 T9 P9 E9 B9
                    generalize ((((wc.setCell ⟨pq, 0, none⟩ (.slice E5 ln c5)).setCell ⟨pq, 1, none⟩ (.int .i64 7)).setCell ⟨pq, 2, none⟩ (.int .i64 tim)).setCell ⟨pq, 3, none⟩ (.string pay)) = w9 at *
                    refine hK _ _ (fun W => W.cell? ⟨q, 0, none⟩ = some (.slice E5 ln c5) ∧ W.cell? ⟨q, 1, none⟩ = some (.int .i64 7) ∧ W.cell? ⟨q, 2, none⟩ = some (.int .i64 tim) ∧ W.cell? ⟨q, 3, none⟩ = some (.string pay)) (fun W h => h) ⟨Q9.out.cell 0, Q9.out.cell 1, Q9.out.cell 2, Q9.out.cell 3⟩ ?_
                    clear hK K r0 r1 r2 r3 f0 f1 f2 f3
                    refine seq_done ?_
                    go_wp2
                    refine ⟨⟨a + 1, E5, c5, by omega, by omega, by go_num, A9.out.drew, T9.out.drew, ?_, ?_, bel_drewN B9.out 1⟩, by simp [intOf]; omega⟩
                    · rw [HENT.out, HTIM.out, HLEN.out]; exact P9.out.drew
                    · rw [HENT.out]; exact E9.out.drew
                  · have hl1 : decide ((a : Int) < (i : Int) - 1) = true := by simp; omega
                    have HENT := Lib.hid (show entC i ttl (a + 1) = [(15 + ((a + 1 : Nat) : Int), 0, (ttl : Int) - ((a + 1 : Nat) : Int))] by unfold entC; rw [if_neg (by omega)])
                    have htim : timC i ttl (a + 1) = timC i ttl (a + 1) := rfl
                    generalize htim1 : timC i ttl (a + 1) = tim at htim Q5
                    have HTIM := Lib.hid htim1
                    have hmy : may (15 + ((a + 1 : Nat) : Int)) 0 ((ttl : Int) - ((a + 1 : Nat) : Int)) = true := by simp [may, wi]; omega
                    rw [HENT.out] at Q5 E5'
                    have HMY := Lib.hid hmy
                    generalize hX : 15 + ((a + 1 : Nat) : Int) = X at *
                    generalize hZ : (ttl : Int) - ((a + 1 : Nat) : Int) = Z at *
                    obtain ⟨bb, oo, rfl, hbb, hat3⟩ := row_at3 (AccR.row E5'.out) (by simp)
                    obtain ⟨e0, e1, e2⟩ : At3 wc bb oo X 0 Z := by simpa using hat3 0 (by simp)
                    have q0 : wc.cell? ⟨q, 0, none⟩ = some (.slice (some ⟨bb, oo, none⟩) 1 c5) := Q5.out.cell 0
                    clear hat3 htim hmy hX hZ htim1
                    go_wp2_with fail
                    ((with_reducible refine (may_calls X 0 Z _).mono ?_))
                    rintro e w6 ⟨rfl, rfl⟩
                    rw [HMY.out]
                    have k6 := bel_new (Below.refl wc.heap.size wc) (.cells #[.int .i64 X, .int .i64 0, .int .i64 Z] 61)
                    have Q6 := Lib.hid (show Blk (wc.alloc (.cells #[.int .i64 X, .int .i64 0, .int .i64 Z] 61)) q 33 [.slice (some ⟨bb, oo, none⟩) 1 c5, .int .i64 7, .int .i64 tim, .string pay] from Q5.out.below k6)
                    have P6 := Lib.hid (P5'.out.below k6)
                    have A6 := Lib.hid (A5'.out.bel k6)
                    have T6 := Lib.hid (T5'.out.below k6)
                    have E6 := Lib.hid (E5'.out.bel k6)
                    have B6 := Lib.hid (bel_more BW.out (Nat.le_refl _) k6)
                    clear k6 Q5 P5' A5' T5' E5' BW e0 e1 e2 q0
                    generalize wc.alloc (.cells #[.int .i64 X, .int .i64 0, .int .i64 Z] 61) = w6 at *
                    go_upto_region 30 with fail
                    have PK1 : w6.cell? ⟨q, 0, none⟩ = some (.slice (some ⟨bb, oo, none⟩) 1 c5) := Q6.out.cell 0
                    have PK2 : w6.cell? ⟨q, 1, none⟩ = some (.int .i64 7) := Q6.out.cell 1
                    have PK3 : w6.cell? ⟨q, 2, none⟩ = some (.int .i64 tim) := Q6.out.cell 2
                    have PK4 : w6.cell? ⟨q, 3, none⟩ = some (.string pay) := Q6.out.cell 3
                    refine region_seq (fun W => W.cell? ⟨q, 0, none⟩ = some (.slice (some ⟨bb, oo, none⟩) 1 c5) ∧ W.cell? ⟨q, 1, none⟩ = some (.int .i64 7) ∧ W.cell? ⟨q, 2, none⟩ = some (.int .i64 tim) ∧ W.cell? ⟨q, 3, none⟩ = some (.string pay))
                      [(0, true), (1, true), (2, true), (3, false)]
                      (by kernel_rfl) (by kernel_rfl) (by kernel_rfl) (by kernel_rfl) (fun _ _ _ _ _ h => h) ⟨PK1, PK2, PK3, PK4⟩ ?_
                    clear PK1 PK2 PK3 PK4
                    repeat
                      refine seq_pure (v := ?_) rfl (by rfl) (fun W hW => ?_) ?_
                      rotate_left
                      · obtain ⟨d0, d1, d2, d3⟩ := hW
                        go_simp
                        try with_reducible rfl
                      simp only [Act.put, List.setIfInBounds_toArray, List.set_cons_zero, List.set_cons_succ]
                    have r0 := P6.out.cell 0
                    have r1 := P6.out.cell 1
                    have r2 := P6.out.cell 2
                    have r3 := P6.out.cell 3
                    simp only [List.getElem?_cons_zero, List.getElem?_cons_succ] at r0 r1 r2 r3
                    have f0 := P6.out.free 0
                    have f1 := P6.out.free 1
                    have f2 := P6.out.free 2
                    have f3 := P6.out.free 3
                    refine seq_make rfl (by rfl) (fun K hK => ?_)
                    go_simp
                    have G9 := write4_grown w6 pq (.slice (some ⟨bb, oo, none⟩) 1 c5) (.int .i64 7) (.int .i64 tim) (.string pay)
                    have Q9 := Lib.hid (show Blk (write4 w6 pq (.slice (some ⟨bb, oo, none⟩) 1 c5) (.int .i64 7) (.int .i64 tim) (.string pay)) q 33 [.slice (some ⟨bb, oo, none⟩) 1 c5, .int .i64 7, .int .i64 tim, .string pay] from Q6.out.same (write4_block _ _ _ _ _ HNE))
                    have A9 := Lib.hid (AccV.kept A6.out G9 (fun x hx e => by injection e with e; exact (AccV.ne A6.out P6.out (by decide) x hx) e.symm))
                    have T9 := Lib.hid (T6.out.write P6.out (.slice (some ⟨bb, oo, none⟩) 1 c5) (.int .i64 7) (.int .i64 tim) (.string pay))
                    have P9 := Lib.hid (show Blk (write4 w6 pq (.slice (some ⟨bb, oo, none⟩) 1 c5) (.int .i64 7) (.int .i64 tim) (.string pay)) pq 33 [.slice (some ⟨bb, oo, none⟩) 1 c5, .int .i64 7, .int .i64 tim, .string pay] from P6.out.set4 _ _ _ _)
                    have E9 := Lib.hid (AccR.kept E6.out G9 (fun x hx e => by injection e with e; exact (AccR.ne E6.out P6.out (by decide) x hx) e.symm))
                    have B9 := Lib.hid (show Below w.heap.size w (write4 w6 pq (.slice (some ⟨bb, oo, none⟩) 1 c5) (.int .i64 7) (.int .i64 tim) (.string pay)) from bel_set4 B6.out HPQ.out _ _ _ _)
                    clear G9
                    unfold write4 at Q9 A9 T9 P9 E9 B9
                    generalize ((((w6.setCell ⟨pq, 0, none⟩ (.slice (some ⟨bb, oo, none⟩) 1 c5)).setCell ⟨pq, 1, none⟩ (.int .i64 7)).setCell ⟨pq, 2, none⟩ (.int .i64 tim)).setCell ⟨pq, 3, none⟩ (.string pay)) = w9 at *
                    refine hK _ _ (fun W => W.cell? ⟨q, 0, none⟩ = some (.slice (some ⟨bb, oo, none⟩) 1 c5) ∧ W.cell? ⟨q, 1, none⟩ = some (.int .i64 7) ∧ W.cell? ⟨q, 2, none⟩ = some (.int .i64 tim) ∧ W.cell? ⟨q, 3, none⟩ = some (.string pay)) (fun W h => h) ⟨Q9.out.cell 0, Q9.out.cell 1, Q9.out.cell 2, Q9.out.cell 3⟩ ?_
                    clear hK K r0 r1 r2 r3 f0 f1 f2 f3
                    refine seq_done ?_
                    go_wp2
                    refine ⟨⟨a + 1, some ⟨bb, oo, none⟩, c5, by omega, by omega, by go_num, A9.out.drew, T9.out.drew, ?_, ?_, bel_drewN B9.out 1⟩, by simp [intOf]; omega⟩
                    · rw [HENT.out, HTIM.out]; exact P9.out.drew
                    · rw [HENT.out]; exact E9.out.drew
          · have hae : a = i := by omega
            subst hae
            have e1 : entC a ttl a = [] := by unfold entC; rw [if_pos (.inr rfl)]
            have e2 : timC a ttl a = (ttl : Int) - a := by unfold timC; rw [if_neg (by omega), if_pos rfl]
            rw [e1, e2] at HP
            have p0 : wr.cell? ⟨pq, 0, none⟩ = some (.slice E 0 ce) := HP.out.cell 0
            have p1 : wr.cell? ⟨pq, 1, none⟩ = some (.int .i64 7) := HP.out.cell 1
            have p2 : wr.cell? ⟨pq, 2, none⟩ = some (.int .i64 ((ttl : Int) - a)) := HP.out.cell 2
            have p3 : wr.cell? ⟨pq, 3, none⟩ = some (.string pay) := HP.out.cell 3
            have hge : decide ((a : Int) ≤ (ttl : Int)) = true := by simp; omega
            clear e1 e2
            go_wp2
            go_ret
            exact ⟨rfl, HB.out⟩

theorem chain_walk_i (a b : Int) (pay : ByteArray) (w : World) (ha : (Lit.int .u8 a).wf = true) (hb : (Lit.int .u8 b).wf = true) :
    Calls Try.prog 7 #[.int .u8 a, .int .u8 b, .string pay] w fun e w' => e = .returned (.bool true) ∧ Below w.heap.size w w' := by
  have h1 := wf_u8 ha
  have h2 := wf_u8 hb
  obtain ⟨n, rfl⟩ := Int.eq_ofNat_of_zero_le h1.1
  obtain ⟨t, rfl⟩ := Int.eq_ofNat_of_zero_le h2.1
  exact chain_walk n t pay w (by omega) (by omega)
end Go.Proofs.Ytkbbnfinmipenaa
