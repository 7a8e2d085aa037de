/-
  Contracts of slices.Insert and slices.Delete at package soft's states. Condition: at most 2^20 states.
-/
import Derived.Test.YtogijfebfffobaaSofD
import Derived.Test.YtogijfebfffobaaAdcEG
namespace Go.Proofs.Ytogijfebfffobaa
set_option maxRecDepth 100000
set_option linter.unusedVariables false
open Go.RowKit

theorem sizeSs18 (w : World) : (sizeOf 40).run Try.prog w = .ok 17 w := size_of14 infoSsZC w
theorem infoInt18 : Try.prog.underlying 3 = some (.int .i64) := Try.underlying3
/-- What Insert leaves. -/
def Ins18 (w : World) (base : Nat) (A : Option Addr) (ls : List Ss) (i : Nat) (x : Ss) (e : Ending) (w' : World) : Prop :=
  ∃ A' c', e = .returned (.slice A' (ls.length + 1) c') ∧ AccR ssc 17 w' base 40 A' c' (ls.take i ++ x :: ls.drop i) ∧ w.grownBy w' (blk A) ∧ (blk A' = blk A ∨ ∃ g, blk A' = some g ∧ w.heap.size ≤ g)
set_option maxHeartbeats 3200000 in
theorem insert18_calls (A : Option Addr) (n c i vb base : Nat) (ls : List Ss) (x : Ss) (w : World) (h : AccR ssc 17 w base 40 A c ls) (hn : ls.length = n) (hi : i ≤ n) (hnb : n ≤ 1048576) (hbase : base ≤ w.heap.size)
    (hv : Blk w vb 40 (ssc x)) (hne : ∀ g, blk A = some g → vb ≠ g) :
    Calls Try.prog 47 #[.slice A n c, .int .i64 (i : Int), .slice (some ⟨vb, 0, none⟩) 1 1] w (Ins18 w base A ls i x) := by
  obtain ⟨hcap, hcm⟩ := h.cap
  rw [hn] at hcap
  unfold maxLen at hcm
  have hIN : (Try.prog.info? 40).map (·.size) = some 17 := infoSsC
  unfold Ins18
  rw [hn]
  have hvc : ∀ j u, (ssc x)[j]? = some u → w.cell? ⟨vb, j, none⟩ = some u := fun j u hj => by rw [hv.cell j]; exact hj
  have hs1 := fun W => slice_low (P := Try.prog) (a := A) Try.underlying58 sizeSs18 n c i hi W
  rcases Nat.lt_or_eq_of_le hi with hlt | heq
  · obtain ⟨g, rfl⟩ := h.at0 (by omega)
    have hng : vb ≠ g := hne g rfl
    have hlow : lowA (some ⟨g, 0, none⟩) i c 17 = some ⟨g, i * 17, none⟩ := by
      unfold lowA
      rw [if_neg (by omega), Option.map_some, add_plain, Nat.zero_add]
    rw [hlow] at hs1
    have q0 : ((i : Int) == (n : Int)) = false := by simp; omega
    by_cases hroom : n + 1 ≤ c
    · -- there is room
      obtain ⟨w1, w2, r1, r2, hacc, hgr⟩ := accr_shift18 (P := Try.prog) (ST := 58) ssc_length ssc_one h.drew x (by rw [hn]; exact hlt) (by rw [hn]; exact hroom) Try.underlying58 hIN hvc hng
      rw [hn] at r1 r2
      have hs2 := fun W => slice_high (P := Try.prog) (a := some ⟨g, 0, none⟩) Try.underlying58 sizeSs18 (.inr ⟨g, 0, rfl⟩) n c (n + 1) hroom W
      have hs3 := fun W => slice_low (P := Try.prog) (a := some ⟨g, 0, none⟩) Try.underlying58 sizeSs18 (n + 1) c (i + 1) (by omega) W
      have hs4 := fun W => slice_low (P := Try.prog) (a := some ⟨g, 0, none⟩) Try.underlying58 sizeSs18 (n + 1) c i (by omega) W
      have hlow1 : lowA (some ⟨g, 0, none⟩) (i + 1) c 17 = some ⟨g, (i + 1) * 17, none⟩ := by
        unfold lowA
        rw [if_neg (by omega), Option.map_some, add_plain, Nat.zero_add]
      rw [hlow1, show n + 1 - (i + 1) = n - i by omega] at hs3
      rw [hlow] at hs4
      obtain ⟨cur, hh, _, _, hcs, _, _⟩ := h.open
      have hov : ∀ lb cb, (callFunc 59 #[.slice (some ⟨vb, 0, none⟩) 1 1, .slice (some ⟨g, (i + 1) * 17, none⟩) lb cb]).run Try.prog w = .ok (.value (.bool false)) w := fun lb cb => by
        rw [run_callFunc_extern Try.func59 (by kernel_rfl) (by kernel_rfl) (by kernel_rfl) (e := Extern.SlicesOverlaps.overlaps #[58, 58] #[4]) (by kernel_rfl),
          Lib.run_overlaps_apart w 58 4 40 Try.underlying58 17 sizeSs18 ⟨vb, 0, none⟩ ⟨g, (i + 1) * 17, none⟩ 1 1 lb cb hng 40 40 17 (c * 17) (shape18 hv) (by simp [World.shape?, hh, hcs]) (by omega) (hv.free 0) (hv.free 17)]
        rfl
      have e1 : IntKind.i64.wrap ((n : Int) + 1) = ((n + 1 : Nat) : Int) := by rw [IntWalk.i64_in _ (by omega)]; omega
      have e2 : IntKind.i64.wrap ((i : Int) + 1) = ((i + 1 : Nat) : Int) := by rw [IntWalk.i64_in _ (by omega)]; omega
      have g1 : decide ((c : Int) < ((n + 1 : Nat) : Int)) = false := decide_eq_false (by omega)
      have g1' : decide (c < n + 1) = false := decide_eq_false (by omega)
      have HR1 := Lib.hid r1
      have HR2 := Lib.hid r2
      have HA := Lib.hid hacc
      have HG := Lib.hid (show w.grownBy w2 (some g) from ⟨hgr.os, hgr.tape, hgr.output, hgr.size, hgr.block⟩)
      have g2 : ((n + 1 : Nat) : Int) ≤ (c : Int) := by omega
      have g3 : ((i + 1 : Nat) : Int) ≤ ((n + 1 : Nat) : Int) := by omega
      have g4 : (i : Int) ≤ ((n + 1 : Nat) : Int) := by omega
      have g5 : (i : Int) ≤ (n : Int) := by omega
      obtain ⟨M, hM⟩ : ∃ M, n + 1 = M := ⟨_, rfl⟩
      obtain ⟨j, hj⟩ : ∃ j, i + 1 = j := ⟨_, rfl⟩
      rw [hM] at hs2 hs3 hs4 e1 g1 g1' g2 g3 g4 HR1 HR2 ⊢
      rw [hj] at hs3 e2 g3 HR1 hov
      clear h hn hi hnb hbase hv hne hcap hcm hIN hvc hlt hlow hlow1 hng r1 r2 hacc hgr hh hcs hroom hM hj
      go_enter Try.func47, Try.ntmps47
      go_wp2_with (simp only [hov])
      refine region_seq (fun _ => True) [(0, true), (1, true), (2, true), (3, true), (4, true), (5, true), (6, true), (7, true), (8, false)]
        (by kernel_rfl) (by kernel_rfl) (by kernel_rfl) (by kernel_rfl) (fun _ _ _ _ _ h => h) trivial ?_
      repeat
        refine seq_pure (v := ?_) rfl (by rfl) (fun W hW => ?_) ?_
        rotate_left
        · clear hW
          go_simp
          try with_reducible rfl
        simp only [Act.put, List.setIfInBounds_toArray, List.set_cons_zero, List.set_cons_succ]
      refine seq_make rfl (by rfl) (fun K hK => ?_)
      refine op_copy18 rfl rfl rfl (HR1.out _ _ _) ?_
      refine hK _ w1 (fun _ => True) (fun _ h => h) trivial ?_
      clear hK K HR1
      refine seq_done ?_
      go_wp2_with (simp only [HR2.out])
      go_ret
      exact ⟨_, _, rfl, HA.out, HG.out, .inl rfl⟩
    · -- there is none
      have hcn : c = ls.length := by omega
      obtain ⟨G, w1, w2, w3, hGn, hGm, r0, r1, r2, hacc, hbl⟩ := accr_open18 (P := Try.prog) (ST := 58) (IT := 3) ssc_length ssc_one (by omega) h x (by rw [hn]; exact hlt) hcn Try.underlying58 infoSsZC rfl infoInt18 (by omega) (by omega) hbase hvc hv.lt
      rw [hn] at r0 r1 r2 hGn
      unfold maxLen at hGm
      have hcn' : c = n := by omega
      subst hcn'
      have hs2 := fun W => slice_high (P := Try.prog) (a := some ⟨g, 0, none⟩) Try.underlying58 sizeSs18 (.inr ⟨g, 0, rfl⟩) c c i hi W
      have hs3 := fun W => slice_low (P := Try.prog) (a := some ⟨w.heap.size, 0, none⟩) Try.underlying58 sizeSs18 (c + 1) G (i + 1) (by omega) W
      have hs4 := fun W => slice_low (P := Try.prog) (a := some ⟨w.heap.size, 0, none⟩) Try.underlying58 sizeSs18 (c + 1) G i (by omega) W
      have hlow1 : lowA (some ⟨w.heap.size, 0, none⟩) (i + 1) G 17 = some ⟨w.heap.size, (i + 1) * 17, none⟩ := by
        unfold lowA
        rw [if_neg (by omega), Option.map_some, add_plain, Nat.zero_add]
      have hlow2 : lowA (some ⟨w.heap.size, 0, none⟩) i G 17 = some ⟨w.heap.size, i * 17, none⟩ := by
        unfold lowA
        rw [if_neg (by omega), Option.map_some, add_plain, Nat.zero_add]
      rw [hlow1, show c + 1 - (i + 1) = c - i by omega] at hs3
      rw [hlow2] at hs4
      have e1 : IntKind.i64.wrap ((c : Int) + 1) = ((c + 1 : Nat) : Int) := by rw [IntWalk.i64_in _ (by omega)]; omega
      have e2 : IntKind.i64.wrap ((i : Int) + 1) = ((i + 1 : Nat) : Int) := by rw [IntWalk.i64_in _ (by omega)]; omega
      have e3 : IntKind.i64.wrap (((c + 1 : Nat) : Int) - (i : Int)) = ((c + 1 - i : Nat) : Int) := by rw [IntWalk.i64_in _ (by omega)]; omega
      have g1 : decide ((c : Int) < ((c + 1 : Nat) : Int)) = true := decide_eq_true (by omega)
      have g1' : decide (c < c + 1) = true := decide_eq_true (by omega)
      have g3 : ((i + 1 : Nat) : Int) ≤ ((c + 1 : Nat) : Int) := by omega
      have g4 : (i : Int) ≤ ((c + 1 : Nat) : Int) := by omega
      have g5 : (i : Int) ≤ (c : Int) := by omega
      have HR0 := Lib.hid r0
      have HR1 := Lib.hid r1
      have HR2 := Lib.hid r2
      have HA := Lib.hid hacc
      have HB := Lib.hid hbl
      obtain ⟨M, hM⟩ : ∃ M, c + 1 = M := ⟨_, rfl⟩
      obtain ⟨j, hj⟩ : ∃ j, i + 1 = j := ⟨_, rfl⟩
      obtain ⟨d, hd⟩ : ∃ d, M - i = d := ⟨_, rfl⟩
      rw [hM] at hs3 hs4 e1 e3 g1 g1' g3 g4 HR0 HR1 ⊢
      rw [hj] at hs3 e2 g3 HR2
      rw [hd] at hs4 e3 HR0 HR1
      obtain ⟨q, hq⟩ : ∃ q, w.heap.size = q := ⟨_, rfl⟩
      have HQ := Lib.hid hq
      rw [hq] at hs3 hs4 HR0 HR1 HR2 HA
      clear h hn hi hnb hbase hv hne hcap hcm hIN hvc hlt hlow hlow1 hlow2 hng r0 r1 r2 hacc hbl hroom hM hj hd hcn hGn hGm hq
      go_enter Try.func47, Try.ntmps47
      go_wp2_with (first | (at_builtin; refine Lib.wpList_append_run w rfl _ _ _ _ rfl _ _ rfl rfl _ _ (HR0.out _) ?_) | (simp only [HR1.out]))
      refine region_seq (fun _ => True) [(0, true), (1, true), (2, true), (3, true), (4, true), (5, true), (6, true), (7, true), (8, false)]
        (by kernel_rfl) (by kernel_rfl) (by kernel_rfl) (by kernel_rfl) (fun _ _ _ _ _ h => h) trivial ?_
      repeat
        refine seq_pure (v := ?_) rfl (by rfl) (fun W hW => ?_) ?_
        rotate_left
        · clear hW
          go_simp
          try with_reducible rfl
        simp only [Act.put, List.setIfInBounds_toArray, List.set_cons_zero, List.set_cons_succ]
      refine seq_make rfl (by rfl) (fun K hK => ?_)
      refine op_copy18 rfl rfl rfl (HR2.out _ _ _) ?_
      refine hK _ w3 (fun _ => True) (fun _ h => h) trivial ?_
      clear hK K HR2
      refine seq_done ?_
      go_wp2_with fail
      go_ret
      exact ⟨_, _, rfl, HA.out, ⟨HB.out.os, HB.out.tape, HB.out.output, HB.out.size, fun b hb _ => HB.out.block b hb⟩, .inr ⟨_, rfl, Nat.le_of_eq HQ.out⟩⟩
  · -- at the end
    subst heq
    have hrow : Row ssc w w.heap.size (some ⟨vb, 0, none⟩) 1 [x] := by
      refine ⟨rfl, fun _ => ⟨vb, 0, rfl, hv.lt, fun j hj => ?_⟩⟩
      rw [Nat.zero_add]
      have e : [x].flatMap ssc = ssc x := by simp
      simp only [e] at hj ⊢
      exact hvc j _ (List.getElem?_eq_getElem hj)
    obtain ⟨A', c', w', hrun, hacc, hgr, hbk⟩ := accr_append (P := Try.prog) (ty := 58) (cc := 1) ssc_length ssc_one (by omega) h hrow Try.underlying58 infoSsZC rfl hbase (by omega) (by omega)
    rw [hn] at hrun
    have HRUN := Lib.hid hrun
    have HA := Lib.hid (show AccR ssc 17 w' base 40 A' c' (ls.take i ++ x :: ls.drop i) by rw [← hn, List.take_length, List.drop_length]; exact hacc)
    have HG := Lib.hid hgr
    have HB := Lib.hid (show blk A' = blk A ∨ ∃ g, blk A' = some g ∧ w.heap.size ≤ g from hbk.imp id fun e => ⟨_, e, Nat.le_refl _⟩)
    have q0 : ((i : Int) == (i : Int)) = true := by simp
    have g5 : (i : Int) ≤ (i : Int) := Int.le_refl _
    obtain ⟨M, hM⟩ : ∃ M, i + 1 = M := ⟨_, rfl⟩
    rw [hM] at HRUN ⊢
    clear h hn hi hnb hbase hv hne hcap hcm hIN hvc hrow hrun hacc hgr hbk hM
    go_enter Try.func47, Try.ntmps47
    go_wp2_with (at_builtin; refine step_append (o := ⟨some 25, _, _, _, _, _⟩) rfl rfl rfl rfl HRUN.out ?_)
    go_ret
    exact ⟨A', c', rfl, HA.out, HG.out, HB.out⟩
set_option maxHeartbeats 1600000 in
theorem delete18_calls (g c m i base : Nat) (l : List Ss) (w : World) (h : AccR ssc 17 w base 40 (some ⟨g, 0, none⟩) c l) (hm : l.length = m + 1) (hi : i < l.length) (hn : l.length ≤ 1048576) :
    Calls Try.prog 46 #[.slice (some ⟨g, 0, none⟩) (m + 1) c, .int .i64 (i : Int), .int .i64 ((i + 1 : Nat) : Int)] w fun e w' => e = .returned (.slice (some ⟨g, 0, none⟩) m c) ∧ AccR ssc 17 w' base 40 (some ⟨g, 0, none⟩) c (l.eraseIdx i) ∧ w.grownBy w' (some g) := by
  obtain ⟨hcap, hcm⟩ := h.cap
  unfold maxLen at hcm
  have hs1 := fun W => slice_high (P := Try.prog) (a := some ⟨g, 0, none⟩) Try.underlying58 sizeSs18 (.inr ⟨g, 0, rfl⟩) (m + 1) c i (by omega) W
  have hs2 := fun W => slice_low (P := Try.prog) (a := some ⟨g, 0, none⟩) Try.underlying58 sizeSs18 (m + 1) c (i + 1) (by omega) W
  have hs3 := fun W => slice_mid (P := Try.prog) (a := some ⟨g, 0, none⟩) Try.underlying58 sizeSs18 m c m (m + 1) (by omega) (by omega) W
  have hA : ∃ A2, lowA (some ⟨g, 0, none⟩) (i + 1) c 17 = some A2 ∧ (A2 = ⟨g, (i + 1) * 17, none⟩ ∨ i + 1 = l.length) := by
    unfold lowA
    split
    · exact ⟨_, rfl, .inr (by omega)⟩
    · exact ⟨_, rfl, .inl (by show (⟨g, 0, none⟩ : Addr).add ((i + 1) * 17) = _; rw [add_plain, Nat.zero_add])⟩
  obtain ⟨A2, hA2, hA⟩ := hA
  rw [hA2] at hs2
  have h3 : lowA (some ⟨g, 0, none⟩) m c 17 = some ⟨g, m * 17, none⟩ := by
    unfold lowA
    rw [if_neg (by omega), Option.map_some, add_plain, Nat.zero_add]
  rw [h3] at hs3
  obtain ⟨w3, hrun, hacc, hgr, hsz⟩ := accr_cut (P := Try.prog) (ty := 58) (cc := c - (i + 1)) ssc_length ssc_one h.drew hi Try.underlying58 infoSsZC hA
  have hel : (l.eraseIdx i).length = m := by rw [List.length_eraseIdx, if_pos hi]; omega
  obtain ⟨w4, hcl, hacc4, hgr4, hsz4⟩ := accr_clear (P := Try.prog) (cc := c - m) ssc_length hacc (by omega) Try.underlying58 (zero_of14 infoSsZC) (by rw [zeroCells_one]; rfl) (by rw [zeroCells_one]; exact (ssc_one z18))
  rw [hel] at hcl
  rw [hm, show m + 1 - 1 = m by omega] at hrun
  rw [show m + 1 - m = 1 by omega] at hs3
  have HRUN := Lib.hid hrun
  have HA4 := Lib.hid hacc4
  have HG := Lib.hid (show w.grownBy w4 (some g) from ⟨(hgr4.os.trans hgr.os), (hgr4.tape.trans hgr.tape), (hgr4.output.trans hgr.output), Nat.le_trans hgr.size hgr4.size, fun j hj hne => (hgr4.block j (Nat.lt_of_lt_of_le hj hgr.size) hne).trans (hgr.block j hj hne)⟩)
  have b1 : (0 : Int) ≤ (i : Int) := by omega
  have b2 : (i : Int) ≤ ((i + 1 : Nat) : Int) := by omega
  have b3 : ((i + 1 : Nat) : Int) ≤ ((m + 1 : Nat) : Int) := by omega
  have b4 : ((m + 1 : Nat) : Int) ≤ (c : Int) := by omega
  have b5 : ((i : Int) == ((i + 1 : Nat) : Int)) = false := by simp; omega
  have hsl : ∀ W, (Instr.sliceAt 58 (.slice (some ⟨g, 0, none⟩) (m + 1) c) (some (.int .i64 (i : Int))) (some (.int .i64 ((i + 1 : Nat) : Int))) (some (.int .i64 ((m + 1 : Nat) : Int)))).run Try.prog W = .ok (.slice (lowA (some ⟨g, 0, none⟩) i (m + 1) 17) 1 (m + 1 - i)) W := by
    intro W
    rw [run_sliceAt_slice (P := Try.prog) (w := W) 58 _ _ _ _ (elem_of Try.underlying58), run_slice_lhm (P := Try.prog) (w := W) 58 (some ⟨g, 0, none⟩) (m + 1) c (elem_of Try.underlying58) .i64 .i64 .i64 _ _ _ b1 b2 b3 b4]
    rw [show Try.prog.elem 58 = 40 by simp [Program.elem, Try.underlying58], sizeSs18 W]
    simp only [sliced, Result.andThen, lowA, Int.toNat_natCast]
    rw [show i + 1 - i = 1 by omega]
  obtain ⟨A9, hA9⟩ : ∃ A9, lowA (some ⟨g, 0, none⟩) i (m + 1) 17 = A9 := ⟨_, rfl⟩
  rw [hA9] at hsl
  obtain ⟨j, hj⟩ : ∃ j, i + 1 = j := ⟨_, rfl⟩
  obtain ⟨M, hM⟩ : ∃ M, m + 1 = M := ⟨_, rfl⟩
  rw [hj] at b2 b3 b5 hs2 hsl hrun HRUN ⊢
  rw [hM] at b3 b4 hs1 hs2 hs3 hsl HRUN ⊢
  clear h hacc hacc4 hgr hgr4 hsz hsz4 hA hA2 h3 hrun hel hA9 hm hi hn hcap hcm hj hM b1 b2 b3 b4
  go_enter Try.func46, Try.ntmps46
  go_wp2_with fail
  refine region_seq (fun _ => True) [(0, true), (1, true), (2, true), (3, true), (4, true), (5, true), (6, false), (7, true)]
    (by kernel_rfl) (by kernel_rfl) (by kernel_rfl) (by kernel_rfl) (fun _ _ _ _ _ h => h) trivial ?_
  repeat
    refine seq_pure (v := ?_) rfl (by rfl) (fun W hW => ?_) ?_
    rotate_left
    · clear hW
      go_simp
      try with_reducible rfl
    simp only [Act.put, List.setIfInBounds_toArray, List.set_cons_zero, List.set_cons_succ]
  refine seq_make rfl (by rfl) (fun K hK => ?_)
  refine op_append rfl rfl rfl HRUN.out ?_
  refine hK _ w3 (fun _ => True) (fun _ h => h) trivial ?_
  clear hK K HRUN
  repeat
    refine seq_pure (v := ?_) rfl (by rfl) (fun W hW => ?_) ?_
    rotate_left
    · clear hW
      go_simp
      try with_reducible rfl
    simp only [Act.put, List.setIfInBounds_toArray, List.set_cons_zero, List.set_cons_succ]
  refine seq_done ?_
  go_wp2_with fail
  go_ret
  exact ⟨rfl, HA4.out, HG.out⟩
end Go.Proofs.Ytogijfebfffobaa
