/-
  The walk of the statement OctetBack: for any numbers and any widths it answers true, and nothing that was there has turned. Conditions: the arguments read as lists.
-/
import Derived.Test.YtkjkgjkjjiejaaaAlive
import Derived.Test.YtkjkgjkjjiejaaaBackP
import Derived.Test.YtkjkgjkjjiejaaaPutsW
import Derived.Deep.DeepCutAuto
namespace Go.Proofs.Ytkjkgjkjjiejaaa
open Go.RowKit

/-- The slice value '.slice a n _' reads as these numbers; where there are any they lie in a block below 'B'. -/
def Ints (w : World) (B : Nat) (kd : IntKind) (a : Option Addr) (n : Nat) (zs : List Int) : Prop :=
  zs.length = n ∧ (0 < n → ∃ b o : Nat, a = some ⟨b, o, none⟩ ∧ b < B ∧ ∀ (i : Nat) (h : i < zs.length), w.cell? ⟨b, o + i, none⟩ = some (.int kd zs[i]))
theorem Ints.below {w w' : World} {B n : Nat} {kd : IntKind} {a : Option Addr} {zs : List Int} (h : Ints w B kd a n zs) (hb : Below B w w') : Ints w' B kd a n zs :=
  ⟨h.1, fun hn => by
    obtain ⟨b, o, e, hbB, hc⟩ := h.2 hn
    exact ⟨b, o, e, hbB, fun i hi => (World.cell?_of_block (w := w) (hb.block b hbB)).trans (hc i hi)⟩⟩

theorem byt_bel {W W' : World} {A : Option Addr} {l : List UInt8} (h : Byt W A l) (hb : Below W.heap.size W W') : Byt W' A l := by
  rcases h with h | ⟨g, rfl, ho⟩
  · exact .inl h
  · exact .inr ⟨g, rfl, ho.below hb ho.lt⟩

/-- The three slices that are gathered. -/
def St (w W : World) (s5 s6 s7 : Value) (ps : List (Nat × Nat)) : Prop :=
  ∃ A5 c5 A6 c6 A7 c7, s5 = .slice A5 (flat ps).length c5 ∧ s6 = .slice A6 ps.length c6 ∧ s7 = .slice A7 ps.length c7 ∧ Byt W A5 (flat ps) ∧
    AccV W w.heap.size 34 A6 c6 (us ps) ∧ AccV W w.heap.size 3 A7 c7 (ws ps) ∧ Below w.heap.size w W

theorem info64 : (Try.prog.info? 34).map (fun i => (i.zero, i.size, i.bytes)) = some (some (.int .u64 0), 1, 8) := by kernel_rfl
theorem infoInt : (Try.prog.info? 3).map (fun i => (i.zero, i.size, i.bytes)) = some (some (.int .i64 0), 1, 8) := by kernel_rfl

/-- The three slices behind one more number. -/
theorem st_snoc {w W : World} {ps : List (Nat × Nat)} {u m : Nat} {A5 A6 A7 : Option Addr} {c5 c6 c7 : Nat} (h5 : Byt W A5 (flat ps ++ dig m u)) (h6 : AccV W w.heap.size 34 A6 c6 (us ps ++ [.int .u64 (u : Int)]))
    (h7 : AccV W w.heap.size 3 A7 c7 (ws ps ++ [.int .i64 (m : Int)])) (hb : Below w.heap.size w W) :
    St w W (.slice A5 ((flat ps).length + m) c5) (.slice A6 (ps.length + 1) c6) (.slice A7 (ps.length + 1) c7) (ps ++ [(u, m)]) := by
  refine ⟨A5, c5, A6, c6, A7, c7, ?_, ?_, ?_, ?_, ?_, ?_, hb⟩
  · rw [flat_snoc, List.length_append, dig_length]
  · rw [List.length_append]; rfl
  · rw [List.length_append]; rfl
  · rw [flat_snoc]; exact h5
  · rw [us_snoc]; exact h6
  · rw [ws_snoc]; exact h7

theorem cell_new (W : World) (x : Value) (T : TypeId) : (W.alloc (.cells #[x] T)).cell? ⟨W.heap.size, 0, none⟩ = some x := (cell_of_row _ _ 0 _ _ _ (heap_alloc_new W (.cells #[x] T))).trans rfl

set_option maxRecDepth 100000 in
set_option maxHeartbeats 4000000 in
theorem back_walk (a : Option Addr) (n c : Nat) (zs : List Int) (a2 : Option Addr) (n2 c2 : Nat) (ns : List Int) (w : World) (h : Ints w w.heap.size .u64 a n zs) (h2 : Ints w w.heap.size .i64 a2 n2 ns)
    (hz : ∀ z ∈ zs, 0 ≤ z ∧ z < 18446744073709551616) (hn : n ≤ 9223372036854775807) (hn2 : n2 ≤ 9223372036854775807) :
    Calls Try.prog 5 #[.slice a n c, .slice a2 n2 c2] w fun e w' => e = .returned (.bool true) ∧ Below w.heap.size w w' := by
  have HI := Lib.hid h
  have HJ := Lib.hid h2
  have HZ := Lib.hid hz
  clear h h2 hz
  go_enter Try.func5, Try.ntmps5
  go_wp2_with fail
  ((with_reducible refine (alive_calls w).mono ?_))
  rintro e w1 ⟨rfl, b1⟩
  go_wp2_with fail
  go_loopw [5, 6, 7, 8] (fun s5 s6 s7 t W => ∃ k : Nat, ∃ ps : List (Nat × Nat), k ≤ 64 ∧ ps.length ≤ k ∧ Good ps ∧ t = .int .i64 (k : Int) ∧ St w W s5 s6 s7 ps) (fun _ _ _ t _ => 64 - (intOf t).toNat)
  case atStart => exact ⟨0, [], by omega, by simp, (fun p hp => by cases hp), rfl, none, 0, none, 0, none, 0, rfl, rfl, rfl, .inl ⟨rfl, rfl⟩, AccV.nil _ _ _, AccV.nil _ _ _, b1⟩
  case round =>
    obtain ⟨k, ps, hk, hpk, hgood, rfl, A5, c5, A6, c6, A7, c7, rfl, rfl, rfl, hb5, h6, h7, hbel⟩ := hrel
    have HG := Lib.hid hgood
    have H5 := Lib.hid hb5
    have H6 := Lib.hid h6
    have H7 := Lib.hid h7
    have HB := Lib.hid hbel
    have hfl : (flat ps).length ≤ 512 := by have := flat_le hgood; omega
    clear hgood hb5 h6 h7 hbel
    by_cases hc : k < n ∧ k < n2 ∧ k < 64
    · obtain ⟨g1, g2, g3⟩ := hc
      obtain ⟨b, o, rfl, hbB, hc1⟩ := (HI.out.below HB.out).2 (by omega)
      obtain ⟨b', o', rfl, hbB', hc2⟩ := (HJ.out.below HB.out).2 (by omega)
      have hzl : zs.length = n := HI.out.1
      have hnl : ns.length = n2 := HJ.out.1
      have x1 := hc1 k (by omega)
      have x2 := hc2 k (by omega)
      have hzr := HZ.out zs[k] (List.getElem_mem (by omega))
      generalize zs[k] = U at *
      generalize ns[k] = N at *
      clear hc1 hc2 hzl hnl
      obtain ⟨u, rfl⟩ := Int.eq_ofNat_of_zero_le hzr.1
      have HU := Lib.hid hzr.2
      clear hzr
      by_cases hok : (1 ≤ N ∧ N ≤ 8) ∧ u < 256 ^ N.toNat
      · obtain ⟨⟨hN1, hN8⟩, hfit⟩ := hok
        obtain ⟨m, rfl⟩ := Int.eq_ofNat_of_zero_le (show 0 ≤ N by omega)
        have hm1 : 1 ≤ m := by omega
        have hm8 : m ≤ 8 := by omega
        have HF := Lib.hid (show u < 256 ^ m by simpa using hfit)
        clear hfit
        have KS := Lib.hid (show ∀ W, Below w.heap.size w W → W.cell? ⟨b, o + k, none⟩ = some (.int .u64 (u : Int)) ∧ W.cell? ⟨b', o' + k, none⟩ = some (.int .i64 (m : Int)) from
          fun W hW => ⟨(World.cell?_of_block (w := wr) ((hW.block b hbB).trans (HB.out.block b hbB).symm)).trans x1, (World.cell?_of_block (w := wr) ((hW.block b' hbB').trans (HB.out.block b' hbB').symm)).trans x2⟩)
        have t0 : (0 : Int) ≤ (k : Int) := by omega
        have t1 : (k : Int) < (n : Int) := by omega
        have t2 : (k : Int) < (n2 : Int) := by omega
        have t3 : (k : Int) < 64 := by omega
        have H5b := Lib.hid H5.out.bts
        go_wp2_with fail
        refine region_seq (fun W => W.cell? ⟨b, o + k, none⟩ = some (.int .u64 (u : Int)) ∧ W.cell? ⟨b', o' + k, none⟩ = some (.int .i64 (m : Int)))
          [(0, true), (1, true), (2, true), (3, true), (4, true), (5, true), (6, true), (7, true), (8, true), (9, false), (10, true), (11, true), (12, true), (13, true), (14, true)]
          (by kernel_rfl) (by kernel_rfl) (by kernel_rfl) (by kernel_rfl) (fun _ _ _ _ _ h => h) ⟨x1, x2⟩ ?_
        repeat
          refine seq_pure (v := ?_) rfl (by rfl) (fun W hW => ?_) ?_
          rotate_left
          · go_simp
            try with_reducible rfl
          simp only [Act.put, List.setIfInBounds_toArray, List.set_cons_zero, List.set_cons_succ]
        refine seq_make rfl (by rfl) (fun K hK => ?_)
        go_simp
        ((with_reducible refine (put_ok A5 _ c5 (flat ps) m u _ H5b.out.drewS (by omega) hm1 hm8 HF.out).mono ?_))
        rintro e w3 ⟨rfl, h3, b3⟩
        have B3 := Lib.hid (below_of_drew b3)
        have b3w := bel_more HB.out (Nat.le_refl _) B3.out
        have B3w := Lib.hid b3w
        have O3 := Lib.hid (show Byt w3 (some ⟨wr.heap.size, 0, none⟩) (flat ps ++ dig m u) from .inr ⟨_, rfl, h3⟩)
        have P6 := Lib.hid (H6.out.bel B3.out)
        have P7 := Lib.hid (H7.out.bel B3.out)
        clear h3 b3
        go_simp
        refine hK _ w3 _ (fun W h => h) (KS.out _ b3w) ?_
        clear hK K b3w
        repeat
          refine seq_pure (v := ?_) rfl (by rfl) (fun W hW => ?_) ?_
          rotate_left
          · go_simp
            try with_reducible rfl
          simp only [Act.put, List.setIfInBounds_toArray, List.set_cons_zero, List.set_cons_succ]
        refine seq_done ?_
        have e1 := (KS.out _ B3w.out).1
        have e2 := (KS.out _ B3w.out).2
        go_wp2_with fail
        refine region_way (fun W => W.cell? ⟨b, o + k, none⟩ = some (.int .u64 (u : Int)) ∧ W.cell? ⟨b', o' + k, none⟩ = some (.int .i64 (m : Int)))
          (.step 0 true (.step 1 true (.step 2 true (.step 3 true (.step 4 true (.step 5 true (.step 8 true (.step 9 true (.step 10 true (.step 11 true (.step 12 true (.both 6 13 (.both 7 13 (.step 13 false (.step 14 false (.step 15 true (.step 16 true (.step 17 true .done))))) (.step 7 false (.step 14 false (.step 15 true (.step 16 true (.step 17 true .done)))))) (.step 6 false (.step 7 false (.step 14 false (.step 15 true (.step 16 true (.step 17 true .done))))))))))))))))))
          (by kernel_rfl) (by kernel_rfl) (by kernel_rfl) (by kernel_rfl) (fun _ _ _ _ _ h => h) ⟨e1, e2⟩ ?_
        repeat
          refine way_pure (v := ?_) rfl (by rfl) (fun W hW => ?_) ?_
          rotate_left
          · go_simp
            try with_reducible rfl
          simp only [Act.put, List.setIfInBounds_toArray, List.set_cons_zero, List.set_cons_succ]
        refine way_both rfl (by rfl) rfl (by rfl) (fun K hK => ?_) (fun K hK => ?_)
        · go_simp
          have bA : Below w.heap.size w (w3.alloc (.cells #[.int .u64 (u : Int)] 34)).drew := (B3w.out.alloc B3w.out.size _).drew
          have BA := Lib.hid bA
          refine hK _ _ _ (fun W h => h) (KS.out _ bA) ?_
          clear hK K bA
          refine way_both rfl (by rfl) rfl (by rfl) (fun K hK => ?_) (fun K hK => ?_)
          · obtain ⟨A6', c6', V1, r7, p6, p7, o5, bV, _⟩ := push_one (P := Try.prog) (ty := 49) (O3.out.alloc _).drew (P6.out.alloc _).drew (P7.out.alloc _).drew BA.out (by decide) (by decide) Try.underlying49 info64 rfl (cell_new w3 (.int .u64 (u : Int)) 34) rfl (by rw [us_length]; omega)
            rw [us_length] at r7
            have R7 := Lib.hid r7
            have Q6 := Lib.hid p6
            have Q7 := Lib.hid p7
            have Q5 := Lib.hid o5
            have BV := Lib.hid bV
            clear r7 p6 p7 o5 bV
            refine op_append rfl rfl rfl R7.out ?_
            simp only [Act.put, List.setIfInBounds_toArray, List.set_cons_zero, List.set_cons_succ]
            refine hK _ _ _ (fun W h => h) (KS.out _ BV.out) ?_
            clear hK K
            refine way_make rfl (by rfl) (fun K hK => ?_)
            go_simp
            have bA2 : Below w.heap.size w (V1.alloc (.cells #[.int .i64 (m : Int)] 3)) := BV.out.alloc BV.out.size _
            have BA2 := Lib.hid bA2
            refine hK _ _ _ (fun W h => h) (KS.out _ bA2) ?_
            clear hK K bA2
            obtain ⟨A7', c7', V2, r14, p7, p6, o5, bV2, _⟩ := push_one (P := Try.prog) (ty := 50) (Q5.out.alloc _) (Q7.out.alloc _) (Q6.out.alloc _) BA2.out (by decide) (by decide) Try.underlying50 infoInt rfl (cell_new V1 (.int .i64 (m : Int)) 3) rfl (by rw [ws_length]; omega)
            rw [ws_length] at r14
            have R14 := Lib.hid r14
            have FIN := Lib.hid (st_snoc (c5 := (flat ps).length + m) o5 p6 p7 bV2)
            have BV2 := Lib.hid bV2
            clear r14 p6 p7 o5 bV2
            refine way_make rfl (by rfl) (fun K hK => ?_)
            refine op_append rfl rfl rfl R14.out ?_
            simp only [Act.put, List.setIfInBounds_toArray, List.set_cons_zero, List.set_cons_succ]
            refine hK _ _ _ (fun W h => h) (KS.out _ BV2.out) ?_
            clear hK K
            repeat
              refine way_pure (v := ?_) rfl (by rfl) (fun W hW => ?_) ?_
              rotate_left
              · go_simp
                try with_reducible rfl
              simp only [Act.put, List.setIfInBounds_toArray, List.set_cons_zero, List.set_cons_succ]
            refine way_done ?_
            go_wp2
            exact ⟨⟨k + 1, ps ++ [(u, m)], by omega, by simp; omega, good_snoc HG.out hm1 hm8 HF.out, by go_num, FIN.out⟩, by simp [intOf]; omega⟩
          · go_simp
            have bA2 : Below w.heap.size w ((w3.alloc (.cells #[.int .u64 (u : Int)] 34)).alloc (.cells #[.int .i64 (m : Int)] 3)).drew := ((B3w.out.alloc B3w.out.size _).alloc (by simp; have := B3w.out.size; omega) _).drew
            have BA2 := Lib.hid bA2
            refine hK _ _ _ (fun W h => h) (KS.out _ bA2) ?_
            clear hK K bA2
            have s1 : ((w3.alloc (.cells #[.int .u64 (u : Int)] 34)).alloc (.cells #[.int .i64 (m : Int)] 3)).drew.cell? ⟨w3.heap.size, 0, none⟩ = some (.int .u64 (u : Int)) := (World.cell?_of_block (w := w3.alloc (.cells #[.int .u64 (u : Int)] 34)) (Below.heap_alloc _ _ _ (by simp))).trans (cell_new w3 _ _)
            have hr : ((w3.alloc (.cells #[.int .u64 (u : Int)] 34)).alloc (.cells #[.int .i64 (m : Int)] 3)).drew.heap[w3.heap.size + 1]? = some (.cells #[.int .i64 (m : Int)] 3 (0, 0)) := by
              have hsz : (w3.alloc (.cells #[.int .u64 (u : Int)] 34)).heap.size = w3.heap.size + 1 := by simp
              rw [← hsz]
              exact heap_alloc_new (w3.alloc (.cells #[.int .u64 (u : Int)] 34)) (.cells #[.int .i64 (m : Int)] 3)
            obtain ⟨A6', c6', V1, r7, p6, p7, o5, bV, hkeep⟩ := push_one (P := Try.prog) (ty := 49) ((O3.out.alloc _).alloc _).drew ((P6.out.alloc _).alloc _).drew ((P7.out.alloc _).alloc _).drew BA2.out (by decide) (by decide) Try.underlying49 info64 rfl s1 rfl (by rw [us_length]; omega)
            have s2 : V1.cell? ⟨w3.heap.size + 1, 0, none⟩ = some (.int .i64 (m : Int)) := (cell_of_row V1 _ 0 _ _ _ (hkeep _ _ hr)).trans rfl
            rw [us_length] at r7
            have R7 := Lib.hid r7
            obtain ⟨A7', c7', V2, r14, p7, p6, o5, bV2, _⟩ := push_one (P := Try.prog) (ty := 50) o5 p7 p6 bV (by decide) (by decide) Try.underlying50 infoInt rfl s2 rfl (by rw [ws_length]; omega)
            rw [ws_length] at r14
            have R14 := Lib.hid r14
            have BV := Lib.hid bV
            clear s1 hr hkeep s2 r7 bV
            refine way_make rfl (by rfl) (fun K hK => ?_)
            refine op_append rfl rfl rfl R7.out ?_
            simp only [Act.put, List.setIfInBounds_toArray, List.set_cons_zero, List.set_cons_succ]
            refine hK _ _ _ (fun W h => h) (KS.out _ BV.out) ?_
            clear hK K
            have FIN := Lib.hid (st_snoc (c5 := (flat ps).length + m) o5 p6 p7 bV2)
            have BV2 := Lib.hid bV2
            clear r14 p6 p7 o5 bV2
            refine way_make rfl (by rfl) (fun K hK => ?_)
            refine op_append rfl rfl rfl R14.out ?_
            simp only [Act.put, List.setIfInBounds_toArray, List.set_cons_zero, List.set_cons_succ]
            refine hK _ _ _ (fun W h => h) (KS.out _ BV2.out) ?_
            clear hK K
            repeat
              refine way_pure (v := ?_) rfl (by rfl) (fun W hW => ?_) ?_
              rotate_left
              · go_simp
                try with_reducible rfl
              simp only [Act.put, List.setIfInBounds_toArray, List.set_cons_zero, List.set_cons_succ]
            refine way_done ?_
            go_wp2
            exact ⟨⟨k + 1, ps ++ [(u, m)], by omega, by simp; omega, good_snoc HG.out hm1 hm8 HF.out, by go_num, FIN.out⟩, by simp [intOf]; omega⟩
        · go_simp
          have bA : Below w.heap.size w (w3.alloc (.cells #[.int .i64 (m : Int)] 3)).drew := (B3w.out.alloc B3w.out.size _).drew
          refine hK _ _ _ (fun W h => h) (KS.out _ bA) ?_
          clear hK K bA
          refine way_make rfl (by rfl) (fun K hK => ?_)
          go_simp
          have bA2 : Below w.heap.size w ((w3.alloc (.cells #[.int .i64 (m : Int)] 3)).alloc (.cells #[.int .u64 (u : Int)] 34)).drew := ((B3w.out.alloc B3w.out.size _).alloc (by simp; have := B3w.out.size; omega) _).drew
          have BA2 := Lib.hid bA2
          refine hK _ _ _ (fun W h => h) (KS.out _ bA2) ?_
          clear hK K bA2
          have s1 : ((w3.alloc (.cells #[.int .i64 (m : Int)] 3)).alloc (.cells #[.int .u64 (u : Int)] 34)).drew.cell? ⟨w3.heap.size + 1, 0, none⟩ = some (.int .u64 (u : Int)) := by
            have hsz : (w3.alloc (.cells #[.int .i64 (m : Int)] 3)).heap.size = w3.heap.size + 1 := by simp
            rw [← hsz]
            exact cell_new (w3.alloc (.cells #[.int .i64 (m : Int)] 3)) (.int .u64 (u : Int)) 34
          have hr : ((w3.alloc (.cells #[.int .i64 (m : Int)] 3)).alloc (.cells #[.int .u64 (u : Int)] 34)).drew.heap[w3.heap.size]? = some (.cells #[.int .i64 (m : Int)] 3 (0, 0)) := (Below.heap_alloc _ _ _ (by simp)).trans (heap_alloc_new w3 _)
          obtain ⟨A6', c6', V1, r7, p6, p7, o5, bV, hkeep⟩ := push_one (P := Try.prog) (ty := 49) ((O3.out.alloc _).alloc _).drew ((P6.out.alloc _).alloc _).drew ((P7.out.alloc _).alloc _).drew BA2.out (by decide) (by decide) Try.underlying49 info64 rfl s1 rfl (by rw [us_length]; omega)
          have s2 : V1.cell? ⟨w3.heap.size, 0, none⟩ = some (.int .i64 (m : Int)) := (cell_of_row V1 _ 0 _ _ _ (hkeep _ _ hr)).trans rfl
          rw [us_length] at r7
          have R7 := Lib.hid r7
          obtain ⟨A7', c7', V2, r14, p7, p6, o5, bV2, _⟩ := push_one (P := Try.prog) (ty := 50) o5 p7 p6 bV (by decide) (by decide) Try.underlying50 infoInt rfl s2 rfl (by rw [ws_length]; omega)
          rw [ws_length] at r14
          have R14 := Lib.hid r14
          have BV := Lib.hid bV
          clear s1 hr hkeep s2 r7 bV
          refine way_make rfl (by rfl) (fun K hK => ?_)
          refine op_append rfl rfl rfl R7.out ?_
          simp only [Act.put, List.setIfInBounds_toArray, List.set_cons_zero, List.set_cons_succ]
          refine hK _ _ _ (fun W h => h) (KS.out _ BV.out) ?_
          clear hK K
          have FIN := Lib.hid (st_snoc (c5 := (flat ps).length + m) o5 p6 p7 bV2)
          have BV2 := Lib.hid bV2
          clear r14 p6 p7 o5 bV2
          refine way_make rfl (by rfl) (fun K hK => ?_)
          refine op_append rfl rfl rfl R14.out ?_
          simp only [Act.put, List.setIfInBounds_toArray, List.set_cons_zero, List.set_cons_succ]
          refine hK _ _ _ (fun W h => h) (KS.out _ BV2.out) ?_
          clear hK K
          repeat
            refine way_pure (v := ?_) rfl (by rfl) (fun W hW => ?_) ?_
            rotate_left
            · go_simp
              try with_reducible rfl
            simp only [Act.put, List.setIfInBounds_toArray, List.set_cons_zero, List.set_cons_succ]
          refine way_done ?_
          go_wp2
          exact ⟨⟨k + 1, ps ++ [(u, m)], by omega, by simp; omega, good_snoc HG.out hm1 hm8 HF.out, by go_num, FIN.out⟩, by simp [intOf]; omega⟩
      · have hE : (putE N (u : Int) == 0) = false := by
          unfold putE
          by_cases h1 : N < 1 ∨ 8 < N
          · rw [if_pos h1]; rfl
          · rw [if_neg h1, if_pos (by
              rcases Nat.lt_or_ge u (256 ^ N.toNat) with hlt | hge
              · exact absurd ⟨by omega, hlt⟩ hok
              · simpa using hge)]; rfl
        clear hok
        have KS := Lib.hid (show ∀ W, Below w.heap.size w W → W.cell? ⟨b, o + k, none⟩ = some (.int .u64 (u : Int)) ∧ W.cell? ⟨b', o' + k, none⟩ = some (.int .i64 N) from
          fun W hW => ⟨(World.cell?_of_block (w := wr) ((hW.block b hbB).trans (HB.out.block b hbB).symm)).trans x1, (World.cell?_of_block (w := wr) ((hW.block b' hbB').trans (HB.out.block b' hbB').symm)).trans x2⟩)
        have t0 : (0 : Int) ≤ (k : Int) := by omega
        have t1 : (k : Int) < (n : Int) := by omega
        have t2 : (k : Int) < (n2 : Int) := by omega
        have t3 : (k : Int) < 64 := by omega
        have H5b := Lib.hid H5.out.bts
        go_wp2_with fail
        refine region_seq (fun W => W.cell? ⟨b, o + k, none⟩ = some (.int .u64 (u : Int)) ∧ W.cell? ⟨b', o' + k, none⟩ = some (.int .i64 N))
          [(0, true), (1, true), (2, true), (3, true), (4, true), (5, true), (6, true), (7, true), (8, true), (9, false), (10, true), (11, true), (12, true), (13, true), (14, true)]
          (by kernel_rfl) (by kernel_rfl) (by kernel_rfl) (by kernel_rfl) (fun _ _ _ _ _ h => h) ⟨x1, x2⟩ ?_
        repeat
          refine seq_pure (v := ?_) rfl (by rfl) (fun W hW => ?_) ?_
          rotate_left
          · go_simp
            try with_reducible rfl
          simp only [Act.put, List.setIfInBounds_toArray, List.set_cons_zero, List.set_cons_succ]
        refine seq_make rfl (by rfl) (fun K hK => ?_)
        go_simp
        ((with_reducible refine (put_any A5 _ c5 (flat ps) N (u : Int) _ H5b.out.drewS (by omega) (by omega)).mono ?_))
        rintro e w3 ⟨ax, cx, rfl, _, b3⟩
        have B3 := Lib.hid (below_of_drew b3)
        have b3w := bel_more HB.out (Nat.le_refl _) B3.out
        have FIN := Lib.hid (show St w w3 (.slice A5 (flat ps).length c5) (.slice A6 ps.length c6) (.slice A7 ps.length c7) ps from ⟨A5, c5, A6, c6, A7, c7, rfl, rfl, rfl, byt_bel H5.out B3.out, H6.out.bel B3.out, H7.out.bel B3.out, b3w⟩)
        generalize putL (flat ps) N (u : Int) = q at *
        generalize putE N (u : Int) = E at *
        clear b3
        go_simp
        refine hK _ w3 _ (fun W h => h) (KS.out _ b3w) ?_
        clear hK K b3w
        repeat
          refine seq_pure (v := ?_) rfl (by rfl) (fun W hW => ?_) ?_
          rotate_left
          · go_simp
            try with_reducible rfl
          simp only [Act.put, List.setIfInBounds_toArray, List.set_cons_zero, List.set_cons_succ]
        refine seq_done ?_
        go_wp2
        exact ⟨⟨k + 1, ps, by omega, by omega, HG.out, by go_num, FIN.out⟩, by simp [intOf]; omega⟩
    · have hc' : ¬ k < n ∨ (k < n ∧ ¬ k < n2) ∨ (k < n ∧ k < n2 ∧ ¬ k < 64) := by omega
      clear hc
      have H5b := Lib.hid H5.out.bts
      rcases hc' with q1 | ⟨q1, q2⟩ | ⟨q1, q2, q3⟩
      all_goals
        go_wp2_with fail
        ((with_reducible refine (new_calls A5 _ c5 (flat ps) _ H5b.out (by omega)).mono ?_))
        rintro e w3 ⟨r, g, rfl, hr, hg, h3, b3⟩
        have hr' : w.heap.size ≤ r := Nat.le_trans HB.out.size hr
        have N3 := Lib.hid h3
        have N6 := Lib.hid (H6.out.bel b3)
        have N7 := Lib.hid (H7.out.bel b3)
        have NB := Lib.hid (bel_more HB.out (Nat.le_refl _) b3)
        clear h3 b3 hr hg
        go_wp2_with fail
        go_loopw [68] (fun t W => ∃ i : Nat, i ≤ ps.length ∧ t = .int .i64 (i : Int) ∧ Rdr W r g (flat ps) (flat (ps.take i)).length 0 ∧ AccV W w.heap.size 34 A6 c6 (us ps) ∧ AccV W w.heap.size 3 A7 c7 (ws ps) ∧ Below w.heap.size w W) (fun t _ => ps.length - (intOf t).toNat)
        case atStart => exact ⟨0, Nat.zero_le _, rfl, N3.out, N6.out, N7.out, NB.out⟩
        case round =>
          obtain ⟨i, hi, rfl, hR, hA6, hA7, hB⟩ := hrel
          have RR := Lib.hid hR
          have R6 := Lib.hid hA6
          have R7 := Lib.hid hA7
          have RB := Lib.hid hB
          clear hR hA6 hA7 hB
          by_cases hlt : i < ps.length
          · obtain ⟨g6, rfl, _, y6⟩ := R6.out.cell (i := i) (by rw [us_length]; exact hlt)
            obtain ⟨g7, rfl, _, y7⟩ := R7.out.cell (i := i) (by rw [ws_length]; exact hlt)
            have z6 : (us ps)[i]'(by rw [us_length]; exact hlt) = .int .u64 (ps[i].1 : Int) := by simp [us]
            have z7 : (ws ps)[i]'(by rw [ws_length]; exact hlt) = .int .i64 (ps[i].2 : Int) := by simp [ws]
            rw [z6] at y6
            rw [z7] at y7
            obtain ⟨f1, f2⟩ := flat_reads HG.out i hlt
            have f3 := flat_take_succ ps i hlt
            have f4 := HG.out ps[i] (List.getElem_mem hlt)
            have F1 := Lib.hid f1
            have F2 := Lib.hid f2
            have F3 := Lib.hid f3
            have F4 := Lib.hid f4
            clear z6 z7 f1 f2 f3 f4
            generalize hU : ps[i].1 = U at *
            generalize hN : ps[i].2 = N at *
            clear hU hN
            go_wp2_with fail
            ((with_reducible refine (uint_ok RR.out N F4.out.1 F4.out.2.1 F1.out).mono ?_))
            rintro e w4 ⟨rfl, h4, u4⟩
            rw [F2.out]
            have k4 : Rdr w4 r g (flat ps) (flat (ps.take (i + 1))).length 0 := by rw [F3.out]; exact h4
            have rowr := RR.out.1
            have k6 := R6.out.kept u4 (fun q hq he => by
              obtain ⟨cs, e1⟩ := R6.out.row hq
              injection he with he
              subst he
              rw [rowr] at e1
              injection e1 with e1
              injection e1 with _ e2
              exact absurd e2 (by decide))
            have k7 := R7.out.kept u4 (fun q hq he => by
              obtain ⟨cs, e1⟩ := R7.out.row hq
              injection he with he
              subst he
              rw [rowr] at e1
              injection e1 with e1
              injection e1 with _ e2
              exact absurd e2 (by decide))
            have K4 := Lib.hid k4
            have K6 := Lib.hid k6
            have K7 := Lib.hid k7
            have KB := Lib.hid (bel_upd RB.out u4 (Nat.le_refl _) hr')
            clear h4 u4 k4 k6 k7 rowr
            go_wp2
            exact ⟨⟨i + 1, by omega, by go_num, K4.out, K6.out, K7.out, KB.out⟩, by simp [intOf]; omega⟩
          · have hin : i = ps.length := by omega
            have RE := Lib.hid (show Rdr wr r g (flat ps) (flat ps).length 0 by have := RR.out; rw [hin, List.take_length] at this; exact this)
            clear hin
            go_wp2_with fail
            ((with_reducible refine (err_calls RE.out).mono ?_))
            rintro e w5 ⟨rfl, rfl⟩
            go_wp2_with fail
            ((with_reducible refine (left_calls RE.out).mono ?_))
            rintro e w5 ⟨rfl, m, rfl⟩
            have NB2 := Lib.hid (bel_drewN RB.out m)
            go_wp2
            go_ret
            exact ⟨rfl, NB2.out⟩
end Go.Proofs.Ytkjkgjkjjiejaaa
