/-
  The law AdmitKeys, walked: for any two keys the answer is true, and nothing that was there has turned. Condition: what the code must keep (Tk14).
-/
import Derived.Test.YtnkoiageoenfeaaAdmTS
namespace Go.Proofs.Ytnkoiageoenfeaa
set_option maxRecDepth 100000
set_option linter.unusedVariables false
open Go.RowKit

set_option maxHeartbeats 3200000 in
theorem keys14_walk {P : TabW} (K14 : Tk14 P) (a b : Ky) (w : World) : Calls Try.prog 3 #[.agg #[.int .i64 a.tail, .int .i64 a.tun, .int .i64 a.head, .int .i64 a.lsp], .agg #[.int .i64 b.tail, .int .i64 b.tun, .int .i64 b.head, .int .i64 b.lsp]] w fun e w' => e = .returned (.bool true) ∧ Below w.heap.size w w' := by
  have he := kBef_either a b
  have h1 := fun W => K14.before a b W
  have h2 := fun W => K14.before b a W
  have h3 := fun W => rbefore14_calls a b W
  have h4 := fun W => K14.kin a b W
  have h5 := fun W => rkin14_calls a b W
  have hn := fun W => (eq_ky a b W).2
  have HA := Lib.hid (fun W => alive14_calls K14 W)
  have ha := Blk.new w 23 (kyc a)
  have hb := Blk.new (w.alloc (.cells (kyc a).toArray 23)) 23 (kyc b)
  have ha2 := ha.alloc (.cells (kyc b).toArray 23)
  have hs : (w.alloc (.cells (kyc a).toArray 23)).heap.size = w.heap.size + 1 := Array.size_push _
  rw [hs] at hb
  have bl : Below w.heap.size w ((w.alloc (.cells (kyc a).toArray 23)).alloc (.cells (kyc b).toArray 23)) := bel_new (bel_new (Below.refl _ _) _) _
  unfold kyc at ha2 hb bl
  have B1 := Lib.hid (And.intro ha2 (And.intro hb bl))
  clear ha hb ha2 hs bl
  unfold Yes14 at h1 h2 h3 h4 h5
  obtain ⟨x, hx⟩ : ∃ x, kBef a b = x := ⟨_, rfl⟩
  obtain ⟨y, hy⟩ : ∃ y, kBef b a = y := ⟨_, rfl⟩
  obtain ⟨k, hk⟩ : ∃ k, kKin a b = k := ⟨_, rfl⟩
  obtain ⟨d, hd⟩ : ∃ d, decide (a = b) = d := ⟨_, rfl⟩
  have hne : decide (a ≠ b) = !d := by rw [← hd]; simp
  rw [hx, hy, hne] at he
  rw [hx] at h1 h3
  rw [hy] at h2
  rw [hk] at h4 h5
  rw [hd] at hn
  have H1 := Lib.hid h1
  have H2 := Lib.hid h2
  have H3 := Lib.hid h3
  have H4 := Lib.hid h4
  have H5 := Lib.hid h5
  have HN := Lib.hid hn
  have hcase : (x = true ∧ y = false ∧ d = false) ∨ (x = false ∧ y = true ∧ d = false) ∨ (x = false ∧ y = false ∧ d = true) := by
    obtain ⟨e1, e2⟩ := he
    cases x <;> cases y <;> cases d <;> simp_all
  clear hx hy hk hd hne h1 h2 h3 h4 h5 hn he
  go_enter Try.func3, Try.ntmps3
  go_wp2_with fail
  generalize ((w.alloc (.cells #[.int .i64 a.tail, .int .i64 a.tun, .int .i64 a.head, .int .i64 a.lsp] 23)).alloc (.cells #[.int .i64 b.tail, .int .i64 b.tun, .int .i64 b.head, .int .i64 b.lsp] 23)) = w1 at *
  ((with_reducible refine (HA.out _).mono ?_))
  rintro e w2 ⟨rfl, hb⟩
  have B2 := Lib.hid (And.intro (B1.out.1.below hb) (And.intro (B1.out.2.1.below hb) (B1.out.2.2.trans (hb.mono B1.out.2.2.size))))
  clear hb B1
  have HCS : Hid (∀ W, Below w2.heap.size w2 W → (W.cell? ⟨w.heap.size, 0, none⟩ = some (.int .i64 a.tail) ∧ W.cell? ⟨w.heap.size, 1, none⟩ = some (.int .i64 a.tun) ∧ W.cell? ⟨w.heap.size, 2, none⟩ = some (.int .i64 a.head) ∧ W.cell? ⟨w.heap.size, 3, none⟩ = some (.int .i64 a.lsp)) ∧ W.cell? ⟨w.heap.size + 1, 0, none⟩ = some (.int .i64 b.tail) ∧ W.cell? ⟨w.heap.size + 1, 1, none⟩ = some (.int .i64 b.tun) ∧ W.cell? ⟨w.heap.size + 1, 2, none⟩ = some (.int .i64 b.head) ∧ W.cell? ⟨w.heap.size + 1, 3, none⟩ = some (.int .i64 b.lsp)) := fun W hW =>
    ⟨⟨(B2.out.1.below hW).cell 0, (B2.out.1.below hW).cell 1, (B2.out.1.below hW).cell 2, (B2.out.1.below hW).cell 3⟩, (B2.out.2.1.below hW).cell 0, (B2.out.2.1.below hW).cell 1, (B2.out.2.1.below hW).cell 2, (B2.out.2.1.below hW).cell 3⟩
  go_wp2_with fail
  refine region_seq (fun W => Below w2.heap.size w2 W) [(0, true), (1, true), (3, true), (4, true), (2, false), (5, false), (6, true), (7, true)] (by kernel_rfl) (by kernel_rfl) (by kernel_rfl) (by kernel_rfl) (fun _ _ _ _ _ h => h) (Below.refl _ _).drew ?_
  repeat first
    | refine seq_pure (v := ?_) rfl (by rfl) (fun W hW => ?_) ?_
      rotate_left
      · obtain ⟨⟨c0, c1, c2, c3⟩, d0, d1, d2, d3⟩ := HCS.out W hW
        clear hW
        go_simp
        with_reducible rfl
      simp only [Act.put, List.setIfInBounds_toArray, List.set_cons_zero, List.set_cons_succ]
    | refine seq_skip rfl (by rfl) ?_
      simp only [Act.put, undef, List.setIfInBounds_toArray, List.set_cons_zero, List.set_cons_succ]
  refine seq_make rfl (by rfl) (fun K hK => ?_)
  go_simp
  have hc := H1.out w2.drew
  ((with_reducible refine hc.mono ?_))
  rintro e w3 ⟨rfl, hb⟩
  have SBw3 := Lib.hid (show Below w2.heap.size w2 w3 from below_of_drew hb)
  clear hc hb
  go_simp
  refine hK _ _ (fun W => Below w2.heap.size w2 W) (fun W h => h) SBw3.out ?_
  clear hK K
  refine seq_make rfl (by rfl) (fun K hK => ?_)
  go_simp
  have hc := H2.out w3
  ((with_reducible refine hc.mono ?_))
  rintro e w4 ⟨rfl, hb⟩
  have SBw4 := Lib.hid (show Below w2.heap.size w2 w4 from SBw3.out.trans (hb.mono SBw3.out.size))
  clear hc hb
  go_simp
  refine hK _ _ (fun W => Below w2.heap.size w2 W) (fun W h => h) SBw4.out ?_
  clear hK K
  repeat first
    | refine seq_pure (v := ?_) rfl (by rfl) (fun W hW => ?_) ?_
      rotate_left
      · obtain ⟨⟨c0, c1, c2, c3⟩, d0, d1, d2, d3⟩ := HCS.out W hW
        clear hW
        go_simp
        with_reducible rfl
      simp only [Act.put, List.setIfInBounds_toArray, List.set_cons_zero, List.set_cons_succ]
    | refine seq_skip rfl (by rfl) ?_
      simp only [Act.put, undef, List.setIfInBounds_toArray, List.set_cons_zero, List.set_cons_succ]
  refine seq_done ?_
  have BL := Lib.hid (B2.out.2.2.trans (SBw4.out.mono B2.out.2.2.size))
  rcases hcase with ⟨rfl, rfl, rfl⟩ | ⟨rfl, rfl, rfl⟩ | ⟨rfl, rfl, rfl⟩ <;> cases k
  · have HCS4 : Hid (∀ W, Below w4.heap.size w4 W → _) := Lib.hid (fun W hW => HCS.out W (SBw4.out.trans (hW.mono SBw4.out.size)))
    clear HCS
    have HCS := HCS4
    clear HCS4
    go_wp2_with fail
    refine region_seq (fun W => Below w4.heap.size w4 W) [(0, true), (1, true), (2, true), (3, false), (4, true), (5, true), (6, true), (7, true), (9, true), (10, true), (8, false), (11, false), (12, true), (13, true), (14, true), (15, true), (16, true), (17, true), (18, true), (19, true), (20, true), (21, true), (22, true), (23, true), (24, true), (25, true), (26, true), (27, true), (28, true), (29, true), (30, true), (31, true)] (by kernel_rfl) (by kernel_rfl) (by kernel_rfl) (by kernel_rfl) (fun _ _ _ _ _ h => h) (Below.refl _ _).drew ?_
    repeat first
      | refine seq_pure (v := ?_) rfl (by rfl) (fun W hW => ?_) ?_
        rotate_left
        · obtain ⟨⟨c0, c1, c2, c3⟩, d0, d1, d2, d3⟩ := HCS.out W hW
          clear hW
          go_simp
          with_reducible rfl
        simp only [Act.put, List.setIfInBounds_toArray, List.set_cons_zero, List.set_cons_succ]
      | refine seq_skip rfl (by rfl) ?_
        simp only [Act.put, undef, List.setIfInBounds_toArray, List.set_cons_zero, List.set_cons_succ]
    refine seq_make rfl (by rfl) (fun K hK => ?_)
    go_simp
    have hc := H3.out w4.drew
    ((with_reducible refine hc.mono ?_))
    rintro e w5 ⟨rfl, hb⟩
    have SBw5 := Lib.hid (show Below w4.heap.size w4 w5 from below_of_drew hb)
    clear hc hb
    go_simp
    refine hK _ _ (fun W => Below w4.heap.size w4 W) (fun W h => h) SBw5.out ?_
    clear hK K
    repeat first
      | refine seq_pure (v := ?_) rfl (by rfl) (fun W hW => ?_) ?_
        rotate_left
        · obtain ⟨⟨c0, c1, c2, c3⟩, d0, d1, d2, d3⟩ := HCS.out W hW
          clear hW
          go_simp
          with_reducible rfl
        simp only [Act.put, List.setIfInBounds_toArray, List.set_cons_zero, List.set_cons_succ]
      | refine seq_skip rfl (by rfl) ?_
        simp only [Act.put, undef, List.setIfInBounds_toArray, List.set_cons_zero, List.set_cons_succ]
    refine seq_make rfl (by rfl) (fun K hK => ?_)
    go_simp
    have hc := H4.out w5
    ((with_reducible refine hc.mono ?_))
    rintro e w6 ⟨rfl, hb⟩
    have SBw6 := Lib.hid (show Below w4.heap.size w4 w6 from SBw5.out.trans (hb.mono SBw5.out.size))
    clear hc hb
    go_simp
    refine hK _ _ (fun W => Below w4.heap.size w4 W) (fun W h => h) SBw6.out ?_
    clear hK K
    refine seq_make rfl (by rfl) (fun K hK => ?_)
    go_simp
    have hc := H5.out w6
    ((with_reducible refine hc.mono ?_))
    rintro e w7 ⟨rfl, hb⟩
    have SBw7 := Lib.hid (show Below w4.heap.size w4 w7 from SBw6.out.trans (hb.mono SBw6.out.size))
    clear hc hb
    go_simp
    refine hK _ _ (fun W => Below w4.heap.size w4 W) (fun W h => h) SBw7.out ?_
    clear hK K
    repeat first
      | refine seq_neA (xs := kyc a) (ys := kyc b) (c := !false) rfl (by rfl) rfl rfl rfl (by kernel_rfl) HN.out ?_
        simp only [Act.put, List.setIfInBounds_toArray, List.set_cons_zero, List.set_cons_succ]
      | refine seq_pure (v := ?_) rfl (by rfl) (fun W hW => ?_) ?_
        rotate_left
        · obtain ⟨⟨c0, c1, c2, c3⟩, d0, d1, d2, d3⟩ := HCS.out W hW
          clear hW
          go_simp
          with_reducible rfl
        simp only [Act.put, List.setIfInBounds_toArray, List.set_cons_zero, List.set_cons_succ]
      | refine seq_skip rfl (by rfl) ?_
        simp only [Act.put, undef, List.setIfInBounds_toArray, List.set_cons_zero, List.set_cons_succ]
    refine seq_done ?_
    go_wp2_with fail
    go_ret
    exact ⟨rfl, BL.out.trans (SBw7.out.mono BL.out.size)⟩
  · have HCS4 : Hid (∀ W, Below w4.heap.size w4 W → _) := Lib.hid (fun W hW => HCS.out W (SBw4.out.trans (hW.mono SBw4.out.size)))
    clear HCS
    have HCS := HCS4
    clear HCS4
    go_wp2_with fail
    refine region_seq (fun W => Below w4.heap.size w4 W) [(0, true), (1, true), (2, true), (3, false), (4, true), (5, true), (6, true), (7, true), (9, true), (10, true), (8, false), (11, false), (12, true), (13, true), (14, true), (15, true), (16, true), (17, true), (18, true), (19, true), (20, true), (21, true), (22, true), (23, true), (24, true), (25, true), (26, true), (27, true), (28, true), (29, true), (30, true), (31, true)] (by kernel_rfl) (by kernel_rfl) (by kernel_rfl) (by kernel_rfl) (fun _ _ _ _ _ h => h) (Below.refl _ _).drew ?_
    repeat first
      | refine seq_pure (v := ?_) rfl (by rfl) (fun W hW => ?_) ?_
        rotate_left
        · obtain ⟨⟨c0, c1, c2, c3⟩, d0, d1, d2, d3⟩ := HCS.out W hW
          clear hW
          go_simp
          with_reducible rfl
        simp only [Act.put, List.setIfInBounds_toArray, List.set_cons_zero, List.set_cons_succ]
      | refine seq_skip rfl (by rfl) ?_
        simp only [Act.put, undef, List.setIfInBounds_toArray, List.set_cons_zero, List.set_cons_succ]
    refine seq_make rfl (by rfl) (fun K hK => ?_)
    go_simp
    have hc := H3.out w4.drew
    ((with_reducible refine hc.mono ?_))
    rintro e w5 ⟨rfl, hb⟩
    have SBw5 := Lib.hid (show Below w4.heap.size w4 w5 from below_of_drew hb)
    clear hc hb
    go_simp
    refine hK _ _ (fun W => Below w4.heap.size w4 W) (fun W h => h) SBw5.out ?_
    clear hK K
    repeat first
      | refine seq_pure (v := ?_) rfl (by rfl) (fun W hW => ?_) ?_
        rotate_left
        · obtain ⟨⟨c0, c1, c2, c3⟩, d0, d1, d2, d3⟩ := HCS.out W hW
          clear hW
          go_simp
          with_reducible rfl
        simp only [Act.put, List.setIfInBounds_toArray, List.set_cons_zero, List.set_cons_succ]
      | refine seq_skip rfl (by rfl) ?_
        simp only [Act.put, undef, List.setIfInBounds_toArray, List.set_cons_zero, List.set_cons_succ]
    refine seq_make rfl (by rfl) (fun K hK => ?_)
    go_simp
    have hc := H4.out w5
    ((with_reducible refine hc.mono ?_))
    rintro e w6 ⟨rfl, hb⟩
    have SBw6 := Lib.hid (show Below w4.heap.size w4 w6 from SBw5.out.trans (hb.mono SBw5.out.size))
    clear hc hb
    go_simp
    refine hK _ _ (fun W => Below w4.heap.size w4 W) (fun W h => h) SBw6.out ?_
    clear hK K
    refine seq_make rfl (by rfl) (fun K hK => ?_)
    go_simp
    have hc := H5.out w6
    ((with_reducible refine hc.mono ?_))
    rintro e w7 ⟨rfl, hb⟩
    have SBw7 := Lib.hid (show Below w4.heap.size w4 w7 from SBw6.out.trans (hb.mono SBw6.out.size))
    clear hc hb
    go_simp
    refine hK _ _ (fun W => Below w4.heap.size w4 W) (fun W h => h) SBw7.out ?_
    clear hK K
    repeat first
      | refine seq_neA (xs := kyc a) (ys := kyc b) (c := !false) rfl (by rfl) rfl rfl rfl (by kernel_rfl) HN.out ?_
        simp only [Act.put, List.setIfInBounds_toArray, List.set_cons_zero, List.set_cons_succ]
      | refine seq_pure (v := ?_) rfl (by rfl) (fun W hW => ?_) ?_
        rotate_left
        · obtain ⟨⟨c0, c1, c2, c3⟩, d0, d1, d2, d3⟩ := HCS.out W hW
          clear hW
          go_simp
          with_reducible rfl
        simp only [Act.put, List.setIfInBounds_toArray, List.set_cons_zero, List.set_cons_succ]
      | refine seq_skip rfl (by rfl) ?_
        simp only [Act.put, undef, List.setIfInBounds_toArray, List.set_cons_zero, List.set_cons_succ]
    refine seq_done ?_
    go_wp2_with fail
    go_ret
    exact ⟨rfl, BL.out.trans (SBw7.out.mono BL.out.size)⟩
  · have HCS4 : Hid (∀ W, Below w4.heap.size w4 W → _) := Lib.hid (fun W hW => HCS.out W (SBw4.out.trans (hW.mono SBw4.out.size)))
    clear HCS
    have HCS := HCS4
    clear HCS4
    go_wp2_with fail
    refine region_seq (fun W => Below w4.heap.size w4 W) [(0, true), (1, true), (2, true), (3, false), (4, true), (5, true), (6, true), (7, true), (9, true), (10, true), (8, false), (11, false), (12, true), (13, true), (14, true), (15, true), (16, true), (17, true), (18, true), (19, true), (20, true), (21, true), (22, true), (23, true), (24, true), (25, true), (26, true), (27, true), (28, true), (29, true), (30, true), (31, true)] (by kernel_rfl) (by kernel_rfl) (by kernel_rfl) (by kernel_rfl) (fun _ _ _ _ _ h => h) (Below.refl _ _).drew ?_
    repeat first
      | refine seq_pure (v := ?_) rfl (by rfl) (fun W hW => ?_) ?_
        rotate_left
        · obtain ⟨⟨c0, c1, c2, c3⟩, d0, d1, d2, d3⟩ := HCS.out W hW
          clear hW
          go_simp
          with_reducible rfl
        simp only [Act.put, List.setIfInBounds_toArray, List.set_cons_zero, List.set_cons_succ]
      | refine seq_skip rfl (by rfl) ?_
        simp only [Act.put, undef, List.setIfInBounds_toArray, List.set_cons_zero, List.set_cons_succ]
    refine seq_make rfl (by rfl) (fun K hK => ?_)
    go_simp
    have hc := H3.out w4.drew
    ((with_reducible refine hc.mono ?_))
    rintro e w5 ⟨rfl, hb⟩
    have SBw5 := Lib.hid (show Below w4.heap.size w4 w5 from below_of_drew hb)
    clear hc hb
    go_simp
    refine hK _ _ (fun W => Below w4.heap.size w4 W) (fun W h => h) SBw5.out ?_
    clear hK K
    repeat first
      | refine seq_pure (v := ?_) rfl (by rfl) (fun W hW => ?_) ?_
        rotate_left
        · obtain ⟨⟨c0, c1, c2, c3⟩, d0, d1, d2, d3⟩ := HCS.out W hW
          clear hW
          go_simp
          with_reducible rfl
        simp only [Act.put, List.setIfInBounds_toArray, List.set_cons_zero, List.set_cons_succ]
      | refine seq_skip rfl (by rfl) ?_
        simp only [Act.put, undef, List.setIfInBounds_toArray, List.set_cons_zero, List.set_cons_succ]
    refine seq_make rfl (by rfl) (fun K hK => ?_)
    go_simp
    have hc := H4.out w5
    ((with_reducible refine hc.mono ?_))
    rintro e w6 ⟨rfl, hb⟩
    have SBw6 := Lib.hid (show Below w4.heap.size w4 w6 from SBw5.out.trans (hb.mono SBw5.out.size))
    clear hc hb
    go_simp
    refine hK _ _ (fun W => Below w4.heap.size w4 W) (fun W h => h) SBw6.out ?_
    clear hK K
    refine seq_make rfl (by rfl) (fun K hK => ?_)
    go_simp
    have hc := H5.out w6
    ((with_reducible refine hc.mono ?_))
    rintro e w7 ⟨rfl, hb⟩
    have SBw7 := Lib.hid (show Below w4.heap.size w4 w7 from SBw6.out.trans (hb.mono SBw6.out.size))
    clear hc hb
    go_simp
    refine hK _ _ (fun W => Below w4.heap.size w4 W) (fun W h => h) SBw7.out ?_
    clear hK K
    repeat first
      | refine seq_neA (xs := kyc a) (ys := kyc b) (c := !false) rfl (by rfl) rfl rfl rfl (by kernel_rfl) HN.out ?_
        simp only [Act.put, List.setIfInBounds_toArray, List.set_cons_zero, List.set_cons_succ]
      | refine seq_pure (v := ?_) rfl (by rfl) (fun W hW => ?_) ?_
        rotate_left
        · obtain ⟨⟨c0, c1, c2, c3⟩, d0, d1, d2, d3⟩ := HCS.out W hW
          clear hW
          go_simp
          with_reducible rfl
        simp only [Act.put, List.setIfInBounds_toArray, List.set_cons_zero, List.set_cons_succ]
      | refine seq_skip rfl (by rfl) ?_
        simp only [Act.put, undef, List.setIfInBounds_toArray, List.set_cons_zero, List.set_cons_succ]
    refine seq_done ?_
    go_wp2_with fail
    go_ret
    exact ⟨rfl, BL.out.trans (SBw7.out.mono BL.out.size)⟩
  · have HCS4 : Hid (∀ W, Below w4.heap.size w4 W → _) := Lib.hid (fun W hW => HCS.out W (SBw4.out.trans (hW.mono SBw4.out.size)))
    clear HCS
    have HCS := HCS4
    clear HCS4
    go_wp2_with fail
    refine region_seq (fun W => Below w4.heap.size w4 W) [(0, true), (1, true), (2, true), (3, false), (4, true), (5, true), (6, true), (7, true), (9, true), (10, true), (8, false), (11, false), (12, true), (13, true), (14, true), (15, true), (16, true), (17, true), (18, true), (19, true), (20, true), (21, true), (22, true), (23, true), (24, true), (25, true), (26, true), (27, true), (28, true), (29, true), (30, true), (31, true)] (by kernel_rfl) (by kernel_rfl) (by kernel_rfl) (by kernel_rfl) (fun _ _ _ _ _ h => h) (Below.refl _ _).drew ?_
    repeat first
      | refine seq_pure (v := ?_) rfl (by rfl) (fun W hW => ?_) ?_
        rotate_left
        · obtain ⟨⟨c0, c1, c2, c3⟩, d0, d1, d2, d3⟩ := HCS.out W hW
          clear hW
          go_simp
          with_reducible rfl
        simp only [Act.put, List.setIfInBounds_toArray, List.set_cons_zero, List.set_cons_succ]
      | refine seq_skip rfl (by rfl) ?_
        simp only [Act.put, undef, List.setIfInBounds_toArray, List.set_cons_zero, List.set_cons_succ]
    refine seq_make rfl (by rfl) (fun K hK => ?_)
    go_simp
    have hc := H3.out w4.drew
    ((with_reducible refine hc.mono ?_))
    rintro e w5 ⟨rfl, hb⟩
    have SBw5 := Lib.hid (show Below w4.heap.size w4 w5 from below_of_drew hb)
    clear hc hb
    go_simp
    refine hK _ _ (fun W => Below w4.heap.size w4 W) (fun W h => h) SBw5.out ?_
    clear hK K
    repeat first
      | refine seq_pure (v := ?_) rfl (by rfl) (fun W hW => ?_) ?_
        rotate_left
        · obtain ⟨⟨c0, c1, c2, c3⟩, d0, d1, d2, d3⟩ := HCS.out W hW
          clear hW
          go_simp
          with_reducible rfl
        simp only [Act.put, List.setIfInBounds_toArray, List.set_cons_zero, List.set_cons_succ]
      | refine seq_skip rfl (by rfl) ?_
        simp only [Act.put, undef, List.setIfInBounds_toArray, List.set_cons_zero, List.set_cons_succ]
    refine seq_make rfl (by rfl) (fun K hK => ?_)
    go_simp
    have hc := H4.out w5
    ((with_reducible refine hc.mono ?_))
    rintro e w6 ⟨rfl, hb⟩
    have SBw6 := Lib.hid (show Below w4.heap.size w4 w6 from SBw5.out.trans (hb.mono SBw5.out.size))
    clear hc hb
    go_simp
    refine hK _ _ (fun W => Below w4.heap.size w4 W) (fun W h => h) SBw6.out ?_
    clear hK K
    refine seq_make rfl (by rfl) (fun K hK => ?_)
    go_simp
    have hc := H5.out w6
    ((with_reducible refine hc.mono ?_))
    rintro e w7 ⟨rfl, hb⟩
    have SBw7 := Lib.hid (show Below w4.heap.size w4 w7 from SBw6.out.trans (hb.mono SBw6.out.size))
    clear hc hb
    go_simp
    refine hK _ _ (fun W => Below w4.heap.size w4 W) (fun W h => h) SBw7.out ?_
    clear hK K
    repeat first
      | refine seq_neA (xs := kyc a) (ys := kyc b) (c := !false) rfl (by rfl) rfl rfl rfl (by kernel_rfl) HN.out ?_
        simp only [Act.put, List.setIfInBounds_toArray, List.set_cons_zero, List.set_cons_succ]
      | refine seq_pure (v := ?_) rfl (by rfl) (fun W hW => ?_) ?_
        rotate_left
        · obtain ⟨⟨c0, c1, c2, c3⟩, d0, d1, d2, d3⟩ := HCS.out W hW
          clear hW
          go_simp
          with_reducible rfl
        simp only [Act.put, List.setIfInBounds_toArray, List.set_cons_zero, List.set_cons_succ]
      | refine seq_skip rfl (by rfl) ?_
        simp only [Act.put, undef, List.setIfInBounds_toArray, List.set_cons_zero, List.set_cons_succ]
    refine seq_done ?_
    go_wp2_with fail
    go_ret
    exact ⟨rfl, BL.out.trans (SBw7.out.mono BL.out.size)⟩
  · have HCS4 : Hid (∀ W, Below w4.heap.size w4 W → _) := Lib.hid (fun W hW => HCS.out W (SBw4.out.trans (hW.mono SBw4.out.size)))
    clear HCS
    have HCS := HCS4
    clear HCS4
    go_wp2_with fail
    refine region_seq (fun W => Below w4.heap.size w4 W) [(0, true), (1, true), (2, true), (3, false), (4, true), (5, true), (6, true), (7, true), (9, true), (10, true), (8, false), (11, false), (12, true), (13, true), (14, true), (15, true), (16, true), (17, true), (18, true), (19, true), (20, true), (21, true), (22, true), (23, true), (24, true), (25, true), (26, true), (27, true), (28, true), (29, true), (30, true), (31, true)] (by kernel_rfl) (by kernel_rfl) (by kernel_rfl) (by kernel_rfl) (fun _ _ _ _ _ h => h) (Below.refl _ _).drew ?_
    repeat first
      | refine seq_pure (v := ?_) rfl (by rfl) (fun W hW => ?_) ?_
        rotate_left
        · obtain ⟨⟨c0, c1, c2, c3⟩, d0, d1, d2, d3⟩ := HCS.out W hW
          clear hW
          go_simp
          with_reducible rfl
        simp only [Act.put, List.setIfInBounds_toArray, List.set_cons_zero, List.set_cons_succ]
      | refine seq_skip rfl (by rfl) ?_
        simp only [Act.put, undef, List.setIfInBounds_toArray, List.set_cons_zero, List.set_cons_succ]
    refine seq_make rfl (by rfl) (fun K hK => ?_)
    go_simp
    have hc := H3.out w4.drew
    ((with_reducible refine hc.mono ?_))
    rintro e w5 ⟨rfl, hb⟩
    have SBw5 := Lib.hid (show Below w4.heap.size w4 w5 from below_of_drew hb)
    clear hc hb
    go_simp
    refine hK _ _ (fun W => Below w4.heap.size w4 W) (fun W h => h) SBw5.out ?_
    clear hK K
    repeat first
      | refine seq_pure (v := ?_) rfl (by rfl) (fun W hW => ?_) ?_
        rotate_left
        · obtain ⟨⟨c0, c1, c2, c3⟩, d0, d1, d2, d3⟩ := HCS.out W hW
          clear hW
          go_simp
          with_reducible rfl
        simp only [Act.put, List.setIfInBounds_toArray, List.set_cons_zero, List.set_cons_succ]
      | refine seq_skip rfl (by rfl) ?_
        simp only [Act.put, undef, List.setIfInBounds_toArray, List.set_cons_zero, List.set_cons_succ]
    refine seq_make rfl (by rfl) (fun K hK => ?_)
    go_simp
    have hc := H4.out w5
    ((with_reducible refine hc.mono ?_))
    rintro e w6 ⟨rfl, hb⟩
    have SBw6 := Lib.hid (show Below w4.heap.size w4 w6 from SBw5.out.trans (hb.mono SBw5.out.size))
    clear hc hb
    go_simp
    refine hK _ _ (fun W => Below w4.heap.size w4 W) (fun W h => h) SBw6.out ?_
    clear hK K
    refine seq_make rfl (by rfl) (fun K hK => ?_)
    go_simp
    have hc := H5.out w6
    ((with_reducible refine hc.mono ?_))
    rintro e w7 ⟨rfl, hb⟩
    have SBw7 := Lib.hid (show Below w4.heap.size w4 w7 from SBw6.out.trans (hb.mono SBw6.out.size))
    clear hc hb
    go_simp
    refine hK _ _ (fun W => Below w4.heap.size w4 W) (fun W h => h) SBw7.out ?_
    clear hK K
    repeat first
      | refine seq_neA (xs := kyc a) (ys := kyc b) (c := !true) rfl (by rfl) rfl rfl rfl (by kernel_rfl) HN.out ?_
        simp only [Act.put, List.setIfInBounds_toArray, List.set_cons_zero, List.set_cons_succ]
      | refine seq_pure (v := ?_) rfl (by rfl) (fun W hW => ?_) ?_
        rotate_left
        · obtain ⟨⟨c0, c1, c2, c3⟩, d0, d1, d2, d3⟩ := HCS.out W hW
          clear hW
          go_simp
          with_reducible rfl
        simp only [Act.put, List.setIfInBounds_toArray, List.set_cons_zero, List.set_cons_succ]
      | refine seq_skip rfl (by rfl) ?_
        simp only [Act.put, undef, List.setIfInBounds_toArray, List.set_cons_zero, List.set_cons_succ]
    refine seq_done ?_
    go_wp2_with fail
    go_ret
    exact ⟨rfl, BL.out.trans (SBw7.out.mono BL.out.size)⟩
  · have HCS4 : Hid (∀ W, Below w4.heap.size w4 W → _) := Lib.hid (fun W hW => HCS.out W (SBw4.out.trans (hW.mono SBw4.out.size)))
    clear HCS
    have HCS := HCS4
    clear HCS4
    go_wp2_with fail
    refine region_seq (fun W => Below w4.heap.size w4 W) [(0, true), (1, true), (2, true), (3, false), (4, true), (5, true), (6, true), (7, true), (9, true), (10, true), (8, false), (11, false), (12, true), (13, true), (14, true), (15, true), (16, true), (17, true), (18, true), (19, true), (20, true), (21, true), (22, true), (23, true), (24, true), (25, true), (26, true), (27, true), (28, true), (29, true), (30, true), (31, true)] (by kernel_rfl) (by kernel_rfl) (by kernel_rfl) (by kernel_rfl) (fun _ _ _ _ _ h => h) (Below.refl _ _).drew ?_
    repeat first
      | refine seq_pure (v := ?_) rfl (by rfl) (fun W hW => ?_) ?_
        rotate_left
        · obtain ⟨⟨c0, c1, c2, c3⟩, d0, d1, d2, d3⟩ := HCS.out W hW
          clear hW
          go_simp
          with_reducible rfl
        simp only [Act.put, List.setIfInBounds_toArray, List.set_cons_zero, List.set_cons_succ]
      | refine seq_skip rfl (by rfl) ?_
        simp only [Act.put, undef, List.setIfInBounds_toArray, List.set_cons_zero, List.set_cons_succ]
    refine seq_make rfl (by rfl) (fun K hK => ?_)
    go_simp
    have hc := H3.out w4.drew
    ((with_reducible refine hc.mono ?_))
    rintro e w5 ⟨rfl, hb⟩
    have SBw5 := Lib.hid (show Below w4.heap.size w4 w5 from below_of_drew hb)
    clear hc hb
    go_simp
    refine hK _ _ (fun W => Below w4.heap.size w4 W) (fun W h => h) SBw5.out ?_
    clear hK K
    repeat first
      | refine seq_pure (v := ?_) rfl (by rfl) (fun W hW => ?_) ?_
        rotate_left
        · obtain ⟨⟨c0, c1, c2, c3⟩, d0, d1, d2, d3⟩ := HCS.out W hW
          clear hW
          go_simp
          with_reducible rfl
        simp only [Act.put, List.setIfInBounds_toArray, List.set_cons_zero, List.set_cons_succ]
      | refine seq_skip rfl (by rfl) ?_
        simp only [Act.put, undef, List.setIfInBounds_toArray, List.set_cons_zero, List.set_cons_succ]
    refine seq_make rfl (by rfl) (fun K hK => ?_)
    go_simp
    have hc := H4.out w5
    ((with_reducible refine hc.mono ?_))
    rintro e w6 ⟨rfl, hb⟩
    have SBw6 := Lib.hid (show Below w4.heap.size w4 w6 from SBw5.out.trans (hb.mono SBw5.out.size))
    clear hc hb
    go_simp
    refine hK _ _ (fun W => Below w4.heap.size w4 W) (fun W h => h) SBw6.out ?_
    clear hK K
    refine seq_make rfl (by rfl) (fun K hK => ?_)
    go_simp
    have hc := H5.out w6
    ((with_reducible refine hc.mono ?_))
    rintro e w7 ⟨rfl, hb⟩
    have SBw7 := Lib.hid (show Below w4.heap.size w4 w7 from SBw6.out.trans (hb.mono SBw6.out.size))
    clear hc hb
    go_simp
    refine hK _ _ (fun W => Below w4.heap.size w4 W) (fun W h => h) SBw7.out ?_
    clear hK K
    repeat first
      | refine seq_neA (xs := kyc a) (ys := kyc b) (c := !true) rfl (by rfl) rfl rfl rfl (by kernel_rfl) HN.out ?_
        simp only [Act.put, List.setIfInBounds_toArray, List.set_cons_zero, List.set_cons_succ]
      | refine seq_pure (v := ?_) rfl (by rfl) (fun W hW => ?_) ?_
        rotate_left
        · obtain ⟨⟨c0, c1, c2, c3⟩, d0, d1, d2, d3⟩ := HCS.out W hW
          clear hW
          go_simp
          with_reducible rfl
        simp only [Act.put, List.setIfInBounds_toArray, List.set_cons_zero, List.set_cons_succ]
      | refine seq_skip rfl (by rfl) ?_
        simp only [Act.put, undef, List.setIfInBounds_toArray, List.set_cons_zero, List.set_cons_succ]
    refine seq_done ?_
    go_wp2_with fail
    go_ret
    exact ⟨rfl, BL.out.trans (SBw7.out.mono BL.out.size)⟩
end Go.Proofs.Ytnkoiageoenfeaa
