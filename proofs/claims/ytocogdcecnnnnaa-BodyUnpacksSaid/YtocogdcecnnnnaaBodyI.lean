/-
  Contract of body.Unpack. Condition: the object's body reads as bytes, at most 2^47.
-/
import Derived.Test.YtocogdcecnnnnaaBodyH
namespace Go.Proofs.Ytocogdcecnnnnaa
open Go.RowKit

/-- What Unpack answers: an item whose list lies in memory of the call's own, or an error. -/
def UnpackPost (w : World) (o : Int × Int × List UInt8) (e : Ending) (w' : World) : Prop :=
  Below w.heap.size w w' ∧ ((unpack o = none ∧ e = .returned (.tuple #[.agg #[.int .i64 0, .int .i64 0, .int .i64 0, .int .i64 0, .int .u64 0, .slice none 0 0, .int .u64 0, .int .i64 0, .int .i64 0, .int .u32 0, .int .u32 0, .int .u32 0], .int .i64 5])) ∨
    (∃ y : It, unpack o = some y.val ∧ y.ln = y.l.length ∧ e = .returned (.tuple #[.agg y.cells.toArray, .int .i64 0]) ∧ AccI w' w.heap.size y.la y.lc y.l))

/-- An item is stored into a block of the call's own. -/
theorem item_put {w W : World} {r : Nat} {T : TypeId} {u0 u1 u2 u3 u4 u5 u6 u7 u8 u9 u10 u11 : Value} (hb : Below w.heap.size w W) (hr : w.heap.size ≤ r) (hB : Blk W r T [u0, u1, u2, u3, u4, u5, u6, u7, u8, u9, u10, u11]) (v0 v1 v2 v3 v4 v5 v6 v7 v8 v9 v10 v11 : Value) :
    Blk (World.setCell (World.setCell (World.setCell (World.setCell (World.setCell (World.setCell (World.setCell (World.setCell (World.setCell (World.setCell (World.setCell (World.setCell W ⟨r, 0, none⟩ v0) ⟨r, 1, none⟩ v1) ⟨r, 2, none⟩ v2) ⟨r, 3, none⟩ v3) ⟨r, 4, none⟩ v4) ⟨r, 5, none⟩ v5) ⟨r, 6, none⟩ v6) ⟨r, 7, none⟩ v7) ⟨r, 8, none⟩ v8) ⟨r, 9, none⟩ v9) ⟨r, 10, none⟩ v10) ⟨r, 11, none⟩ v11) r T [v0, v1, v2, v3, v4, v5, v6, v7, v8, v9, v10, v11] ∧ Below w.heap.size w (World.setCell (World.setCell (World.setCell (World.setCell (World.setCell (World.setCell (World.setCell (World.setCell (World.setCell (World.setCell (World.setCell (World.setCell W ⟨r, 0, none⟩ v0) ⟨r, 1, none⟩ v1) ⟨r, 2, none⟩ v2) ⟨r, 3, none⟩ v3) ⟨r, 4, none⟩ v4) ⟨r, 5, none⟩ v5) ⟨r, 6, none⟩ v6) ⟨r, 7, none⟩ v7) ⟨r, 8, none⟩ v8) ⟨r, 9, none⟩ v9) ⟨r, 10, none⟩ v10) ⟨r, 11, none⟩ v11) ∧
    (∀ (B c : Nat) (A : Option Addr) (l : List Int), T ≠ 3 → AccI W B A c l → AccI (World.setCell (World.setCell (World.setCell (World.setCell (World.setCell (World.setCell (World.setCell (World.setCell (World.setCell (World.setCell (World.setCell (World.setCell W ⟨r, 0, none⟩ v0) ⟨r, 1, none⟩ v1) ⟨r, 2, none⟩ v2) ⟨r, 3, none⟩ v3) ⟨r, 4, none⟩ v4) ⟨r, 5, none⟩ v5) ⟨r, 6, none⟩ v6) ⟨r, 7, none⟩ v7) ⟨r, 8, none⟩ v8) ⟨r, 9, none⟩ v9) ⟨r, 10, none⟩ v10) ⟨r, 11, none⟩ v11) B A c l) := by
  refine ⟨((((((((((((hB.set 0 (v0)).set 1 (v1)).set 2 (v2)).set 3 (v3)).set 4 (v4)).set 5 (v5)).set 6 (v6)).set 7 (v7)).set 8 (v8)).set 9 (v9)).set 10 (v10)).set 11 (v11)), ((((((((((((hb.setCell (p := ⟨r, 0, none⟩) hr v0).setCell (p := ⟨r, 1, none⟩) hr v1).setCell (p := ⟨r, 2, none⟩) hr v2).setCell (p := ⟨r, 3, none⟩) hr v3).setCell (p := ⟨r, 4, none⟩) hr v4).setCell (p := ⟨r, 5, none⟩) hr v5).setCell (p := ⟨r, 6, none⟩) hr v6).setCell (p := ⟨r, 7, none⟩) hr v7).setCell (p := ⟨r, 8, none⟩) hr v8).setCell (p := ⟨r, 9, none⟩) hr v9).setCell (p := ⟨r, 10, none⟩) hr v10).setCell (p := ⟨r, 11, none⟩) hr v11), ?_⟩
  intro B c A l hT ha
  refine AccR.kept ha (upd_trans (upd_trans (upd_trans (upd_trans (upd_trans (upd_trans (upd_trans (upd_trans (upd_trans (upd_trans (upd_trans (upd_set_p W r 0 (v0)) (upd_set_p _ _ 1 (v1))) (upd_set_p _ _ 2 (v2))) (upd_set_p _ _ 3 (v3))) (upd_set_p _ _ 4 (v4))) (upd_set_p _ _ 5 (v5))) (upd_set_p _ _ 6 (v6))) (upd_set_p _ _ 7 (v7))) (upd_set_p _ _ 8 (v8))) (upd_set_p _ _ 9 (v9))) (upd_set_p _ _ 10 (v10))) (upd_set_p _ _ 11 (v11))) ?_
  intro k hk e
  exact typ_ne (accr_typ ha hk) hB.typ (Ne.symm hT) (by injection e with e; exact e.symm)

/-- What is known once it is decided whether the class and the type are right. -/
def CutU (w : World) (cl ty : Int) (s : Value) (v : Value) (W : World) : Prop :=
  (Blk W w.heap.size 32 [.int .i64 cl, .int .i64 ty, s] ∧ Blk W (w.heap.size + 1) 36 [.int .i64 0, .int .i64 0, .int .i64 0, .int .i64 0, .int .u64 0, .slice none 0 0, .int .u64 0, .int .i64 0, .int .i64 0, .int .u32 0, .int .u32 0, .int .u32 0] ∧ Below w.heap.size w W) ∧ ∃ u, v = .bool u ∧ ((u = true ∧ (knd cl = 0 ∨ ty ≠ knd cl)) ∨ (u = false ∧ ¬ knd cl = 0 ∧ ty = knd cl))
/-- What is known once it is decided whether all was read. -/
def CutV (w : World) (o : Int × Int × List UInt8) (q : Nat) (v : Value) (W : World) : Prop :=
  ∃ y : It, (Blk W (w.heap.size + 1) 36 [.int .i64 0, .int .i64 0, .int .i64 0, .int .i64 0, .int .u64 0, .slice none 0 0, .int .u64 0, .int .i64 0, .int .i64 0, .int .u32 0, .int .u32 0, .int .u32 0] ∧ Blk W q 36 y.cells ∧ y.ln = y.l.length ∧ AccI W w.heap.size y.la y.lc y.l ∧ Below w.heap.size w W) ∧ ∃ u, v = .bool u ∧ ((u = true ∧ unpack o = none) ∨ (u = false ∧ unpack o = some y.val))

theorem unpack_none {o : Int × Int × List UInt8} (h : knd o.1 = 0 ∨ o.2.1 ≠ knd o.1 ∨ (DSt.fields (.blank o.1) (.rd o.2.2 0 0 false)).2.done = false) : unpack o = none := by
  unfold unpack
  by_cases hk : knd o.1 = 0
  · rw [if_pos hk]
  · rw [if_neg hk]
    by_cases ht : o.2.1 = knd o.1
    · rw [if_pos ht]
      rcases h with h | h | h
      · exact absurd h hk
      · exact absurd ht h
      · rw [h]; rfl
    · rw [if_neg ht]
theorem unpack_yes {o : Int × Int × List UInt8} (h1 : ¬ knd o.1 = 0) (h2 : o.2.1 = knd o.1) (h3 : (DSt.fields (.blank o.1) (.rd o.2.2 0 0 false)).2.done = true) : unpack o = some (DSt.fields (.blank o.1) (.rd o.2.2 0 0 false)).1 := by
  unfold unpack
  rw [if_neg h1, if_pos h2, if_pos h3]

set_option maxRecDepth 100000 in
set_option maxHeartbeats 3200000 in
theorem unpack_calls (cl ty : Int) (a : Option Addr) (n c : Nat) (l : List UInt8) (w : World) (h : Bts w w.heap.size a n l) (hn : n ≤ 140737488355328) :
    Calls Try.prog 14 #[.agg #[.int .i64 cl, .int .i64 ty, .slice a n c]] w (UnpackPost w (cl, ty, l)) := by
  have hn1 := Blk.new (w.alloc (.cells (([.int .i64 cl, .int .i64 ty, .slice a n c] : List Value).toArray) 32)) 36 [.int .i64 0, .int .i64 0, .int .i64 0, .int .i64 0, .int .u64 0, .slice none 0 0, .int .u64 0, .int .i64 0, .int .i64 0, .int .u32 0, .int .u32 0, .int .u32 0]
  simp only [World.size_alloc] at hn1
  have H0 := Lib.hid ((Blk.new w 32 [.int .i64 cl, .int .i64 ty, .slice a n c]).alloc (.cells ([.int .i64 0, .int .i64 0, .int .i64 0, .int .i64 0, .int .u64 0, .slice none 0 0, .int .u64 0, .int .i64 0, .int .i64 0, .int .u32 0, .int .u32 0, .int .u32 0] : List Value).toArray 36))
  have H1 := Lib.hid hn1
  have HB := Lib.hid (bel_new (bel_new (Below.refl w.heap.size w) (.cells (([.int .i64 cl, .int .i64 ty, .slice a n c] : List Value).toArray) 32)) (.cells ([.int .i64 0, .int .i64 0, .int .i64 0, .int .i64 0, .int .u64 0, .slice none 0 0, .int .u64 0, .int .i64 0, .int .i64 0, .int .u32 0, .int .u32 0, .int .u32 0] : List Value).toArray 36))
  have HT := Lib.hid h
  clear hn1 h
  go_enter Try.func14, Try.ntmps14
  go_upto_region 1 with fail
  revert H0 H1 HB
  generalize World.alloc (World.alloc w _) _ = W1
  intro H0 H1 HB
  go_cut [17] (fun v W => CutU w cl ty (.slice a n c) v W)
  case first =>
    have x0 := H0.out.cell 0
    have x1 := H0.out.cell 1
    simp only [List.getElem?_cons_zero, List.getElem?_cons_succ] at x0 x1
    have HC := Lib.hid (And.intro x0 x1)
    clear x0 x1
    have hk := kind_calls cl
    by_cases h0 : knd cl = 0
    · rw [h0] at hk
      go_wp2
      refine region_seq (fun W => W.cell? ⟨w.heap.size, 0, none⟩ = some (.int .i64 cl) ∧ W.cell? ⟨w.heap.size, 1, none⟩ = some (.int .i64 ty))
        [(0, true), (1, true), (2, false), (3, true), (4, true), (5, true), (6, true), (7, true), (8, true), (9, true), (10, true), (11, true)]
        (by kernel_rfl) (by kernel_rfl) (by kernel_rfl) (by kernel_rfl) (fun _ _ _ _ _ h => h) HC.out ?_
      repeat
        first
        | (refine seq_pure (v := ?_) rfl (by rfl) (fun W hW => ?_) ?_
           rotate_left
           · obtain ⟨d0, d1⟩ := hW
             go_simp
             try with_reducible rfl
           simp only [Act.put, List.setIfInBounds_toArray, List.set_cons_zero, List.set_cons_succ])
        | (refine seq_skip rfl (by rfl) ?_
           simp only [Act.put, List.setIfInBounds_toArray, List.set_cons_zero, List.set_cons_succ])
      refine seq_make rfl (by rfl) (fun K hK => ?_)
      go_simp
      ((with_reducible refine (hk _).mono ?_))
      rintro e w6 ⟨rfl, rfl⟩
      go_simp
      refine hK _ _ (fun W => W.cell? ⟨w.heap.size, 0, none⟩ = some (.int .i64 cl) ∧ W.cell? ⟨w.heap.size, 1, none⟩ = some (.int .i64 ty)) (fun W h => h) HC.out ?_
      clear hK K hk
      repeat
        first
        | (refine seq_pure (v := ?_) rfl (by rfl) (fun W hW => ?_) ?_
           rotate_left
           · obtain ⟨d0, d1⟩ := hW
             go_simp
             try with_reducible rfl
           simp only [Act.put, List.setIfInBounds_toArray, List.set_cons_zero, List.set_cons_succ])
        | (refine seq_skip rfl (by rfl) ?_
           simp only [Act.put, List.setIfInBounds_toArray, List.set_cons_zero, List.set_cons_succ])
      refine seq_done ?_
      go_wp2
      go_meet
      exact ⟨⟨H0.out.drew, H1.out.drew, bel_drewN HB.out 1⟩, true, rfl, .inl ⟨rfl, .inl h0⟩⟩
    · have HK0 := Lib.hid h0
      obtain ⟨kk, hkk⟩ : ∃ kk, kk = knd cl := ⟨_, rfl⟩
      rw [← hkk] at hk h0
      have h0' : (kk == 0) = false := by rw [beq_eq_false_iff_ne]; exact h0
      have HKK := Lib.hid hkk
      clear hkk
      by_cases ht : ty = kk
      · have HTY := Lib.hid ht
        have ht' : (ty == kk) = true := by rw [beq_iff_eq]; exact ht
        have ht2 : (ty != kk) = false := by simp [ht]
        clear ht
        go_wp2
        refine region_seq (fun W => W.cell? ⟨w.heap.size, 0, none⟩ = some (.int .i64 cl) ∧ W.cell? ⟨w.heap.size, 1, none⟩ = some (.int .i64 ty))
          [(0, true), (1, true), (2, false), (3, true), (4, true), (5, true), (6, true), (7, true), (8, true), (9, false), (10, true), (11, true)]
          (by kernel_rfl) (by kernel_rfl) (by kernel_rfl) (by kernel_rfl) (fun _ _ _ _ _ h => h) HC.out ?_
        repeat
          first
          | (refine seq_pure (v := ?_) rfl (by rfl) (fun W hW => ?_) ?_
             rotate_left
             · obtain ⟨d0, d1⟩ := hW
               go_simp
               try with_reducible rfl
             simp only [Act.put, List.setIfInBounds_toArray, List.set_cons_zero, List.set_cons_succ])
          | (refine seq_skip rfl (by rfl) ?_
             simp only [Act.put, List.setIfInBounds_toArray, List.set_cons_zero, List.set_cons_succ])
        refine seq_make rfl (by rfl) (fun K hK => ?_)
        go_simp
        ((with_reducible refine (hk _).mono ?_))
        rintro e w6 ⟨rfl, rfl⟩
        go_simp
        refine hK _ _ (fun W => W.cell? ⟨w.heap.size, 0, none⟩ = some (.int .i64 cl) ∧ W.cell? ⟨w.heap.size, 1, none⟩ = some (.int .i64 ty)) (fun W h => h) HC.out ?_
        clear hK K
        repeat
          first
          | (refine seq_pure (v := ?_) rfl (by rfl) (fun W hW => ?_) ?_
             rotate_left
             · obtain ⟨d0, d1⟩ := hW
               go_simp
               try with_reducible rfl
             simp only [Act.put, List.setIfInBounds_toArray, List.set_cons_zero, List.set_cons_succ])
          | (refine seq_skip rfl (by rfl) ?_
             simp only [Act.put, List.setIfInBounds_toArray, List.set_cons_zero, List.set_cons_succ])
        refine seq_make rfl (by rfl) (fun K hK => ?_)
        go_simp
        ((with_reducible refine (hk _).mono ?_))
        rintro e w6 ⟨rfl, rfl⟩
        go_simp
        refine hK _ _ (fun W => W.cell? ⟨w.heap.size, 0, none⟩ = some (.int .i64 cl) ∧ W.cell? ⟨w.heap.size, 1, none⟩ = some (.int .i64 ty)) (fun W h => h) HC.out ?_
        clear hK K hk
        repeat
          first
          | (refine seq_pure (v := ?_) rfl (by rfl) (fun W hW => ?_) ?_
             rotate_left
             · obtain ⟨d0, d1⟩ := hW
               go_simp
               try with_reducible rfl
             simp only [Act.put, List.setIfInBounds_toArray, List.set_cons_zero, List.set_cons_succ])
          | (refine seq_skip rfl (by rfl) ?_
             simp only [Act.put, List.setIfInBounds_toArray, List.set_cons_zero, List.set_cons_succ])
        refine seq_done ?_
        go_wp2
        go_meet
        exact ⟨⟨H0.out.drew, H1.out.drew, bel_drewN HB.out 1⟩, false, rfl, .inr ⟨rfl, HK0.out, by rw [← HKK.out]; exact HTY.out⟩⟩
      · have HTY := Lib.hid ht
        have ht' : (ty == kk) = false := by rw [beq_eq_false_iff_ne]; exact ht
        have ht2 : (ty != kk) = true := by simp [ht]
        clear ht
        go_wp2
        refine region_seq (fun W => W.cell? ⟨w.heap.size, 0, none⟩ = some (.int .i64 cl) ∧ W.cell? ⟨w.heap.size, 1, none⟩ = some (.int .i64 ty))
          [(0, true), (1, true), (2, false), (3, true), (4, true), (5, true), (6, true), (7, true), (8, true), (9, false), (10, true), (11, true)]
          (by kernel_rfl) (by kernel_rfl) (by kernel_rfl) (by kernel_rfl) (fun _ _ _ _ _ h => h) HC.out ?_
        repeat
          first
          | (refine seq_pure (v := ?_) rfl (by rfl) (fun W hW => ?_) ?_
             rotate_left
             · obtain ⟨d0, d1⟩ := hW
               go_simp
               try with_reducible rfl
             simp only [Act.put, List.setIfInBounds_toArray, List.set_cons_zero, List.set_cons_succ])
          | (refine seq_skip rfl (by rfl) ?_
             simp only [Act.put, List.setIfInBounds_toArray, List.set_cons_zero, List.set_cons_succ])
        refine seq_make rfl (by rfl) (fun K hK => ?_)
        go_simp
        ((with_reducible refine (hk _).mono ?_))
        rintro e w6 ⟨rfl, rfl⟩
        go_simp
        refine hK _ _ (fun W => W.cell? ⟨w.heap.size, 0, none⟩ = some (.int .i64 cl) ∧ W.cell? ⟨w.heap.size, 1, none⟩ = some (.int .i64 ty)) (fun W h => h) HC.out ?_
        clear hK K
        repeat
          first
          | (refine seq_pure (v := ?_) rfl (by rfl) (fun W hW => ?_) ?_
             rotate_left
             · obtain ⟨d0, d1⟩ := hW
               go_simp
               try with_reducible rfl
             simp only [Act.put, List.setIfInBounds_toArray, List.set_cons_zero, List.set_cons_succ])
          | (refine seq_skip rfl (by rfl) ?_
             simp only [Act.put, List.setIfInBounds_toArray, List.set_cons_zero, List.set_cons_succ])
        refine seq_make rfl (by rfl) (fun K hK => ?_)
        go_simp
        ((with_reducible refine (hk _).mono ?_))
        rintro e w6 ⟨rfl, rfl⟩
        go_simp
        refine hK _ _ (fun W => W.cell? ⟨w.heap.size, 0, none⟩ = some (.int .i64 cl) ∧ W.cell? ⟨w.heap.size, 1, none⟩ = some (.int .i64 ty)) (fun W h => h) HC.out ?_
        clear hK K hk
        repeat
          first
          | (refine seq_pure (v := ?_) rfl (by rfl) (fun W hW => ?_) ?_
             rotate_left
             · obtain ⟨d0, d1⟩ := hW
               go_simp
               try with_reducible rfl
             simp only [Act.put, List.setIfInBounds_toArray, List.set_cons_zero, List.set_cons_succ])
          | (refine seq_skip rfl (by rfl) ?_
             simp only [Act.put, List.setIfInBounds_toArray, List.set_cons_zero, List.set_cons_succ])
        refine seq_done ?_
        go_wp2
        go_meet
        exact ⟨⟨H0.out.drew, H1.out.drew, bel_drewN HB.out 1⟩, true, rfl, .inl ⟨rfl, .inr (by rw [← HKK.out]; exact HTY.out)⟩⟩
  case rest =>
    obtain ⟨⟨h0, h1, hb⟩, v, rfl, hv⟩ := hcut
    clear H0 H1 HB
    have H0 := Lib.hid h0
    have H1 := Lib.hid h1
    have HB := Lib.hid hb
    clear h0 h1 hb
    rcases hv with ⟨rfl, hp⟩ | ⟨rfl, hk, hty⟩
    · have HP := Lib.hid (show unpack (cl, ty, l) = none from unpack_none (by rcases hp with h | h; exact .inl h; exact .inr (.inl h)))
      clear hp
      have r0 := H1.out.cell 0
      have g0 := H1.out.free 0
      have r1 := H1.out.cell 1
      have g1 := H1.out.free 1
      have r2 := H1.out.cell 2
      have g2 := H1.out.free 2
      have r3 := H1.out.cell 3
      have g3 := H1.out.free 3
      have r4 := H1.out.cell 4
      have g4 := H1.out.free 4
      have r5 := H1.out.cell 5
      have g5 := H1.out.free 5
      have r6 := H1.out.cell 6
      have g6 := H1.out.free 6
      have r7 := H1.out.cell 7
      have g7 := H1.out.free 7
      have r8 := H1.out.cell 8
      have g8 := H1.out.free 8
      have r9 := H1.out.cell 9
      have g9 := H1.out.free 9
      have r10 := H1.out.cell 10
      have g10 := H1.out.free 10
      have r11 := H1.out.cell 11
      have g11 := H1.out.free 11
      simp only [List.getElem?_cons_zero, List.getElem?_cons_succ] at r0 r1 r2 r3 r4 r5 r6 r7 r8 r9 r10 r11
      go_wp2
      clear r0 g0 r1 g1 r2 g2 r3 g3 r4 g4 r5 g5 r6 g6 r7 g7 r8 g8 r9 g9 r10 g10 r11 g11
      have HO := Lib.hid (item_put HB.out (by omega) H1.out (.int .i64 0) (.int .i64 0) (.int .i64 0) (.int .i64 0) (.int .u64 0) (.slice none 0 0) (.int .u64 0) (.int .i64 0) (.int .i64 0) (.int .u32 0) (.int .u32 0) (.int .u32 0))
      revert HO
      generalize World.setCell (World.setCell (World.setCell (World.setCell (World.setCell (World.setCell (World.setCell (World.setCell (World.setCell (World.setCell (World.setCell (World.setCell wc _ _) _ _) _ _) _ _) _ _) _ _) _ _) _ _) _ _) _ _) _ _) _ _ = W5
      intro HO
      have y0 := HO.out.1.cell 0
      have y1 := HO.out.1.cell 1
      have y2 := HO.out.1.cell 2
      have y3 := HO.out.1.cell 3
      have y4 := HO.out.1.cell 4
      have y5 := HO.out.1.cell 5
      have y6 := HO.out.1.cell 6
      have y7 := HO.out.1.cell 7
      have y8 := HO.out.1.cell 8
      have y9 := HO.out.1.cell 9
      have y10 := HO.out.1.cell 10
      have y11 := HO.out.1.cell 11
      simp only [List.getElem?_cons_zero, List.getElem?_cons_succ] at y0 y1 y2 y3 y4 y5 y6 y7 y8 y9 y10 y11
      refine bodyPost_ret (v := .tuple #[.agg #[.int .i64 0, .int .i64 0, .int .i64 0, .int .i64 0, .int .u64 0, .slice none 0 0, .int .u64 0, .int .i64 0, .int .i64 0, .int .u32 0, .int .u32 0, .int .u32 0], .int .i64 5]) (by simp [results, Try.results14, go_sem, y0, y1, y2, y3, y4, y5, y6, y7, y8, y9, y10, y11]) rfl ?_
      exact ⟨HO.out.2.1, .inl ⟨HP.out, rfl⟩⟩
    · have HKN := Lib.hid hk
      have HTY := Lib.hid hty
      clear hk hty
      have x2 := H0.out.cell 2
      simp only [List.getElem?_cons_zero, List.getElem?_cons_succ] at x2
      have hcn := new_calls a n c l wc ((HT.out.below HB.out).more HB.out.size) hn
      go_wp2_with fail
      ((with_reducible refine hcn.mono ?_))
      rintro e W2 ⟨r, g, rfl, hr, hg, hrd, hb2⟩
      clear hcn x2
      have HRD := Lib.hid (hrd.bel (bel_new (Below.refl _ _) (.cells (([.pointer (some ⟨r, 0, none⟩), .bool false] : List Value).toArray) 67)))
      have HP := Lib.hid (Blk.new W2 67 [.pointer (some ⟨r, 0, none⟩), .bool false])
      have H02 := Lib.hid ((H0.out.below hb2).alloc (.cells (([.pointer (some ⟨r, 0, none⟩), .bool false] : List Value).toArray) 67))
      have H12 := Lib.hid ((H1.out.below hb2).alloc (.cells (([.pointer (some ⟨r, 0, none⟩), .bool false] : List Value).toArray) 67))
      have HB2 := Lib.hid (bel_new (bel_more HB.out (Nat.le_refl _) hb2) (.cells (([.pointer (some ⟨r, 0, none⟩), .bool false] : List Value).toArray) 67))
      have hlt := H1.out.lt
      have HN := Lib.hid (show w.heap.size + 1 < r ∧ w.heap.size + 1 < W2.heap.size by have := hb2.size; omega)
      clear H0 H1 HB hr hg hrd hb2 hlt
      go_upto_region 4 with fail
      revert HRD HP H02 H12 HB2
      generalize World.alloc W2 _ = W3
      intro HRD HP H02 H12 HB2
      obtain ⟨p, hp⟩ : ∃ p, p = W2.heap.size := ⟨_, rfl⟩
      rw [← hp] at HP HN ⊢
      clear hp
      have hd : Dir W3 w.heap.size [p, r] 63 p (.rd l 0 0 false) := ⟨rfl, r, g, rfl, by have := HN.out; omega, by have := HN.out; omega, HP.out, HRD.out⟩
      have hc : Calls Try.prog 19 #[.iface 63 (.pointer (some ⟨p, 0, none⟩)), .agg #[.int .i64 cl, .int .i64 0, .int .i64 0, .int .i64 0, .int .u64 0, .slice none 0 0, .int .u64 0, .int .i64 0, .int .i64 0, .int .u32 0, .int .u32 0, .int .u32 0]] W3 (FldPost W3 w.heap.size [p, r] 63 p (DSt.fields (.blank cl) (.rd l 0 0 false))) :=
        fields_calls hd ⟨cl, 0, 0, 0, 0, none, 0, 0, [], Wnt.zero⟩ Row.nil (Nat.zero_le _) (by simp) (by simp [Wnt.zero]) (by simp [Wnt.zero]) (by simp [Wnt.zero]) (by simp [DSt.len]) HB2.out.size
      clear hd
      have x0 := H02.out.cell 0
      simp only [List.getElem?_cons_zero] at x0
      go_wp2_with fail
      ((with_reducible refine hc.mono ?_))
      rintro e W4 ⟨y, rfl, hv, ha, hyn, hd, ht⟩
      clear hc x0
      obtain ⟨i', err', bad', e4, hi', _⟩ := run_rd_inv (rqs ((DSt.rd l 0 0 false).many 0) (.blank cl)) l 0 0 false (Nat.zero_le _)
      have e5 : (DSt.fields (.blank cl) (.rd l 0 0 false)).2 = .rd l i' err' bad' := e4
      rw [e5] at hd
      obtain ⟨_, r', g', hS, _, _, hpb, hrd⟩ := hd
      obtain rfl : r = r' := by simpa using hS
      have h12 := H12.out.same (ht.block _ H12.out.lt (by have := HN.out; simp; omega))
      have hb4 := Turn.bel HB2.out (Nat.le_refl _) ht (by have := HN.out; simp; omega)
      have HPB := Lib.hid (hpb.alloc (.cells y.cells.toArray 36))
      have HRD4 := Lib.hid (hrd.bel (bel_new (Below.refl _ _) (.cells y.cells.toArray 36)))
      have HY := Lib.hid (Blk.new W4 36 y.cells)
      have H14 := Lib.hid (h12.alloc (.cells y.cells.toArray 36))
      have HA := Lib.hid ((AccR.lower ha HB2.out.size).alloc (.cells y.cells.toArray 36))
      have HB4 := Lib.hid (bel_new hb4 (.cells y.cells.toArray 36))
      have HYN := Lib.hid hyn
      have HV := Lib.hid hv
      have HE := Lib.hid e5
      clear hpb hrd h12 ha hb4 hyn hv e4 e5 ht HRD HP H02 H12 HB2 hS
      obtain ⟨ycl, ya, yb, yc, yu, yla, yln, ylc, yl, ybw, ysu, yho, yan, yal, yno⟩ := y
      simp only [It.cells] at HPB HRD4 HY H14 HA HB4 ⊢
      go_upto_region 5 with fail
      revert HPB HRD4 HY H14 HA HB4
      generalize World.alloc W4 _ = W5
      intro HPB HRD4 HY H14 HA HB4
      obtain ⟨q, hq⟩ : ∃ q, q = W4.heap.size := ⟨_, rfl⟩
      rw [← hq] at HY ⊢
      clear hq
      go_cut [49] (fun v W => CutV w (cl, ty, l) q v W)
      case first =>
        have c0 := HPB.out.cell 0
        have c1 := HPB.out.cell 1
        simp only [List.getElem?_cons_zero, List.getElem?_cons_succ] at c0 c1
        cases bad' with
        | true =>
          go_wp2
          go_meet
          exact ⟨⟨ycl, ya, yb, yc, yu, yla, yln, ylc, yl, ⟨ybw, ysu, yho, yan, yal, yno⟩⟩, ⟨H14.out, HY.out, HYN.out, HA.out, HB4.out⟩, true, rfl, .inl ⟨rfl, unpack_none (.inr (.inr (by rw [HE.out]; rfl)))⟩⟩
        | false =>
          have he := err_calls HRD4.out
          by_cases h0 : err' = 0
          · subst h0
            have hl := left_calls HRD4.out
            obtain ⟨d, hd⟩ : ∃ d : Nat, l.length = i' + d := ⟨l.length - i', by omega⟩
            have hdd : (l.length : Int) - (i' : Int) = (d : Int) := by omega
            rw [hdd] at hl
            clear hdd
            go_wp2_with fail
            ((with_reducible refine he.mono ?_))
            rintro e w6 ⟨rfl, rfl⟩
            go_wp2_with fail
            ((with_reducible refine hl.mono ?_))
            rintro e w6 ⟨rfl, m, rfl⟩
            by_cases h1 : d = 0
            · subst h1
              have HD := Lib.hid hd
              clear hd he hl
              go_wp2
              go_meet
              refine ⟨⟨ycl, ya, yb, yc, yu, yla, yln, ylc, yl, ⟨ybw, ysu, yho, yan, yal, yno⟩⟩, ⟨H14.out.drewN m, HY.out.drewN m, HYN.out, AccR.drewN HA.out m, bel_drewN HB4.out m⟩, false, rfl, .inr ⟨rfl, ?_⟩⟩
              rw [HV.out]
              refine unpack_yes HKN.out HTY.out ?_
              rw [HE.out]
              simp [DSt.done, HD.out]
            · have h1' : ((d : Int) == 0) = false := by rw [beq_eq_false_iff_ne]; omega
              have h1'' : ¬ (d : Int) = 0 := by omega
              have HD := Lib.hid hd
              have HNZ := Lib.hid h1
              have HB0 := Lib.hid (show ((d : Int) != 0) = true from bne_iff_ne.2 h1'')
              clear hd he hl
              go_wp2
              go_meet
              refine ⟨⟨ycl, ya, yb, yc, yu, yla, yln, ylc, yl, ⟨ybw, ysu, yho, yan, yal, yno⟩⟩, ⟨H14.out.drewN m, HY.out.drewN m, HYN.out, AccR.drewN HA.out m, bel_drewN HB4.out m⟩, true, by rw [HB0.out], .inl ⟨rfl, unpack_none (.inr (.inr ?_))⟩⟩
              rw [HE.out]
              have := HNZ.out
              have := HD.out
              simp [DSt.done]
              omega
          · have HNZ := Lib.hid h0
            go_wp2_with fail
            ((with_reducible refine he.mono ?_))
            rintro e w6 ⟨rfl, rfl⟩
            clear he
            go_wp2
            go_meet
            refine ⟨⟨ycl, ya, yb, yc, yu, yla, yln, ylc, yl, ⟨ybw, ysu, yho, yan, yal, yno⟩⟩, ⟨H14.out, HY.out, HYN.out, HA.out, HB4.out⟩, true, rfl, .inl ⟨rfl, unpack_none (.inr (.inr ?_))⟩⟩
            rw [HE.out]
            simp [DSt.done, HNZ.out]
      case rest =>
        obtain ⟨y, ⟨h1, h2, h3, h4, h5⟩, v, rfl, hv⟩ := hcut
        clear HPB HRD4 HY H14 HA HB4 HYN HV HE HN HKN HTY
        have H1 := Lib.hid h1
        have H2 := Lib.hid h2
        have H3 := Lib.hid h3
        have H4 := Lib.hid h4
        have HB := Lib.hid h5
        clear h1 h2 h3 h4 h5
        have r0 := H1.out.cell 0
        have g0 := H1.out.free 0
        have r1 := H1.out.cell 1
        have g1 := H1.out.free 1
        have r2 := H1.out.cell 2
        have g2 := H1.out.free 2
        have r3 := H1.out.cell 3
        have g3 := H1.out.free 3
        have r4 := H1.out.cell 4
        have g4 := H1.out.free 4
        have r5 := H1.out.cell 5
        have g5 := H1.out.free 5
        have r6 := H1.out.cell 6
        have g6 := H1.out.free 6
        have r7 := H1.out.cell 7
        have g7 := H1.out.free 7
        have r8 := H1.out.cell 8
        have g8 := H1.out.free 8
        have r9 := H1.out.cell 9
        have g9 := H1.out.free 9
        have r10 := H1.out.cell 10
        have g10 := H1.out.free 10
        have r11 := H1.out.cell 11
        have g11 := H1.out.free 11
        simp only [List.getElem?_cons_zero, List.getElem?_cons_succ] at r0 r1 r2 r3 r4 r5 r6 r7 r8 r9 r10 r11
        rcases hv with ⟨rfl, hp⟩ | ⟨rfl, hp⟩
        · have HP := Lib.hid hp
          clear hp
          go_wp2
          clear r0 g0 r1 g1 r2 g2 r3 g3 r4 g4 r5 g5 r6 g6 r7 g7 r8 g8 r9 g9 r10 g10 r11 g11
          have HO := Lib.hid (item_put HB.out (by omega) H1.out (.int .i64 0) (.int .i64 0) (.int .i64 0) (.int .i64 0) (.int .u64 0) (.slice none 0 0) (.int .u64 0) (.int .i64 0) (.int .i64 0) (.int .u32 0) (.int .u32 0) (.int .u32 0))
          revert HO
          generalize World.setCell (World.setCell (World.setCell (World.setCell (World.setCell (World.setCell (World.setCell (World.setCell (World.setCell (World.setCell (World.setCell (World.setCell wc _ _) _ _) _ _) _ _) _ _) _ _) _ _) _ _) _ _) _ _) _ _) _ _ = W6
          intro HO
          have y0 := HO.out.1.cell 0
          have y1 := HO.out.1.cell 1
          have y2 := HO.out.1.cell 2
          have y3 := HO.out.1.cell 3
          have y4 := HO.out.1.cell 4
          have y5 := HO.out.1.cell 5
          have y6 := HO.out.1.cell 6
          have y7 := HO.out.1.cell 7
          have y8 := HO.out.1.cell 8
          have y9 := HO.out.1.cell 9
          have y10 := HO.out.1.cell 10
          have y11 := HO.out.1.cell 11
          simp only [List.getElem?_cons_zero, List.getElem?_cons_succ] at y0 y1 y2 y3 y4 y5 y6 y7 y8 y9 y10 y11
          refine bodyPost_ret (v := .tuple #[.agg #[.int .i64 0, .int .i64 0, .int .i64 0, .int .i64 0, .int .u64 0, .slice none 0 0, .int .u64 0, .int .i64 0, .int .i64 0, .int .u32 0, .int .u32 0, .int .u32 0], .int .i64 5]) (by simp [results, Try.results14, go_sem, y0, y1, y2, y3, y4, y5, y6, y7, y8, y9, y10, y11]) rfl ?_
          exact ⟨HO.out.2.1, .inl ⟨HP.out, rfl⟩⟩
        · have HP := Lib.hid hp
          clear hp
          obtain ⟨ycl, ya, yb, yc, yu, yla, yln, ylc, yl, ybw, ysu, yho, yan, yal, yno⟩ := y
          simp only [It.cells] at H2
          have b0 := H2.out.cell 0
          have b1 := H2.out.cell 1
          have b2 := H2.out.cell 2
          have b3 := H2.out.cell 3
          have b4 := H2.out.cell 4
          have b5 := H2.out.cell 5
          have b6 := H2.out.cell 6
          have b7 := H2.out.cell 7
          have b8 := H2.out.cell 8
          have b9 := H2.out.cell 9
          have b10 := H2.out.cell 10
          have b11 := H2.out.cell 11
          simp only [List.getElem?_cons_zero, List.getElem?_cons_succ] at b0 b1 b2 b3 b4 b5 b6 b7 b8 b9 b10 b11
          go_wp2
          clear r0 g0 r1 g1 r2 g2 r3 g3 r4 g4 r5 g5 r6 g6 r7 g7 r8 g8 r9 g9 r10 g10 r11 g11 b0 b1 b2 b3 b4 b5 b6 b7 b8 b9 b10 b11
          have HO := Lib.hid (item_put HB.out (by omega) H1.out (.int .i64 ycl) (.int .i64 ya) (.int .i64 yb) (.int .i64 yc) (.int .u64 (yu : Int)) (.slice yla yln ylc) (.int .u64 (ybw : Int)) (.int .i64 ysu) (.int .i64 yho) (.int .u32 (yan : Int)) (.int .u32 (yal : Int)) (.int .u32 (yno : Int)))
          revert HO
          generalize World.setCell (World.setCell (World.setCell (World.setCell (World.setCell (World.setCell (World.setCell (World.setCell (World.setCell (World.setCell (World.setCell (World.setCell wc _ _) _ _) _ _) _ _) _ _) _ _) _ _) _ _) _ _) _ _) _ _) _ _ = W6
          intro HO
          have y0 := HO.out.1.cell 0
          have y1 := HO.out.1.cell 1
          have y2 := HO.out.1.cell 2
          have y3 := HO.out.1.cell 3
          have y4 := HO.out.1.cell 4
          have y5 := HO.out.1.cell 5
          have y6 := HO.out.1.cell 6
          have y7 := HO.out.1.cell 7
          have y8 := HO.out.1.cell 8
          have y9 := HO.out.1.cell 9
          have y10 := HO.out.1.cell 10
          have y11 := HO.out.1.cell 11
          simp only [List.getElem?_cons_zero, List.getElem?_cons_succ] at y0 y1 y2 y3 y4 y5 y6 y7 y8 y9 y10 y11
          refine bodyPost_ret (v := .tuple #[.agg #[.int .i64 ycl, .int .i64 ya, .int .i64 yb, .int .i64 yc, .int .u64 (yu : Int), .slice yla yln ylc, .int .u64 (ybw : Int), .int .i64 ysu, .int .i64 yho, .int .u32 (yan : Int), .int .u32 (yal : Int), .int .u32 (yno : Int)], .int .i64 0]) (by simp [results, Try.results14, go_sem, y0, y1, y2, y3, y4, y5, y6, y7, y8, y9, y10, y11]) rfl ?_
          exact ⟨HO.out.2.1, .inr ⟨⟨ycl, ya, yb, yc, yu, yla, yln, ylc, yl, ⟨ybw, ysu, yho, yan, yal, yno⟩⟩, HP.out, H3.out, rfl, HO.out.2.2 _ _ _ _ (by decide) H4.out⟩⟩
end Go.Proofs.Ytocogdcecnnnnaa
