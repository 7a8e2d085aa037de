/-
  Contract of message.Decode. Condition: the bytes that come in read as a list.
-/
import Derived.Test.YthmgpffpiggomaaMsgL
import Derived.Test.YthmgpffpiggomaaMsgN
import Derived.Test.YthmgpffpiggomaaMsgO
import Derived.Deep.CutBlock
namespace Go.Proofs.Ythmgpffpiggomaa
open Go.RowKit

/-- What Decode answers. -/
def Dec8Post (w : World) (b : List UInt8) (e : Ending) (w' : World) : Prop :=
  Below w.heap.size w w' ∧ ((mDec b = none ∧ ∃ err : Int, err ≠ 0 ∧ (b.length < 8 → err = 4) ∧ e = .returned (.tuple #[.agg (Ms.bare 0 0).cells.toArray, .int .i64 err])) ∨
    (∃ m : Ms, mDec b = some m.val ∧ e = .returned (.tuple #[.agg m.cells.toArray, .int .i64 0]) ∧ LstM w' w.heap.size m))
theorem mDec_chk {b : List UInt8} (h : ¬ chk8 b) : mDec b = none := by
  unfold mDec chk8 at *
  rw [if_pos (Classical.not_not.1 h)]
theorem mDec_obj {b : List UInt8} (h : (oDec (b.drop 8)).2 ≠ 0) : mDec b = none := by
  unfold mDec
  split
  · rfl
  · rfl
theorem mDec_read {b : List UInt8} (h : mRead (num ((b.drop 1).take 1) : Nat) (num ((b.drop 4).take 1) : Nat) (oDec (b.drop 8)).1 = none) : mDec b = none := by
  unfold mDec
  rw [h]
  split
  · rfl
  · split <;> rfl
theorem mDec_enc {b : List UInt8} {m : PMs} (hc : chk8 b) (h0 : (oDec (b.drop 8)).2 = 0) (h : mRead (num ((b.drop 1).take 1) : Nat) (num ((b.drop 4).take 1) : Nat) (oDec (b.drop 8)).1 = some m) : mDec b = if mEnc m = some b then some m else none := by
  unfold mDec
  rw [if_neg hc, if_neg (by simpa using h0), h]

/-- What is known once the objects were read. -/
def CutD (w : World) (r : Option PMs) (e p : Value) (W : World) : Prop :=
  ∃ q : Nat, p = .pointer (some ⟨q, 0, none⟩) ∧ w.heap.size < q ∧ Blk W w.heap.size 37 (Ms.bare 0 0).cells ∧ Below w.heap.size w W ∧
    ((r = none ∧ e = .int .i64 5) ∨ (∃ m : Ms, r = some m.val ∧ e = .int .i64 0 ∧ Blk W q 37 m.cells ∧ LstM W w.heap.size m))

set_option maxRecDepth 100000 in
set_option maxHeartbeats 3200000 in
theorem decode8_no (a : Option Addr) (n c : Nat) (b : List UInt8) (w : World) (h : Bts w w.heap.size a n b) (hc : n ≤ c) (hcm : c ≤ maxLen) (hno : ¬ chk8 b) :
    Calls Try.prog 11 #[.slice a n c] w (Dec8Post w b) := by
  have HR0 := Lib.hid (Blk.new w 37 (Ms.bare 0 0).cells)
  have hl0 := bel_new (Below.refl _ w) (.cells (Ms.bare 0 0).cells.toArray 37)
  have HL0 := Lib.hid hl0
  have HC := Lib.hid (check8_calls a n c b _ ((h.below hl0).more hl0.size) hc hcm)
  have HNO := Lib.hid (mDec_chk hno)
  have HN := Lib.hid hno
  clear h hl0 hno hc hcm
  go_enter Try.func11, Try.ntmps11
  go_wp2_with fail
  refine HC.out.mono ?_
  rintro e w1 ⟨err, rfl, he, h4, hb1⟩
  have h0 : err ≠ 0 := fun e => HN.out (he.1 e)
  have h0' : (err != 0) = true := by simpa using h0
  have HR1 := Lib.hid (HR0.out.below hb1)
  have HL1 := Lib.hid (bel_more HL0.out (Nat.le_refl _) hb1)
  have H4 := Lib.hid h4
  have H0 := Lib.hid h0
  clear HC hb1 he h4
  go_wp2_with (refine step_store (o := ⟨none, _, _, _, _, _⟩) (vs := (Ms.bare 0 0).cells) rfl rfl rfl rfl HR1.out rfl rfl (ms_one _) ?_; intro w6 hb6 hg6 hs6)
  refine bodyPost_ret (v := .tuple #[.agg (Ms.bare 0 0).cells.toArray, .int .i64 err]) (results_two8 rfl _ rfl hb6 Try.underlying37 rfl rfl rfl) rfl ?_
  exact ⟨bel_upd HL1.out hg6 (Nat.le_refl _) (Nat.le_refl _), .inl ⟨HNO.out, err, H0.out, H4.out, rfl⟩⟩

theorem Bts.byte8 {w : World} {B g o n : Nat} {b : List UInt8} (h : Bts w B (some ⟨g, o, none⟩) n b) (i : Nat) (hi : i < n) : w.cell? ⟨g, o + i, none⟩ = some (.int .u8 (num ((b.drop i).take 1) : Nat)) := by
  obtain ⟨x, hx, _, hc⟩ := h.byte i hi
  rw [hc, hx, num_one]

/-- What is known once the check is done. -/
theorem Bts.rest8 {w : World} {B g o n c : Nat} {b : List UInt8} (h : Bts w B (some ⟨g, o, none⟩) n b) (hn : 8 ≤ n) (hc : n ≤ c) : Bts w B (if c = 8 then some ⟨g, o, none⟩ else some ⟨g, o + 8, none⟩) (n - 8) (b.drop 8) := by
  by_cases hc8 : c = 8
  · rw [if_pos hc8]
    have e : n - 8 = 0 := by omega
    rw [e, List.drop_eq_nil_of_le (by rw [h.1]; omega)]
    exact Bts.nil
  · rw [if_neg hc8]; exact h.rest 8 hn

theorem Objs.drew8 {w : World} {a : Option Addr} {n : Nat} {qs : List Ob} (h : Objs w w.heap.size a n qs) : Objs w.drew w.drew.heap.size a n qs := ⟨Row.drew h.1, fun q hq => ⟨Bts.drew (h.2 q hq).1, (h.2 q hq).2⟩⟩
theorem ReadPost.told {w w' : World} {r : Option PMs} {e : Ending} (h : ReadPost w r e w') : ∃ (m : Ms) (er : Int), e = .returned (.tuple #[.agg m.cells.toArray, .int .i64 er]) ∧ Below w.heap.size w w' ∧ LstM w' w.heap.size m ∧ ((r = none ∧ er = 5) ∨ (r = some m.val ∧ er = 0)) := by
  obtain ⟨hb, ⟨hn, he⟩ | ⟨m, hs, he, hl⟩⟩ := h
  · exact ⟨.bare 0 0, 5, he, hb, LstM.bare _ _ _ _, .inl ⟨hn, rfl⟩⟩
  · exact ⟨m, 0, he, hb, hl, .inr ⟨hs, rfl⟩⟩
/-- What is known once the objects were decoded. -/
def CutL (w : World) (b : List UInt8) (l e : Value) (W : World) : Prop :=
  ∃ A c qs, l = .slice A qs.length c ∧ e = .int .i64 (oDec (b.drop 8)).2 ∧ vals qs = (oDec (b.drop 8)).1 ∧ Objs W W.heap.size A qs.length qs ∧ (∀ q ∈ qs, q.n ≤ 65536) ∧ Blk W w.heap.size 37 (Ms.bare 0 0).cells ∧ Below w.heap.size w W

set_option maxRecDepth 100000 in
set_option maxHeartbeats 6400000 in
theorem decode8_go (g o n c : Nat) (b : List UInt8) (w : World) (h : Bts w w.heap.size (some ⟨g, o, none⟩) n b) (hc : n ≤ c) (hcm : c ≤ maxLen) (hn8 : 8 ≤ n) (hyes : chk8 b) :
    Calls Try.prog 11 #[.slice (some ⟨g, o, none⟩) n c] w (Dec8Post w b) := by
  have HR0 := Lib.hid (Blk.new w 37 (Ms.bare 0 0).cells)
  have hl0 := bel_new (Below.refl _ w) (.cells (Ms.bare 0 0).cells.toArray 37)
  have HL0 := Lib.hid hl0
  have HC := Lib.hid (check8_calls (some ⟨g, o, none⟩) n c b _ ((h.below hl0).more hl0.size) hc hcm)
  have HY := Lib.hid hyes
  have HB := Lib.hid h
  have HLN := Lib.hid h.1
  unfold maxLen at hcm
  have hn4 : n ≤ 4096 := by
    have := h.1
    rcases Nat.lt_or_ge 4096 n with h' | h'
    · exact absurd (.inl (by rw [this]; exact h')) hyes
    · exact h'
  clear h hl0 hyes
  go_enter Try.func11, Try.ntmps11
  go_wp2_with fail
  refine HC.out.mono ?_
  rintro e w1 ⟨err, rfl, he, _, hb1⟩
  obtain rfl := he.2 HY.out
  have HR1 := Lib.hid (HR0.out.below hb1)
  have HL1 := Lib.hid (bel_more HL0.out (Nat.le_refl _) hb1)
  have hb1 := (HB.out.below HL1.out).rest8 hn8 hc
  have HB1 := Lib.hid (hb1.more HL1.out.size)
  clear HC he hb1 HR0 HL0
  go_upto_region 4 with fail
  go_cut [5, 6] (fun l e W => CutL w b l e W)
  case first =>
    rcases (show (c = 8 ∧ n = 8) ∨ ¬ c = 8 by omega) with ⟨rfl, rfl⟩ | hc8
    all_goals
      have hB2 := HB1.out
      first | (rw [if_pos rfl] at hB2; simp only [Nat.sub_self] at hB2) | rw [if_neg hc8] at hB2
      go_wp2_with fail
      ((with_reducible refine (obdecode_calls _ _ _ _ _ hB2 (by unfold maxLen; omega)).mono ?_))
      rintro e w2 ⟨A, c2, qs, rfl, hv, ha, hbo, hb2⟩
      have HCUT := Lib.hid (show CutL w b (.slice A qs.length c2) (.int .i64 (oDec (b.drop 8)).2) w2 from ⟨A, c2, qs, rfl, rfl, hv, acco_objs ha hbo, fun q hq => by obtain ⟨_, _, _, _, h5, _⟩ := hbo q hq; exact h5, HR1.out.below hb2, bel_more HL1.out (Nat.le_refl _) hb2⟩)
      clear hB2 hv ha hbo hb2
      go_wp2
      go_meet
      exact HCUT.out
  case rest =>
    obtain ⟨A, c2, qs, rfl, rfl, hv, hob, hqn, hr, hl⟩ := hcut
    have HV := Lib.hid hv
    have HOB := Lib.hid hob
    have HQN := Lib.hid hqn
    have HR := Lib.hid hr
    have HL := Lib.hid hl
    clear hv hob hqn hr hl HR1 HL1 HB1
    by_cases h0 : (oDec (b.drop 8)).2 = 0
    · rw [h0]
      have HE := Lib.hid (fun m hr => mDec_enc (m := m) HY.out h0 hr)
      have HD := Lib.hid (fun hr => mDec_read (b := b) hr)
      rw [← HV.out] at HE HD
      have hB := HB.out.below HL.out
      have c1 := hB.byte8 1 (by omega)
      have c4 := hB.byte8 4 (by omega)
      obtain ⟨X, hX⟩ : ∃ X : Nat, X = num ((b.drop 1).take 1) := ⟨_, rfl⟩
      obtain ⟨Y, hY⟩ : ∃ Y : Nat, Y = num ((b.drop 4).take 1) := ⟨_, rfl⟩
      have hg : g < w.heap.size := by
        obtain ⟨g', o', e, hg, _⟩ := HB.out.2 (by omega)
        injection e with e
        injection e with e1 e2
        rw [e1]; exact hg
      rw [← hX] at HE HD c1
      rw [← hY] at HE HD c4
      have hXl : X < 256 := by
        have := num_lt ((b.drop 1).take 1)
        have hl : ((b.drop 1).take 1).length ≤ 1 := by simp; omega
        rw [hX]
        exact Nat.lt_of_lt_of_le this (Nat.le_trans (Nat.pow_le_pow_right (by omega) hl) (by decide))
      have hYl : Y < 256 := by
        have := num_lt ((b.drop 4).take 1)
        have hl : ((b.drop 4).take 1).length ≤ 1 := by simp; omega
        rw [hY]
        exact Nat.lt_of_lt_of_le this (Nat.le_trans (Nat.pow_le_pow_right (by omega) hl) (by decide))
      have KS := Lib.hid (show ∀ W, Below w.heap.size w W → W.cell? ⟨g, o + 1, none⟩ = some (.int .u8 (X : Int)) ∧ W.cell? ⟨g, o + 4, none⟩ = some (.int .u8 (Y : Int)) from fun W hW => ⟨by rw [hX]; exact (HB.out.below hW).byte8 1 (by omega), by rw [hY]; exact (HB.out.below hW).byte8 4 (by omega)⟩)
      clear hB hX hY h0 HV hg
      have wX : IntKind.i64.wrap (X : Int) = (X : Int) := by rw [IntKind.wrap_i64]; omega
      have wY : IntKind.i64.wrap (Y : Int) = (Y : Int) := by rw [IntKind.wrap_i64]; omega
      have n1 : (1 : Int) < (n : Int) := by omega
      have n4 : (4 : Int) < (n : Int) := by omega
      have n1' : 1 < n := by omega
      have n4' : 4 < n := by omega
      go_upto_region 7 with fail
      go_cut [6, 7] (fun e p W => CutD w (mRead (X : Int) (Y : Int) (vals qs)) e p W)
      case first =>
        refine region_way (fun W => W.cell? ⟨g, o + 1, none⟩ = some (.int .u8 (X : Int)) ∧ W.cell? ⟨g, o + 4, none⟩ = some (.int .u8 (Y : Int)))
          (.step 0 true (.step 1 true (.step 2 true (.step 3 true (.step 4 true (.step 5 true (.step 6 true (.step 7 true (.step 8 true (.both 9 13 (.step 10 true (.step 11 true (.step 12 true (.step 13 false (.step 14 false (.step 15 true .done)))))) (.step 9 false (.step 10 true (.step 11 true (.step 12 true (.step 14 false (.step 15 true .done))))))))))))))))
          (by kernel_rfl) (by kernel_rfl) (by kernel_rfl) (by kernel_rfl) (fun _ _ _ _ _ h => h) ⟨c1, c4⟩ ?_
        repeat
          refine way_pure (v := ?_) rfl (by rfl) (fun W hW => ?_) ?_
          rotate_left
          · obtain ⟨d1, d4⟩ := hW
            go_simp
            try with_reducible rfl
          simp only [Act.put, List.setIfInBounds_toArray, List.set_cons_zero, List.set_cons_succ]
        have HQ47 := Lib.hid (show ∀ q ∈ qs, q.n ≤ 140737488355328 from fun q hq => Nat.le_trans (HQN.out q hq) (by omega))
        refine way_both rfl (by rfl) rfl (by rfl) (fun K hK => ?_) (fun K hK => ?_)
        · go_simp
          ((with_reducible refine (read_calls8 (X : Int) (Y : Int) A qs.length c2 qs wc.drew HOB.out.drew8 HQ47.out).mono ?_))
          intro e w5 hp
          obtain ⟨m, er, rfl, hb5, hm5, hr5⟩ := hp.told
          have hl5 := bel_more HL.out (Nat.le_refl _) (below_of_drew hb5)
          have HR5 := Lib.hid (HR.out.below (below_of_drew hb5))
          have HM5 := Lib.hid (hm5.lower (show w.heap.size ≤ wc.drew.heap.size from HL.out.size))
          have HL5 := Lib.hid hl5
          have HR5' := Lib.hid hr5
          clear hp hb5 hm5 hr5 hl5
          go_simp
          refine hK _ w5 _ (fun W h => h) (KS.out _ HL5.out) ?_
          clear hK K
          repeat
            refine way_pure (v := ?_) rfl (by rfl) (fun W hW => ?_) ?_
            rotate_left
            · go_simp
              try with_reducible rfl
            simp only [Act.put, List.setIfInBounds_toArray, List.set_cons_zero, List.set_cons_succ]
          refine way_make rfl (by rfl) (fun K hK => ?_)
          go_simp
          have bn := bel_new (Below.refl w5.heap.size w5) (.cells (Ms.bare 0 0).cells.toArray 37)
          refine hK _ _ _ (fun W h => h) (KS.out _ (bel_more HL5.out (Nat.le_refl _) bn)) ?_
          clear hK K
          refine way_make rfl (by rfl) (fun K hK => ?_)
          refine wp_store8 (vs := m.cells) rfl rfl rfl (Blk.new w5 37 (Ms.bare 0 0).cells) rfl rfl (ms_one _) ?_
          intro w6 hb6 hg6 hs6
          have hl6 : Below w5.heap.size w5 w6 := bel_upd bn hg6 (Nat.le_refl _) (Nat.le_refl _)
          have HCUT := Lib.hid (show CutD w (mRead (X : Int) (Y : Int) (vals qs)) (.int .i64 er) (.pointer (some ⟨w5.heap.size, 0, none⟩)) w6 from
            ⟨w5.heap.size, rfl, HR5.out.lt, HR5.out.below hl6, bel_more HL5.out (Nat.le_refl _) hl6, HR5'.out.elim (fun h => .inl ⟨h.1, by rw [h.2]⟩) (fun h => .inr ⟨m, h.1, by rw [h.2], hb6, HM5.out.bel hl6⟩)⟩)
          refine hK _ _ _ (fun W h => h) (KS.out _ (bel_more HL5.out (Nat.le_refl _) hl6)) ?_
          clear hK K bn hb6 hg6 hs6 hl6
          simp only [Act.put]
          repeat
            refine way_pure (v := ?_) rfl (by rfl) (fun W hW => ?_) ?_
            rotate_left
            · go_simp
              try with_reducible rfl
            simp only [Act.put, List.setIfInBounds_toArray, List.set_cons_zero, List.set_cons_succ]
          refine way_done ?_
          go_wp2_with fail
          go_meet
          exact HCUT.out
        · go_simp
          have bA := bel_new (Below.refl wc.heap.size wc) (.cells (Ms.bare 0 0).cells.toArray 37)
          have BA := Lib.hid bA
          have HZ := Lib.hid (Blk.new wc 37 (Ms.bare 0 0).cells)
          refine hK _ _ _ (fun W h => h) (KS.out _ (bel_more HL.out (Nat.le_refl _) bA).drew) ?_
          clear hK K bA
          refine way_make rfl (by rfl) (fun K hK => ?_)
          go_simp
          refine (read_calls8 (X : Int) (Y : Int) A qs.length c2 qs _ (HOB.out.up BA.out).drew8 HQ47.out).mono ?_
          intro e w5 hp
          obtain ⟨m, er, rfl, hb5, hm5, hr5⟩ := hp.told
          have hb5' := below_of_drew hb5
          have hl5 := bel_more (bel_more HL.out (Nat.le_refl _) BA.out) (Nat.le_refl _) hb5'
          have HR5 := Lib.hid ((HR.out.below BA.out).below hb5')
          have HZ5 := Lib.hid (HZ.out.below hb5')
          have HM5 := Lib.hid (hm5.lower (show w.heap.size ≤ (wc.alloc (.cells (Ms.bare 0 0).cells.toArray 37)).heap.size from Nat.le_trans HL.out.size BA.out.size))
          have HL5 := Lib.hid hl5
          have HR5' := Lib.hid hr5
          have HLT := Lib.hid HR.out.lt
          clear hp hb5 hb5' hm5 hr5 hl5 HZ
          go_simp
          refine hK _ w5 _ (fun W h => h) (KS.out _ HL5.out) ?_
          clear hK K
          repeat
            refine way_pure (v := ?_) rfl (by rfl) (fun W hW => ?_) ?_
            rotate_left
            · go_simp
              try with_reducible rfl
            simp only [Act.put, List.setIfInBounds_toArray, List.set_cons_zero, List.set_cons_succ]
          refine way_make rfl (by rfl) (fun K hK => ?_)
          refine wp_store8 (vs := m.cells) rfl rfl rfl HZ5.out rfl rfl (ms_one _) ?_
          intro w6 hb6 hg6 hs6
          have hl6 : Below w.heap.size w w6 := bel_upd HL5.out hg6 (Nat.le_refl _) HL.out.size
          have HCUT := Lib.hid (show CutD w (mRead (X : Int) (Y : Int) (vals qs)) (.int .i64 er) (.pointer (some ⟨wc.heap.size, 0, none⟩)) w6 from
            ⟨wc.heap.size, rfl, HLT.out, HR5.out.same (hg6.block _ HR5.out.lt (fun e => by injection e with e; have := HLT.out; omega)), hl6, HR5'.out.elim (fun h => .inl ⟨h.1, by rw [h.2]⟩) (fun h => .inr ⟨m, h.1, by rw [h.2], hb6, HM5.out.off HZ5.out.typ (by decide) hg6⟩)⟩)
          refine hK _ _ _ (fun W h => h) (KS.out _ hl6) ?_
          clear hK K hb6 hg6 hs6 hl6
          simp only [Act.put]
          repeat
            refine way_pure (v := ?_) rfl (by rfl) (fun W hW => ?_) ?_
            rotate_left
            · go_simp
              try with_reducible rfl
            simp only [Act.put, List.setIfInBounds_toArray, List.set_cons_zero, List.set_cons_succ]
          refine way_done ?_
          go_wp2_with fail
          go_meet
          exact HCUT.out
      case rest =>
        obtain ⟨q, rfl, hq, hr, hl, hcase⟩ := hcut
        have HR3 := Lib.hid hr
        have HL3 := Lib.hid hl
        clear hr hl HR HL HOB HQN KS c1 c4 wX wY n1 n4 n1' n4'
        rcases hcase with ⟨hno, rfl⟩ | ⟨m, hm, rfl, hbm, hlm⟩
        · have HNO := Lib.hid (HD.out hno)
          clear hno
          go_wp2_with (refine step_store (o := ⟨none, _, _, _, _, _⟩) (vs := (Ms.bare 0 0).cells) rfl rfl rfl rfl HR3.out rfl rfl (ms_one _) ?_; intro w6 hb6 hg6 hs6)
          refine bodyPost_ret (v := .tuple #[.agg (Ms.bare 0 0).cells.toArray, .int .i64 5]) (results_two8 rfl _ rfl hb6 Try.underlying37 rfl rfl rfl) rfl ?_
          exact ⟨bel_upd HL3.out hg6 (Nat.le_refl _) (Nat.le_refl _), .inl ⟨HNO.out, 5, by omega, by rw [HLN.out]; omega, rfl⟩⟩
        · have HM := Lib.hid (HE.out _ hm)
          have HBM := Lib.hid hbm
          have HLM := Lib.hid hlm
          clear hm hbm hlm
          have hc8 := encode8_calls m wc HLM.out.fine
          go_wp2_with (refine step_load (o := ⟨some 43, _, _, _, _, _⟩) rfl rfl rfl HBM.out Try.underlying37 rfl rfl ?_)
          ((with_reducible refine hc8.mono ?_))
          rintro e w4 ⟨hb4, hcase⟩
          have HR4 := Lib.hid (HR3.out.below hb4)
          have HL4 := Lib.hid (bel_more HL3.out (Nat.le_refl _) hb4)
          have HBM4 := Lib.hid (HBM.out.below hb4)
          have HLM4 := Lib.hid (HLM.out.bel hb4)
          clear hc8 hb4 HR3 HL3 HBM HLM
          rcases hcase with ⟨hno, rfl⟩ | ⟨b2, A4, c4, hyes, rfl, ha4⟩
          · have HNO := Lib.hid (show mDec b = none by rw [HM.out, hno, if_neg (by simp)])
            clear hno
            go_wp2_with (refine step_store (o := ⟨none, _, _, _, _, _⟩) (vs := (Ms.bare 0 0).cells) rfl rfl rfl rfl HR4.out rfl rfl (ms_one _) ?_; intro w6 hb6 hg6 hs6)
            refine bodyPost_ret (v := .tuple #[.agg (Ms.bare 0 0).cells.toArray, .int .i64 5]) (results_two8 rfl _ rfl hb6 Try.underlying37 rfl rfl rfl) rfl ?_
            exact ⟨bel_upd HL4.out hg6 (Nat.le_refl _) (Nat.le_refl _), .inl ⟨HNO.out, 5, by omega, by rw [HLN.out]; omega, rfl⟩⟩
          · have hbq := beq8_calls A4 (some ⟨g, o, none⟩) b2.length n c4 c b2 b _ _ w4 ha4.bts (HB.out.below HL4.out)
            go_wp2_with fail
            ((with_reducible refine hbq.mono ?_))
            rintro e w5 ⟨rfl, hb5⟩
            have HR5 := Lib.hid (HR4.out.below hb5)
            have HL5 := Lib.hid (bel_more HL4.out (Nat.le_refl _) hb5)
            have HBM5 := Lib.hid (HBM4.out.below hb5)
            have HLM5 := Lib.hid (HLM4.out.bel hb5)
            clear hbq hb5 HR4 HL4 HBM4 HLM4 ha4
            cases hqq : (b2 == b) with
            | false =>
              have HNO := Lib.hid (show mDec b = none by
                rw [HM.out, hyes, if_neg]
                intro e
                injection e with e
                rw [e] at hqq
                simp at hqq)
              clear hqq hyes
              go_wp2_with (refine step_store (o := ⟨none, _, _, _, _, _⟩) (vs := (Ms.bare 0 0).cells) rfl rfl rfl rfl HR5.out rfl rfl (ms_one _) ?_; intro w6 hb6 hg6 hs6)
              refine bodyPost_ret (v := .tuple #[.agg (Ms.bare 0 0).cells.toArray, .int .i64 5]) (results_two8 rfl _ rfl hb6 Try.underlying37 rfl rfl rfl) rfl ?_
              exact ⟨bel_upd HL5.out hg6 (Nat.le_refl _) (Nat.le_refl _), .inl ⟨HNO.out, 5, by omega, by rw [HLN.out]; omega, rfl⟩⟩
            | true =>
              have HYES := Lib.hid (show mDec b = some m.val by
                have e : b2 = b := by simpa using hqq
                rw [HM.out, hyes, e, if_pos rfl])
              clear hqq hyes
              go_wp2_with (first
                | refine step_load (o := ⟨some 56, _, _, _, _, _⟩) rfl rfl rfl HBM5.out Try.underlying37 rfl rfl ?_
                | (refine step_store (o := ⟨none, _, _, _, _, _⟩) (vs := m.cells) rfl rfl rfl rfl HR5.out rfl rfl (ms_one _) ?_
                   intro w6 hb6 hg6 hs6))
              refine bodyPost_ret (v := .tuple #[.agg m.cells.toArray, .int .i64 0]) (results_two8 rfl _ rfl hb6 Try.underlying37 rfl rfl rfl) rfl ?_
              exact ⟨bel_upd HL5.out hg6 (Nat.le_refl _) (Nat.le_refl _), .inr ⟨m, HYES.out, rfl, HLM5.out.off HR5.out.typ (by decide) hg6⟩⟩
    · have HNO := Lib.hid (mDec_obj h0)
      have H0 := Lib.hid h0
      have h0' : ((oDec (b.drop 8)).2 != 0) = true := by simpa using h0
      generalize (oDec (b.drop 8)).2 = E at *
      go_wp2_with (refine step_store (o := ⟨none, _, _, _, _, _⟩) (vs := (Ms.bare 0 0).cells) rfl rfl rfl rfl HR.out rfl rfl (ms_one _) ?_; intro w6 hb6 hg6 hs6)
      refine bodyPost_ret (v := .tuple #[.agg (Ms.bare 0 0).cells.toArray, .int .i64 E]) (results_two8 rfl _ rfl hb6 Try.underlying37 rfl rfl rfl) rfl ?_
      exact ⟨bel_upd HL.out hg6 (Nat.le_refl _) (Nat.le_refl _), .inl ⟨HNO.out, E, H0.out, by rw [HLN.out]; omega, rfl⟩⟩

theorem decode8_calls (a : Option Addr) (n c : Nat) (b : List UInt8) (w : World) (h : Bts w w.heap.size a n b) (hc : n ≤ c) (hcm : c ≤ maxLen) :
    Calls Try.prog 11 #[.slice a n c] w (Dec8Post w b) := by
  by_cases hk : chk8 b
  · have h8 : 8 ≤ n := by
      have := h.1
      rcases Nat.lt_or_ge n 8 with h' | h'
      · exact absurd (.inr (.inl (by rw [this]; exact h'))) hk
      · exact h'
    obtain ⟨g, o, rfl, _⟩ := h.2 (by omega)
    exact decode8_go g o n c b w h hc hcm h8 hk
  · exact decode8_no a n c b w h hc hcm hk
end Go.Proofs.Ythmgpffpiggomaa
