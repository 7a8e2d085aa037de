/-
  The law SoftActs, walked: for any size and any calls the answer is true, and nothing that was there has turned. Condition: none.
-/
import Derived.Test.YtogijfebfffobaaSofK
import Derived.Deep.CutBlock
namespace Go.Proofs.Ytogijfebfffobaa
set_option maxRecDepth 100000
set_option linter.unusedVariables false
open Go.RowKit

set_option maxHeartbeats 25600000 in
theorem acts18_walk (size : Int) (a : Option Addr) (n c : Nat) (w : World) (hn : n ≤ maxLen) (h : ∃ es, Row ac18 w w.heap.size a n es ∧ ∀ x ∈ es, Lies18 w x.s) :
    Calls Try.prog 3 #[.int .i64 size, .slice a n c] w fun e w' => e = .returned (.bool true) ∧ Below w.heap.size w w' := by
  obtain ⟨es, hr, hok⟩ := h
  unfold maxLen at hn
  have HOK := Lib.hid hok
  have HR := Lib.hid hr
  have hal := fun W => alive18_calls W
  unfold Yes14 at hal
  have HAL := Lib.hid hal
  have HIN := Lib.hid (fun s : Ss => (show (Try.prog.info? 40).map (·.size) = some (ssc s).length from infoSsC))
  have HIR := Lib.hid (fun s : Ss => (show (Try.prog.info? 37).map (·.size) = some (ssc s).length from infoSsR))
  have HIT := Lib.hid (fun (A : Option Addr) (m c most : Nat) => (show (Try.prog.info? 28).map (·.size) = some (tbc18 A m c most).length from infoTb18 A m c most))
  have HIA := Lib.hid (fun x : Ac18 => (show (Try.prog.info? 39).map (·.size) = some (ac18 x).length from infoAc18 x))
  have HON := Lib.hid ssc_one
  have HOT := Lib.hid tbc18_one
  have HOA := Lib.hid ac18_one
  clear hok hr hal
  by_cases hsz : 1 ≤ size ∧ size ≤ 64
  · obtain ⟨most, rfl⟩ : ∃ most : Nat, size = (most : Int) := ⟨size.toNat, by omega⟩
    have s1 : (1 : Int) ≤ (most : Int) := hsz.1
    have s2 : (most : Int) ≤ 64 := hsz.2
    have HSZ := Lib.hid (show 1 ≤ most ∧ most ≤ 64 by omega)
    clear hsz
    go_enter Try.func3, Try.ntmps3
    go_wp2_with fail
    ((with_reducible refine (HAL.out _).mono ?_))
    rintro e w2 ⟨rfl, b1⟩
    have B1 := Lib.hid b1
    clear b1 HAL
    go_wp2_with fail
    ((with_reducible refine (new18_calls most HSZ.out w2).mono ?_))
    intro e w3 hnew
    obtain ⟨q, S, rfl, st⟩ := St18.start B1.out hnew
    have bz := bel_new (Below.refl w3.heap.size w3) (.cells #[.slice none 0 0, .int .i64 0] 28)
    have BZ := Lib.hid (show BlkT (w3.alloc (.cells #[.slice none 0 0, .int .i64 0] 28)) S w3.heap.size 28 (tbc18 none 0 0 0) from st.newb 28 (tbc18 none 0 0 0))
    have PZ := Lib.hid (st.below bz)
    have HGE := Lib.hid st.bel.size
    clear st hnew B1 bz
    go_upto_region 7 with ((with_reducible refine step_store (o := ⟨none, _, _, _, _, _⟩) (vs := tbc18 none 0 0 most) (ty := 28) (x := .tmp 6) (y := .tmp 31) ?_ ?_ ?_ ?_ BZ.out.blk (HIT.out _ _ _ _) rfl (HOT.out _ _ _ _) ?_); (rfl); (rfl); (rfl); (rfl); intro w4 hb5 hg5 hs5)
    have HD4 := Lib.hid (show Doc18 w w4 q most w3.heap.size S ([] : List Sp) ([] : List Ss) none 0 0 from ⟨PZ.out.stored hg5 BZ.out.off HGE.out, ⟨hb5, BZ.out.off⟩, HGE.out, RowT.nil⟩)
    clear hb5 hg5 hs5 BZ PZ HGE s1 s2
    generalize w3.heap.size = bm at *
    go_wp2_with fail
    go_loopw [7] (fun u W => ∃ (i : Nat) (ls : List Ss) (S : List Nat) (A : Option Addr) (m c : Nat), i ≤ n ∧ i ≤ 80 ∧ u = .int .i64 (i : Int) ∧ Hid (Doc18 w W q most bm S (ls.map (·.p)) ls A m c) ∧ Hid (Rts18 w ls)) (fun u W => 80 - (intOf u).toNat)
    case atStart => exact ⟨0, [], S, none, 0, 0, Nat.zero_le _, Nat.zero_le _, rfl, HD4, Lib.hid (fun s hs => by simp at hs)⟩
    case round =>
      clear HD4
      obtain ⟨i, ls, S1, A, m, c1, hin, hi80, rfl, HD, HRT⟩ := hrel
      by_cases h1 : i < n
      · have i1 : (i : Int) < (n : Int) := by omega
        by_cases h2 : i < 80
        · have i2 : (i : Int) < 80 := by omega
          obtain ⟨b, o, x, rfl, hx, hbb, hc⟩ := row_cells ac18_length HR.out h1
          have HXO := Lib.hid (HOK.out x (List.mem_of_getElem? hx))
          have HI := Lib.hid (And.intro h1 h2)
          have i3 : IntKind.i64.wrap ((i : Int) + 1) = ((i + 1 : Nat) : Int) := by rw [IntWalk.i64_in _ (by omega)]; omega
          have i0 : ¬ (i : Int) < 0 := by omega
          have HX := Lib.hid (show wr.rangeAt b (o + i * 19) (ac18 x) from fun j v hv => hc wr HD.out.st.bel j v hv)
          clear hx hbb hc h1 h2 hin hi80
          -- the call in a variable
          have bz := bel_new (Below.refl wr.heap.size wr) (.cells #[.bool false, .int .i64 0, .int .i64 0, .int .i64 0, .int .i64 0, .int .u64 0, .int .i64 0, .int .i64 0, .int .u32 0, .int .u32 0, .int .u32 0, .slice none 0 0, .int .i64 0, .int .i64 0, .int .i64 0, .int .i64 0, .int .i64 0, .int .i64 0, .int .i64 0] 39)
          have BZ := Lib.hid (show BlkT (wr.alloc (.cells #[.bool false, .int .i64 0, .int .i64 0, .int .i64 0, .int .i64 0, .int .u64 0, .int .i64 0, .int .i64 0, .int .u32 0, .int .u32 0, .int .u32 0, .slice none 0 0, .int .i64 0, .int .i64 0, .int .i64 0, .int .i64 0, .int .i64 0, .int .i64 0, .int .i64 0] 39)) (bm :: S1) wr.heap.size 39 (ac18 ⟨false, z18, 0⟩) from HD.out.newb 39 (ac18 ⟨false, z18, 0⟩))
          have HBZ := Lib.hid bz
          clear bz
          go_upto_region 11 with (first | (refine step_load_at (o := ⟨some 49, _, _, _, _, _⟩) rfl rfl rfl HX.out Try.underlying39 rfl (HIA.out _) ?_) | ((with_reducible refine step_store (o := ⟨none, _, _, _, _, _⟩) (vs := ac18 x) (ty := 39) (x := .tmp 8) (y := .tmp 49) ?_ ?_ ?_ ?_ BZ.out.blk (HIA.out _) rfl (HOA.out _) ?_); (rfl); (rfl); (rfl); (rfl); intro v0 hb5 hg5 hs5))
          have hb : Below wr.heap.size wr v0 := bel_upd HBZ.out hg5 (Nat.le_refl _) (Nat.le_refl _)
          have HX0 := Lib.hid (show BlkT v0 (bm :: S1) wr.heap.size 39 (ac18 x) from ⟨hb5, BZ.out.off⟩)
          have HD0 := Lib.hid (HD.out.below hb)
          clear hb5 hg5 hs5 BZ HBZ hb HD HX
          generalize wr.heap.size = xA at *
          generalize wr = wr0 at *
          have x11 : v0.cell? ⟨xA, 11, none⟩ = some (.slice x.s.a x.s.n x.s.c) := HX0.out.blk.cell 11
          by_cases hrl : 1000 < x.s.n
          · have j1 : (1000 : Int) < (x.s.n : Int) := by omega
            clear hrl
            go_wp2_with fail
            go_roundw
            case rel => exact ⟨i + 1, ls, S1, A, m, c1, by have := HI.out; omega, by have := HI.out; omega, by first | rfl | (simp; omega), HD0, HRT⟩
            case measure => have := HI.out; simp [intOf]; omega
          · have j1 : ¬ (1000 : Int) < (x.s.n : Int) := by omega
            have HXN := Lib.hid (show x.s.n ≤ 1000 by omega)
            clear hrl
            have x1 : v0.cell? ⟨xA, 1, none⟩ = some (.int .i64 x.s.p.k.tail) := HX0.out.blk.cell 1
            have x2 : v0.cell? ⟨xA, 2, none⟩ = some (.int .i64 x.s.p.k.tun) := HX0.out.blk.cell 2
            have x3 : v0.cell? ⟨xA, 3, none⟩ = some (.int .i64 x.s.p.k.head) := HX0.out.blk.cell 3
            have x4 : v0.cell? ⟨xA, 4, none⟩ = some (.int .i64 x.s.p.k.lsp) := HX0.out.blk.cell 4
            obtain ⟨og, hog⟩ : ∃ og, get18 kf18 ls x.s.p.k = og := ⟨_, rfl⟩
            have hgt := get18_calls q most (ls.map (·.p)) S1 x.s.p.k v0 HD0.out.st.p
            rw [rget_plain18, hog] at hgt
            unfold Got18 at hgt
            rw [gerr_map18, getD_map18] at hgt
            have HG := Lib.hid hgt
            have HRG := Lib.hid (fun W (hW : Below w.heap.size w W) => HRT.out.got hW hog)
            have hrg := fun (W : World) (hR : Row ssc W W.heap.size A m ls) => rget18_calls A m c1 most ls x.s.p.k W hR (by have := HD0.out.len; omega)
            rw [hog] at hrg
            have HRGT := Lib.hid hrg
            obtain ⟨g, hg⟩ : ∃ g, gerr18 og = g := ⟨_, rfl⟩
            have HGG := Lib.hid hg
            rw [hg] at HG
            clear hgt hrg hog hg
            go_wp2_with fail
            ((with_reducible refine HG.out.mono ?_))
            rintro e v1 ⟨sg, rfl, hgp, hgn, hga, hb⟩
            have HGR := Lib.hid (show Row ei v1 v1.heap.size sg.a sg.n sg.p.rt by have := AccR.row hga; rw [← hgn] at this; exact this)
            have HGP := Lib.hid (And.intro hgp hgn)
            clear hgp hgn hga HG x1 x2 x3 x4 x11
            have HD1 := Lib.hid (HD0.out.below hb)
            have HX1 := Lib.hid (HX0.out.below hb)
            clear HD0 HX0
            clear hb
            have bz := bel_new (Below.refl v1.heap.size v1) (.cells #[.int .i64 0, .int .i64 0, .int .i64 0, .int .i64 0, .int .u64 0, .int .i64 0, .int .i64 0, .int .u32 0, .int .u32 0, .int .u32 0, .slice none 0 0, .int .i64 0, .int .i64 0, .int .i64 0, .int .i64 0, .int .i64 0, .int .i64 0] 40)
            have BZ := Lib.hid (show BlkT (v1.alloc (.cells #[.int .i64 0, .int .i64 0, .int .i64 0, .int .i64 0, .int .u64 0, .int .i64 0, .int .i64 0, .int .u32 0, .int .u32 0, .int .u32 0, .slice none 0 0, .int .i64 0, .int .i64 0, .int .i64 0, .int .i64 0, .int .i64 0, .int .i64 0] 40)) (bm :: _) v1.heap.size 40 (ssc z18) from HD1.out.newb 40 (ssc z18))
            have HBZ := Lib.hid bz
            clear bz
            go_upto_region 13 with ((with_reducible refine step_store (o := ⟨none, _, _, _, _, _⟩) (vs := (ssc sg)) (ty := 40) (x := .tmp 9) (y := .tmp 61) ?_ ?_ ?_ ?_ BZ.out.blk (HIN.out _) rfl (HON.out _) ?_); (rfl); (rfl); (rfl); (rfl); intro v2 hb5 hg5 hs5)
            have hb : Below v1.heap.size v1 v2 := bel_upd HBZ.out hg5 (Nat.le_refl _) (Nat.le_refl _)
            have HG2 := Lib.hid (BlkT.mk hb5 BZ.out.off)
            clear hb5 hg5 hs5 BZ HBZ
            have HD2 := Lib.hid (HD1.out.below hb)
            have HX2 := Lib.hid (HX1.out.below hb)
            clear HD1 HX1
            have HGR2 := Lib.hid ((HGR.out.below hb).more hb.size)
            clear hb HGR
            generalize v1.heap.size = xG at *
            have x1 : v2.cell? ⟨xA, 1, none⟩ = some (.int .i64 x.s.p.k.tail) := HX2.out.blk.cell 1
            have x2 : v2.cell? ⟨xA, 2, none⟩ = some (.int .i64 x.s.p.k.tun) := HX2.out.blk.cell 2
            have x3 : v2.cell? ⟨xA, 3, none⟩ = some (.int .i64 x.s.p.k.head) := HX2.out.blk.cell 3
            have x4 : v2.cell? ⟨xA, 4, none⟩ = some (.int .i64 x.s.p.k.lsp) := HX2.out.blk.cell 4
            have r0 : v2.cell? ⟨bm, 0, none⟩ = some (.slice A m c1) := HD2.out.blk.blk.cell 0
            have r1 : v2.cell? ⟨bm, 1, none⟩ = some (.int .i64 (most : Int)) := HD2.out.blk.blk.cell 1
            go_wp2_with fail
            ((with_reducible refine (HRGT.out _ HD2.out.row.row).mono ?_))
            intro e v3 hrg
            obtain ⟨he, hb⟩ := rgt18_err hrg
            rw [HGG.out] at he
            subst he
            clear hrg x1 x2 x3 x4 r0 r1 HRGT
            have HD3 := Lib.hid (HD2.out.below hb)
            have HX3 := Lib.hid (HX2.out.below hb)
            have HG3 := Lib.hid (HG2.out.below hb)
            clear HD2 HX2 HG2
            have HGR3 := Lib.hid ((HGR2.out.below hb).more hb.size)
            clear hb HGR2
            have hst := HRG.out v3 HD3.out.st.bel
            obtain ⟨st, hsd⟩ : ∃ st, og.getD z18 = st := ⟨_, rfl⟩
            rw [hsd] at hst HGP
            rw [hsd]
            have HST := Lib.hid hst
            clear hst hsd HRG HGG
            have bz := bel_new (Below.refl v3.heap.size v3) (.cells #[.int .i64 0, .int .i64 0, .int .i64 0, .int .i64 0, .int .u64 0, .int .i64 0, .int .i64 0, .int .u32 0, .int .u32 0, .int .u32 0, .slice none 0 0, .int .i64 0, .int .i64 0, .int .i64 0, .int .i64 0, .int .i64 0, .int .i64 0] 37)
            have BZ := Lib.hid (show BlkT (v3.alloc (.cells #[.int .i64 0, .int .i64 0, .int .i64 0, .int .i64 0, .int .u64 0, .int .i64 0, .int .i64 0, .int .u32 0, .int .u32 0, .int .u32 0, .slice none 0 0, .int .i64 0, .int .i64 0, .int .i64 0, .int .i64 0, .int .i64 0, .int .i64 0] 37)) (bm :: _) v3.heap.size 37 (ssc z18) from HD3.out.newb 37 (ssc z18))
            have HBZ := Lib.hid bz
            clear bz
            go_upto_region 14 with ((with_reducible refine step_store (o := ⟨none, _, _, _, _, _⟩) (vs := (ssc st)) (ty := 37) (x := .tmp 11) (y := .tmp 69) ?_ ?_ ?_ ?_ BZ.out.blk (HIR.out _) rfl (HON.out _) ?_); (rfl); (rfl); (rfl); (rfl); intro v4 hb5 hg5 hs5)
            have hb : Below v3.heap.size v3 v4 := bel_upd HBZ.out hg5 (Nat.le_refl _) (Nat.le_refl _)
            have HY4 := Lib.hid (BlkT.mk hb5 BZ.out.off)
            clear hb5 hg5 hs5 BZ HBZ
            have HD4 := Lib.hid (HD3.out.below hb)
            have HX4 := Lib.hid (HX3.out.below hb)
            have HG4 := Lib.hid (HG3.out.below hb)
            clear HD3 HX3 HG3
            have HGR4 := Lib.hid ((HGR3.out.below hb).more hb.size)
            have HST4 := Lib.hid (And.intro ((HST.out.1.below hb).more hb.size) HST.out.2)
            clear hb HGR3 HST
            generalize v3.heap.size = xY at *
            have HNE := Lib.hid (show sg.n = st.n by rw [HGP.out.2, HGP.out.1, HST4.out.1.1])
            obtain ⟨mb, hmb⟩ : ∃ mb, may18 x.s.p = mb := ⟨_, rfl⟩
            have HMB := Lib.hid hmb
            have HLX := Lib.hid (fun W (hW : Below w.heap.size w W) => (show Row ei W W.heap.size x.s.a x.s.n x.s.p.rt from (HXO.out.below hW).1))
            have HXL := Lib.hid (show x.s.n ≤ maxLen from HXO.out.2.1)
            have HOU := Lib.hid ours18_calls
            have HTH := Lib.hid theirs18_calls
            have hmy := fun (W : World) (hW : Row ei W W.heap.size x.s.a x.s.n x.s.p.rt) => may18_calls x.s W hW HXL.out
            have hrm := fun (W : World) (hW : Row ei W W.heap.size x.s.a x.s.n x.s.p.rt) => rmay18_calls x.s W hW HXL.out HXO.out.2.2
            rw [hmb] at hmy hrm
            unfold Yes14 at hmy hrm
            have HMY := Lib.hid hmy
            have HRM := Lib.hid hrm
            clear hmb hmy hrm
            have hb : Below v4.heap.size v4 v4.drew := (Below.refl _ _).drew
            have HD5 := Lib.hid (HD4.out.below hb)
            have HX5 := Lib.hid (HX4.out.below hb)
            have HG5 := Lib.hid (HG4.out.below hb)
            have HY5 := Lib.hid (HY4.out.below hb)
            clear HD4 HX4 HG4 HY4
            have HGR5 := Lib.hid ((HGR4.out.below hb).more hb.size)
            have HST5 := Lib.hid (And.intro ((HST4.out.1.below hb).more hb.size) HST4.out.2)
            clear hb HGR4 HST4
            have HS0 := Lib.hid (show Blk v4.drew xG 40 (ssc sg) ∧ Blk v4.drew xY 37 (ssc st) ∧ Blk v4.drew xA 39 (ac18 x) from ⟨HG5.out.blk, HY5.out.blk, HX5.out.blk⟩)
            go_wp2_with fail
            refine region_seq (fun W => Blk W xG 40 (ssc sg) ∧ Blk W xY 37 (ssc st) ∧ Blk W xA 39 (ac18 x)) [(0, true), (2, true), (1, false), (3, false), (4, true), (5, true), (6, true), (7, true), (8, true), (9, true), (10, true), (11, true), (12, true), (15, true), (16, true), (13, false), (14, false), (17, false), (18, true), (19, true)] (by kernel_rfl) (by kernel_rfl) (by kernel_rfl) (by kernel_rfl) (fun _ _ _ _ _ h => h) HS0.out ?_
            repeat first
              | refine seq_load8 (x := .tmp 9) rfl (by rfl) rfl rfl (fun W hW => hW.1) Try.underlying40 rfl (HIN.out _) ?_
                simp only [Act.put, List.setIfInBounds_toArray, List.set_cons_zero, List.set_cons_succ]
              | refine seq_load8 (x := .tmp 11) rfl (by rfl) rfl rfl (fun W hW => hW.2.1) Try.underlying37 rfl (HIR.out _) ?_
                simp only [Act.put, List.setIfInBounds_toArray, List.set_cons_zero, List.set_cons_succ]
              | refine seq_loadAt18 (x := .tmp 82) (vs := ssc x.s) rfl (by rfl) rfl rfl (fun W hW => act_blk18 hW.2.2) Try.underlying37 rfl (HIR.out _) ?_
                simp only [Act.put, List.setIfInBounds_toArray, List.set_cons_zero, List.set_cons_succ]
              | refine seq_loadAt18 (x := .tmp 86) (vs := ssc x.s) rfl (by rfl) rfl rfl (fun W hW => act_blk18 hW.2.2) Try.underlying37 rfl (HIR.out _) ?_
                simp only [Act.put, List.setIfInBounds_toArray, List.set_cons_zero, List.set_cons_succ]
              | refine seq_pure (v := ?_) rfl (by rfl) (fun W hW => ?_) ?_
                rotate_left
                · clear hW
                  go_simp
                  with_reducible rfl
                simp only [Act.put, List.setIfInBounds_toArray, List.set_cons_zero, List.set_cons_succ]
              | refine seq_skip rfl (by rfl) ?_
                simp only [Act.put, List.setIfInBounds_toArray, List.set_cons_zero, List.set_cons_succ]
            refine seq_make rfl (by rfl) (fun K hK => ?_)
            go_simp
            ((with_reducible refine (HOU.out _ _).mono ?_))
            rintro e v6 ⟨rfl, hb⟩
            have HD6 := Lib.hid (HD5.out.below hb)
            have HX6 := Lib.hid (HX5.out.below hb)
            have HG6 := Lib.hid (HG5.out.below hb)
            have HY6 := Lib.hid (HY5.out.below hb)
            clear HD5 HX5 HG5 HY5
            have HGR6 := Lib.hid ((HGR5.out.below hb).more hb.size)
            have HST6 := Lib.hid (And.intro ((HST5.out.1.below hb).more hb.size) HST5.out.2)
            have HS6 := Lib.hid (show Blk v6 xG 40 (ssc sg) ∧ Blk v6 xY 37 (ssc st) ∧ Blk v6 xA 39 (ac18 x) from ⟨HG6.out.blk, HY6.out.blk, HX6.out.blk⟩)
            clear hb HGR5 HST5
            go_simp
            refine hK _ _ _ (fun _ h => h) HS6.out ?_
            clear hK K
            have hsm := rsame18_calls sg st v6 HGP.out.1 HNE.out HGR6.out HST6.out.1 (by rw [HNE.out]; exact HST6.out.2)
            unfold Yes14 at hsm
            have HSM := Lib.hid hsm
            clear hsm
            repeat first
              | refine seq_load8 (x := .tmp 9) rfl (by rfl) rfl rfl (fun W hW => hW.1) Try.underlying40 rfl (HIN.out _) ?_
                simp only [Act.put, List.setIfInBounds_toArray, List.set_cons_zero, List.set_cons_succ]
              | refine seq_load8 (x := .tmp 11) rfl (by rfl) rfl rfl (fun W hW => hW.2.1) Try.underlying37 rfl (HIR.out _) ?_
                simp only [Act.put, List.setIfInBounds_toArray, List.set_cons_zero, List.set_cons_succ]
              | refine seq_loadAt18 (x := .tmp 82) (vs := ssc x.s) rfl (by rfl) rfl rfl (fun W hW => act_blk18 hW.2.2) Try.underlying37 rfl (HIR.out _) ?_
                simp only [Act.put, List.setIfInBounds_toArray, List.set_cons_zero, List.set_cons_succ]
              | refine seq_loadAt18 (x := .tmp 86) (vs := ssc x.s) rfl (by rfl) rfl rfl (fun W hW => act_blk18 hW.2.2) Try.underlying37 rfl (HIR.out _) ?_
                simp only [Act.put, List.setIfInBounds_toArray, List.set_cons_zero, List.set_cons_succ]
              | refine seq_pure (v := ?_) rfl (by rfl) (fun W hW => ?_) ?_
                rotate_left
                · clear hW
                  go_simp
                  with_reducible rfl
                simp only [Act.put, List.setIfInBounds_toArray, List.set_cons_zero, List.set_cons_succ]
              | refine seq_skip rfl (by rfl) ?_
                simp only [Act.put, List.setIfInBounds_toArray, List.set_cons_zero, List.set_cons_succ]
            refine seq_make rfl (by rfl) (fun K hK => ?_)
            go_simp
            ((with_reducible refine (HSM.out).mono ?_))
            rintro e v7 ⟨rfl, hb⟩
            have HD7 := Lib.hid (HD6.out.below hb)
            have HX7 := Lib.hid (HX6.out.below hb)
            have HG7 := Lib.hid (HG6.out.below hb)
            have HY7 := Lib.hid (HY6.out.below hb)
            clear HD6 HX6 HG6 HY6
            have HGR7 := Lib.hid ((HGR6.out.below hb).more hb.size)
            have HST7 := Lib.hid (And.intro ((HST6.out.1.below hb).more hb.size) HST6.out.2)
            have HS7 := Lib.hid (show Blk v7 xG 40 (ssc sg) ∧ Blk v7 xY 37 (ssc st) ∧ Blk v7 xA 39 (ac18 x) from ⟨HG7.out.blk, HY7.out.blk, HX7.out.blk⟩)
            clear hb HGR6 HST6
            go_simp
            refine hK _ _ _ (fun _ h => h) HS7.out ?_
            clear hK K
            repeat first
              | refine seq_load8 (x := .tmp 9) rfl (by rfl) rfl rfl (fun W hW => hW.1) Try.underlying40 rfl (HIN.out _) ?_
                simp only [Act.put, List.setIfInBounds_toArray, List.set_cons_zero, List.set_cons_succ]
              | refine seq_load8 (x := .tmp 11) rfl (by rfl) rfl rfl (fun W hW => hW.2.1) Try.underlying37 rfl (HIR.out _) ?_
                simp only [Act.put, List.setIfInBounds_toArray, List.set_cons_zero, List.set_cons_succ]
              | refine seq_loadAt18 (x := .tmp 82) (vs := ssc x.s) rfl (by rfl) rfl rfl (fun W hW => act_blk18 hW.2.2) Try.underlying37 rfl (HIR.out _) ?_
                simp only [Act.put, List.setIfInBounds_toArray, List.set_cons_zero, List.set_cons_succ]
              | refine seq_loadAt18 (x := .tmp 86) (vs := ssc x.s) rfl (by rfl) rfl rfl (fun W hW => act_blk18 hW.2.2) Try.underlying37 rfl (HIR.out _) ?_
                simp only [Act.put, List.setIfInBounds_toArray, List.set_cons_zero, List.set_cons_succ]
              | refine seq_pure (v := ?_) rfl (by rfl) (fun W hW => ?_) ?_
                rotate_left
                · clear hW
                  go_simp
                  with_reducible rfl
                simp only [Act.put, List.setIfInBounds_toArray, List.set_cons_zero, List.set_cons_succ]
              | refine seq_skip rfl (by rfl) ?_
                simp only [Act.put, List.setIfInBounds_toArray, List.set_cons_zero, List.set_cons_succ]
            refine seq_make rfl (by rfl) (fun K hK => ?_)
            go_simp
            ((with_reducible refine (HTH.out _ _).mono ?_))
            rintro e v8 ⟨rfl, hb⟩
            have HD8 := Lib.hid (HD7.out.below hb)
            have HX8 := Lib.hid (HX7.out.below hb)
            have HG8 := Lib.hid (HG7.out.below hb)
            have HY8 := Lib.hid (HY7.out.below hb)
            clear HD7 HX7 HG7 HY7
            have HGR8 := Lib.hid ((HGR7.out.below hb).more hb.size)
            have HST8 := Lib.hid (And.intro ((HST7.out.1.below hb).more hb.size) HST7.out.2)
            have HS8 := Lib.hid (show Blk v8 xG 40 (ssc sg) ∧ Blk v8 xY 37 (ssc st) ∧ Blk v8 xA 39 (ac18 x) from ⟨HG8.out.blk, HY8.out.blk, HX8.out.blk⟩)
            clear hb HGR7 HST7
            go_simp
            refine hK _ _ _ (fun _ h => h) HS8.out ?_
            clear hK K
            repeat first
              | refine seq_load8 (x := .tmp 9) rfl (by rfl) rfl rfl (fun W hW => hW.1) Try.underlying40 rfl (HIN.out _) ?_
                simp only [Act.put, List.setIfInBounds_toArray, List.set_cons_zero, List.set_cons_succ]
              | refine seq_load8 (x := .tmp 11) rfl (by rfl) rfl rfl (fun W hW => hW.2.1) Try.underlying37 rfl (HIR.out _) ?_
                simp only [Act.put, List.setIfInBounds_toArray, List.set_cons_zero, List.set_cons_succ]
              | refine seq_loadAt18 (x := .tmp 82) (vs := ssc x.s) rfl (by rfl) rfl rfl (fun W hW => act_blk18 hW.2.2) Try.underlying37 rfl (HIR.out _) ?_
                simp only [Act.put, List.setIfInBounds_toArray, List.set_cons_zero, List.set_cons_succ]
              | refine seq_loadAt18 (x := .tmp 86) (vs := ssc x.s) rfl (by rfl) rfl rfl (fun W hW => act_blk18 hW.2.2) Try.underlying37 rfl (HIR.out _) ?_
                simp only [Act.put, List.setIfInBounds_toArray, List.set_cons_zero, List.set_cons_succ]
              | refine seq_pure (v := ?_) rfl (by rfl) (fun W hW => ?_) ?_
                rotate_left
                · clear hW
                  go_simp
                  with_reducible rfl
                simp only [Act.put, List.setIfInBounds_toArray, List.set_cons_zero, List.set_cons_succ]
              | refine seq_skip rfl (by rfl) ?_
                simp only [Act.put, List.setIfInBounds_toArray, List.set_cons_zero, List.set_cons_succ]
            refine seq_make rfl (by rfl) (fun K hK => ?_)
            go_simp
            ((with_reducible refine (HMY.out _ (HLX.out v8 HD8.out.st.bel)).mono ?_))
            rintro e v9 ⟨rfl, hb⟩
            have HD9 := Lib.hid (HD8.out.below hb)
            have HX9 := Lib.hid (HX8.out.below hb)
            have HG9 := Lib.hid (HG8.out.below hb)
            have HY9 := Lib.hid (HY8.out.below hb)
            clear HD8 HX8 HG8 HY8
            have HGR9 := Lib.hid ((HGR8.out.below hb).more hb.size)
            have HST9 := Lib.hid (And.intro ((HST8.out.1.below hb).more hb.size) HST8.out.2)
            have HS9 := Lib.hid (show Blk v9 xG 40 (ssc sg) ∧ Blk v9 xY 37 (ssc st) ∧ Blk v9 xA 39 (ac18 x) from ⟨HG9.out.blk, HY9.out.blk, HX9.out.blk⟩)
            clear hb HGR8 HST8
            go_simp
            refine hK _ _ _ (fun _ h => h) HS9.out ?_
            clear hK K
            repeat first
              | refine seq_load8 (x := .tmp 9) rfl (by rfl) rfl rfl (fun W hW => hW.1) Try.underlying40 rfl (HIN.out _) ?_
                simp only [Act.put, List.setIfInBounds_toArray, List.set_cons_zero, List.set_cons_succ]
              | refine seq_load8 (x := .tmp 11) rfl (by rfl) rfl rfl (fun W hW => hW.2.1) Try.underlying37 rfl (HIR.out _) ?_
                simp only [Act.put, List.setIfInBounds_toArray, List.set_cons_zero, List.set_cons_succ]
              | refine seq_loadAt18 (x := .tmp 82) (vs := ssc x.s) rfl (by rfl) rfl rfl (fun W hW => act_blk18 hW.2.2) Try.underlying37 rfl (HIR.out _) ?_
                simp only [Act.put, List.setIfInBounds_toArray, List.set_cons_zero, List.set_cons_succ]
              | refine seq_loadAt18 (x := .tmp 86) (vs := ssc x.s) rfl (by rfl) rfl rfl (fun W hW => act_blk18 hW.2.2) Try.underlying37 rfl (HIR.out _) ?_
                simp only [Act.put, List.setIfInBounds_toArray, List.set_cons_zero, List.set_cons_succ]
              | refine seq_pure (v := ?_) rfl (by rfl) (fun W hW => ?_) ?_
                rotate_left
                · clear hW
                  go_simp
                  with_reducible rfl
                simp only [Act.put, List.setIfInBounds_toArray, List.set_cons_zero, List.set_cons_succ]
              | refine seq_skip rfl (by rfl) ?_
                simp only [Act.put, List.setIfInBounds_toArray, List.set_cons_zero, List.set_cons_succ]
            refine seq_make rfl (by rfl) (fun K hK => ?_)
            go_simp
            ((with_reducible refine (HRM.out _ (HLX.out v9 HD9.out.st.bel)).mono ?_))
            rintro e v10 ⟨rfl, hb⟩
            have HD10 := Lib.hid (HD9.out.below hb)
            have HX10 := Lib.hid (HX9.out.below hb)
            have HG10 := Lib.hid (HG9.out.below hb)
            have HY10 := Lib.hid (HY9.out.below hb)
            clear HD9 HX9 HG9 HY9
            have HGR10 := Lib.hid ((HGR9.out.below hb).more hb.size)
            have HST10 := Lib.hid (And.intro ((HST9.out.1.below hb).more hb.size) HST9.out.2)
            have HS10 := Lib.hid (show Blk v10 xG 40 (ssc sg) ∧ Blk v10 xY 37 (ssc st) ∧ Blk v10 xA 39 (ac18 x) from ⟨HG10.out.blk, HY10.out.blk, HX10.out.blk⟩)
            clear hb HGR9 HST9
            go_simp
            refine hK _ _ _ (fun _ h => h) HS10.out ?_
            clear hK K
            repeat first
              | refine seq_load8 (x := .tmp 9) rfl (by rfl) rfl rfl (fun W hW => hW.1) Try.underlying40 rfl (HIN.out _) ?_
                simp only [Act.put, List.setIfInBounds_toArray, List.set_cons_zero, List.set_cons_succ]
              | refine seq_load8 (x := .tmp 11) rfl (by rfl) rfl rfl (fun W hW => hW.2.1) Try.underlying37 rfl (HIR.out _) ?_
                simp only [Act.put, List.setIfInBounds_toArray, List.set_cons_zero, List.set_cons_succ]
              | refine seq_loadAt18 (x := .tmp 82) (vs := ssc x.s) rfl (by rfl) rfl rfl (fun W hW => act_blk18 hW.2.2) Try.underlying37 rfl (HIR.out _) ?_
                simp only [Act.put, List.setIfInBounds_toArray, List.set_cons_zero, List.set_cons_succ]
              | refine seq_loadAt18 (x := .tmp 86) (vs := ssc x.s) rfl (by rfl) rfl rfl (fun W hW => act_blk18 hW.2.2) Try.underlying37 rfl (HIR.out _) ?_
                simp only [Act.put, List.setIfInBounds_toArray, List.set_cons_zero, List.set_cons_succ]
              | refine seq_pure (v := ?_) rfl (by rfl) (fun W hW => ?_) ?_
                rotate_left
                · clear hW
                  go_simp
                  with_reducible rfl
                simp only [Act.put, List.setIfInBounds_toArray, List.set_cons_zero, List.set_cons_succ]
              | refine seq_skip rfl (by rfl) ?_
                simp only [Act.put, List.setIfInBounds_toArray, List.set_cons_zero, List.set_cons_succ]
            refine seq_done ?_
            clear HS0 HS6 HS7 HS8 HS9 HS10 HG10 HY10 HGR10 HST10 HGP HNE HOU HSM HMY HRM
            obtain ⟨d, hd⟩ : ∃ d, x.dr = d := ⟨_, rfl⟩
            have x0 : v10.cell? ⟨xA, 0, none⟩ = some (.bool d) := by rw [← hd]; exact HX10.out.blk.cell 0
            have HDR := Lib.hid hd
            clear hd
            go_upto_if 92 with fail
            go_cut [13, 14, 15, 16] from 32 to 162 (fun _ _ _ _ W => ∃ (ls : List Ss) (S : List Nat) (A : Option Addr) (m c : Nat), Hid (Doc18 w W q most bm S (ls.map (·.p)) ls A m c) ∧ Hid (Rts18 w ls) ∧ Hid (BlkT W (bm :: S) xA 39 (ac18 x)))
            case first =>
              cases d with
              | true =>
                clear x0
                have x1 : v10.cell? ⟨xA, 1, none⟩ = some (.int .i64 x.s.p.k.tail) := HX10.out.blk.cell 1
                have x2 : v10.cell? ⟨xA, 2, none⟩ = some (.int .i64 x.s.p.k.tun) := HX10.out.blk.cell 2
                have x3 : v10.cell? ⟨xA, 3, none⟩ = some (.int .i64 x.s.p.k.head) := HX10.out.blk.cell 3
                have x4 : v10.cell? ⟨xA, 4, none⟩ = some (.int .i64 x.s.p.k.lsp) := HX10.out.blk.cell 4
                have r0 : v10.cell? ⟨bm, 0, none⟩ = some (.slice A m c1) := HD10.out.blk.blk.cell 0
                have r1 : v10.cell? ⟨bm, 1, none⟩ = some (.int .i64 (most : Int)) := HD10.out.blk.blk.cell 1
                have HDP := Lib.hid (rdrop18_calls A m c1 most ls x.s.p.k v10 HD10.out.row.row (by have := HD10.out.len; omega))
                obtain ⟨r, hr⟩ : ∃ r, rdrop18 ls x.s.p.k = r := ⟨_, rfl⟩
                rw [hr] at HDP
                have HRR := Lib.hid hr
                have HRT2 := Lib.hid (show Rts18 w r.1 by rw [← hr]; exact HRT.out.drop _)
                clear hr
                go_wp2_with fail
                ((with_reducible refine HDP.out.mono ?_))
                intro e v11 hrd
                obtain ⟨A2, m2, c2, rfl, hrow, hb⟩ := hrd.one HD10.out.row HD10.out.lt
                have HW11 := Lib.hid hrow
                clear hrd hrow HDP x1 x2 x3 x4 r0 r1
                have HD11 := Lib.hid (HD10.out.below hb)
                have HX11 := Lib.hid (HX10.out.below hb)
                clear HD10 HX10
                clear hb
                have bz := bel_new (Below.refl v11.heap.size v11) (.cells #[.slice none 0 0, .int .i64 0] 28)
                have BZ := Lib.hid (show BlkT (v11.alloc (.cells #[.slice none 0 0, .int .i64 0] 28)) (bm :: _) v11.heap.size 28 (tbc18 none 0 0 0) from HD11.out.newb 28 (tbc18 none 0 0 0))
                have HBZ := Lib.hid bz
                clear bz
                go_upto_region 18 with ((with_reducible refine step_store (o := ⟨none, _, _, _, _, _⟩) (vs := (tbc18 A2 m2 c2 most)) (ty := 28) (x := .tmp 13) (y := .tmp 99) ?_ ?_ ?_ ?_ BZ.out.blk (HIT.out _ _ _ _) rfl (HOT.out _ _ _ _) ?_); (rfl); (rfl); (rfl); (rfl); intro v12 hb5 hg5 hs5)
                have hb : Below v11.heap.size v11 v12 := bel_upd HBZ.out hg5 (Nat.le_refl _) (Nat.le_refl _)
                have HV12 := Lib.hid (BlkT.mk hb5 BZ.out.off)
                clear hb5 hg5 hs5 BZ HBZ
                have HD12 := Lib.hid (HD11.out.below hb)
                have HX12 := Lib.hid (HX11.out.below hb)
                have HW12 := Lib.hid (HW11.out.below hb)
                clear HD11 HX11 HW11
                clear hb
                generalize v11.heap.size = xV at *
                have t0 : v12.cell? ⟨xV, 0, none⟩ = some (.slice A2 m2 c2) := HV12.out.blk.cell 0
                have t1 : v12.cell? ⟨xV, 1, none⟩ = some (.int .i64 (most : Int)) := HV12.out.blk.cell 1
                go_upto_region 19 with ((with_reducible refine step_store (o := ⟨none, _, _, _, _, _⟩) (vs := tbc18 A2 m2 c2 most) (ty := 28) (x := .tmp 6) (y := .tmp 101) ?_ ?_ ?_ ?_ HD12.out.blk.blk (HIT.out _ _ _ _) rfl (HOT.out _ _ _ _) ?_); (rfl); (rfl); (rfl); (rfl); intro v13 hb5 hg5 hs5)
                have HD13 := Lib.hid (HD12.out.set HW12.out hb5 hg5)
                have HX13 := Lib.hid (HX12.out.setb hg5)
                clear hb5 hg5 hs5 t0 t1 HD12 HX12 HW12 HV12
                have x1 : v13.cell? ⟨xA, 1, none⟩ = some (.int .i64 x.s.p.k.tail) := HX13.out.blk.cell 1
                have x2 : v13.cell? ⟨xA, 2, none⟩ = some (.int .i64 x.s.p.k.tun) := HX13.out.blk.cell 2
                have x3 : v13.cell? ⟨xA, 3, none⟩ = some (.int .i64 x.s.p.k.head) := HX13.out.blk.cell 3
                have x4 : v13.cell? ⟨xA, 4, none⟩ = some (.int .i64 x.s.p.k.lsp) := HX13.out.blk.cell 4
                have hdc := drop18c_calls q most (ls.map (·.p)) S1 x.s.p.k v13 HD13.out.st.p
                rw [rdrop18_plain, HRR.out] at hdc
                unfold Prt18 at hdc
                have HDC := Lib.hid hdc
                clear hdc
                obtain ⟨r1, r2⟩ := r
                simp only at HD13 HRT2 HDC
                simp only
                go_wp2_with fail
                ((with_reducible refine HDC.out.mono ?_))
                rintro e v14 ⟨S2, rfl, hp, hm⟩
                have HD14 := Lib.hid (HD13.out.mv hp hm)
                have HX14 := Lib.hid (HX13.out.mv (hm.cons bm))
                clear hp hm HD13 HX13 HDC x1 x2 x3 x4
                go_wp2_with fail
                go_meet
                exact ⟨r1, S2, A2, m2, c2, HD14, HRT2, HX14⟩
              | false =>
                clear x0
                have HXS := Lib.hid (act_blk18 HX10.out.blk)
                have r0 : v10.cell? ⟨bm, 0, none⟩ = some (.slice A m c1) := HD10.out.blk.blk.cell 0
                have r1 : v10.cell? ⟨bm, 1, none⟩ = some (.int .i64 (most : Int)) := HD10.out.blk.blk.cell 1
                have HDP := Lib.hid (rput18_calls A m c1 most ls x.s v10 HD10.out.row.row (by have := HD10.out.len; omega) (HLX.out v10 HD10.out.st.bel) HXL.out HXO.out.2.2)
                obtain ⟨r, hr⟩ : ∃ r, rput18 most ls x.s = r := ⟨_, rfl⟩
                rw [hr] at HDP
                have HRR := Lib.hid hr
                have HRT2 := Lib.hid (show Rts18 w r.1 by rw [← hr]; exact HRT.out.put most ⟨HXO.out, HXN.out⟩)
                clear hr
                go_wp2_with (refine step_load_at (o := ⟨some 112, _, _, _, _, _⟩) rfl rfl rfl HXS.out Try.underlying37 rfl (HIR.out _) ?_)
                ((with_reducible refine HDP.out.mono ?_))
                intro e v11 hrd
                obtain ⟨A2, m2, c2, rfl, hrow, hb⟩ := hrd.one HD10.out.row HD10.out.lt
                have HW11 := Lib.hid hrow
                clear hrd hrow HDP HXS r0 r1
                have HD11 := Lib.hid (HD10.out.below hb)
                have HX11 := Lib.hid (HX10.out.below hb)
                clear HD10 HX10
                clear hb
                have bz := bel_new (Below.refl v11.heap.size v11) (.cells #[.slice none 0 0, .int .i64 0] 28)
                have BZ := Lib.hid (show BlkT (v11.alloc (.cells #[.slice none 0 0, .int .i64 0] 28)) (bm :: _) v11.heap.size 28 (tbc18 none 0 0 0) from HD11.out.newb 28 (tbc18 none 0 0 0))
                have HBZ := Lib.hid bz
                clear bz
                go_upto_region 22 with ((with_reducible refine step_store (o := ⟨none, _, _, _, _, _⟩) (vs := (tbc18 A2 m2 c2 most)) (ty := 28) (x := .tmp 15) (y := .tmp 114) ?_ ?_ ?_ ?_ BZ.out.blk (HIT.out _ _ _ _) rfl (HOT.out _ _ _ _) ?_); (rfl); (rfl); (rfl); (rfl); intro v12 hb5 hg5 hs5)
                have hb : Below v11.heap.size v11 v12 := bel_upd HBZ.out hg5 (Nat.le_refl _) (Nat.le_refl _)
                have HV12 := Lib.hid (BlkT.mk hb5 BZ.out.off)
                clear hb5 hg5 hs5 BZ HBZ
                have HD12 := Lib.hid (HD11.out.below hb)
                have HX12 := Lib.hid (HX11.out.below hb)
                have HW12 := Lib.hid (HW11.out.below hb)
                clear HD11 HX11 HW11
                clear hb
                generalize v11.heap.size = xV at *
                have t0 : v12.cell? ⟨xV, 0, none⟩ = some (.slice A2 m2 c2) := HV12.out.blk.cell 0
                have t1 : v12.cell? ⟨xV, 1, none⟩ = some (.int .i64 (most : Int)) := HV12.out.blk.cell 1
                go_upto_region 23 with ((with_reducible refine step_store (o := ⟨none, _, _, _, _, _⟩) (vs := tbc18 A2 m2 c2 most) (ty := 28) (x := .tmp 6) (y := .tmp 116) ?_ ?_ ?_ ?_ HD12.out.blk.blk (HIT.out _ _ _ _) rfl (HOT.out _ _ _ _) ?_); (rfl); (rfl); (rfl); (rfl); intro v13 hb5 hg5 hs5)
                have HD13 := Lib.hid (HD12.out.set HW12.out hb5 hg5)
                have HX13 := Lib.hid (HX12.out.setb hg5)
                clear hb5 hg5 hs5 t0 t1 HD12 HX12 HW12 HV12
                have HXS := Lib.hid (act_blk18 HX13.out.blk)
                have hpc := fun W (hp : TbC18 W q most (ls.map (·.p)) S1) (hr : Row ei W W.heap.size x.s.a x.s.n x.s.p.rt) => put18c_calls q most (ls.map (·.p)) S1 x.s W hp hr (by have := HXN.out; omega)
                rw [rput18_plain, HRR.out] at hpc
                unfold Prt18 at hpc
                have HPC := Lib.hid hpc
                clear hpc
                obtain ⟨r1, r2⟩ := r
                simp only at HD13 HRT2 HPC
                simp only
                go_wp2_with (refine step_load_at (o := ⟨some 119, _, _, _, _, _⟩) rfl rfl rfl HXS.out Try.underlying37 rfl (HIR.out _) ?_)
                ((with_reducible refine (HTH.out _ _).mono ?_))
                rintro e v14 ⟨rfl, hb⟩
                clear HXS
                have HD14 := Lib.hid (HD13.out.below hb)
                have HX14 := Lib.hid (HX13.out.below hb)
                clear HD13 HX13
                clear hb
                go_wp2_with fail
                ((with_reducible refine (HPC.out v14 HD14.out.st.p (HLX.out v14 HD14.out.st.bel)).mono ?_))
                rintro e v15 ⟨S2, rfl, hp, hm⟩
                have HD15 := Lib.hid (HD14.out.mv hp hm)
                have HX15 := Lib.hid (HX14.out.mv (hm.cons bm))
                clear hp hm HD14 HX14 HPC
                go_wp2_with fail
                go_meet
                exact ⟨r1, S2, A2, m2, c2, HD15, HRT2, HX15⟩
            case rest =>
              clear HD10 HX10 HRT x0
              obtain ⟨l2, S2, A2, m2, c2, HD1, HRT, HX1⟩ := hcut
              have HLN := Lib.hid HD1.out.len
              have HTB := Lib.hid HD1.out.st.p.tbl
              have HBL := Lib.hid HD1.out.st.bel
              have hb : Below wc.heap.size wc wc.drew := (Below.refl _ _).drew
              have HD2 := Lib.hid (HD1.out.below hb)
              have HX2 := Lib.hid (HX1.out.below hb)
              clear HD1 HX1
              clear hb
              have HS0 := Lib.hid (show Doc18 w wc.drew q most bm S2 (l2.map (·.p)) l2 A2 m2 c2 ∧ BlkT wc.drew (bm :: S2) xA 39 (ac18 x) from ⟨HD2.out, HX2.out⟩)
              have hall := all18_calls q most (l2.map (·.p)) S2 wc.drew HD2.out.st.p
              unfold All18 at hall
              have HA := Lib.hid hall
              clear hall HBL HTH
              go_wp2_with fail
              refine region_seq (fun W => Doc18 w W q most bm S2 (l2.map (·.p)) l2 A2 m2 c2 ∧ BlkT W (bm :: S2) xA 39 (ac18 x)) [(0, true), (3, true), (4, true), (1, false), (2, false), (5, false), (6, true), (7, true), (8, true), (10, true), (11, true), (12, true), (9, false), (13, true), (14, true), (15, true), (16, true), (17, true), (18, true), (20, true), (21, true), (22, true), (19, false), (23, false), (24, false), (25, true), (26, true), (27, true), (28, true), (29, true), (30, true), (32, true), (33, true), (34, true), (31, false), (35, false), (36, false), (37, true), (38, true)] (by kernel_rfl) (by kernel_rfl) (by kernel_rfl) (by kernel_rfl) (fun _ _ _ _ _ h => h) HS0.out ?_
              repeat first
                | refine seq_pure (v := ?_) rfl (by rfl) (fun W hW => ?_) ?_
                  rotate_left
                  · have r0 : W.cell? ⟨bm, 0, none⟩ = some (.slice A2 m2 c2) := hW.1.blk.blk.cell 0
                    have r1 : W.cell? ⟨bm, 1, none⟩ = some (.int .i64 (most : Int)) := hW.1.blk.blk.cell 1
                    have y18 : W.cell? ⟨xA, 18, none⟩ = some (.int .i64 x.now) := hW.2.blk.cell 18
                    clear hW
                    go_simp
                    with_reducible rfl
                  simp only [Act.put, List.setIfInBounds_toArray, List.set_cons_zero, List.set_cons_succ]
                | refine seq_skip rfl (by rfl) ?_
                  simp only [Act.put, List.setIfInBounds_toArray, List.set_cons_zero, List.set_cons_succ]
              refine seq_make rfl (by rfl) (fun K hK => ?_)
              go_simp
              ((with_reducible refine (HA.out).mono ?_))
              rintro e v3 ⟨lc, A3, c3, rfl, hmap, hacc, hsts, hb⟩
              have HD3 := Lib.hid (HD2.out.below hb)
              have HX3 := Lib.hid (HX2.out.below hb)
              clear HD2 HX2
              have HMC := Lib.hid hmap
              have HLC := Lib.hid (show lc.length = m2 by have h0 := congrArg List.length hmap; rw [List.length_map, List.length_map, HLN.out.1] at h0; exact h0)
              have HRC := Lib.hid (show Row ssc v3 v3.heap.size A3 m2 lc by have := hacc.row; rw [HLC.out] at this; exact this)
              have HWC := Lib.hid (Rws18.of hsts (fun y hy => HTB.out.may y.p (by rw [← hmap]; exact List.mem_map.2 ⟨y, hy, rfl⟩)))
              rw [HLC.out]
              clear hmap hacc hsts HA

              have HS3 := Lib.hid (show Doc18 w v3 q most bm S2 (l2.map (·.p)) l2 A2 m2 c2 ∧ BlkT v3 (bm :: S2) xA 39 (ac18 x) from ⟨HD3.out, HX3.out⟩)
              clear hb
              go_simp
              refine hK _ _ _ (fun _ h => h) HS3.out ?_
              clear hK K HS3
              have hl1 := list18_calls A3 m2 c3 lc v3 HRC.out (by have := HLN.out; omega)
              unfold Lst18 at hl1
              rw [HLC.out] at hl1
              have HL1 := Lib.hid hl1
              clear hl1
              repeat first
                | refine seq_pure (v := ?_) rfl (by rfl) (fun W hW => ?_) ?_
                  rotate_left
                  · have r0 : W.cell? ⟨bm, 0, none⟩ = some (.slice A2 m2 c2) := hW.1.blk.blk.cell 0
                    have r1 : W.cell? ⟨bm, 1, none⟩ = some (.int .i64 (most : Int)) := hW.1.blk.blk.cell 1
                    have y18 : W.cell? ⟨xA, 18, none⟩ = some (.int .i64 x.now) := hW.2.blk.cell 18
                    clear hW
                    go_simp
                    with_reducible rfl
                  simp only [Act.put, List.setIfInBounds_toArray, List.set_cons_zero, List.set_cons_succ]
                | refine seq_skip rfl (by rfl) ?_
                  simp only [Act.put, List.setIfInBounds_toArray, List.set_cons_zero, List.set_cons_succ]
              refine seq_make rfl (by rfl) (fun K hK => ?_)
              go_simp
              ((with_reducible refine (HL1.out).mono ?_))
              rintro e v4 ⟨A4, c4, rfl, hacc, hb⟩
              have HD4 := Lib.hid (HD3.out.below hb)
              have HX4 := Lib.hid (HX3.out.below hb)
              clear HD3 HX3
              have HRD := Lib.hid (show Row ssc v4 v4.heap.size A4 m2 lc by have := hacc.row; rw [HLC.out] at this; exact this)
              have HWD := Lib.hid (HWC.out.below hb)
              clear hacc HL1 HRC HWC

              have HS4 := Lib.hid (show Doc18 w v4 q most bm S2 (l2.map (·.p)) l2 A2 m2 c2 ∧ BlkT v4 (bm :: S2) xA 39 (ac18 x) from ⟨HD4.out, HX4.out⟩)
              clear hb
              go_simp
              refine hK _ _ _ (fun _ h => h) HS4.out ?_
              clear hK K HS4
              have hal := rall18_calls A4 A2 m2 c4 c2 lc l2 v4 HRD.out HD4.out.row.row (by have := HLN.out; omega) HMC.out HWD.out (fun y hy => (HRT.out.row HD4.out.st.bel y hy).1)
              unfold Yes14 at hal
              have HAL2 := Lib.hid hal
              clear hal
              repeat first
                | refine seq_pure (v := ?_) rfl (by rfl) (fun W hW => ?_) ?_
                  rotate_left
                  · have r0 : W.cell? ⟨bm, 0, none⟩ = some (.slice A2 m2 c2) := hW.1.blk.blk.cell 0
                    have r1 : W.cell? ⟨bm, 1, none⟩ = some (.int .i64 (most : Int)) := hW.1.blk.blk.cell 1
                    have y18 : W.cell? ⟨xA, 18, none⟩ = some (.int .i64 x.now) := hW.2.blk.cell 18
                    clear hW
                    go_simp
                    with_reducible rfl
                  simp only [Act.put, List.setIfInBounds_toArray, List.set_cons_zero, List.set_cons_succ]
                | refine seq_skip rfl (by rfl) ?_
                  simp only [Act.put, List.setIfInBounds_toArray, List.set_cons_zero, List.set_cons_succ]
              refine seq_make rfl (by rfl) (fun K hK => ?_)
              go_simp
              ((with_reducible refine (HAL2.out).mono ?_))
              rintro e v5 ⟨rfl, hb⟩
              have HD5 := Lib.hid (HD4.out.below hb)
              have HX5 := Lib.hid (HX4.out.below hb)
              clear HD4 HX4
              clear HRD HWD HAL2 HMC HLC
              have HS5 := Lib.hid (show Doc18 w v5 q most bm S2 (l2.map (·.p)) l2 A2 m2 c2 ∧ BlkT v5 (bm :: S2) xA 39 (ac18 x) from ⟨HD5.out, HX5.out⟩)
              clear hb
              go_simp
              refine hK _ _ _ (fun _ h => h) HS5.out ?_
              clear hK K HS5
              have hln := len18_calls q most (l2.map (·.p)) S2 v5 HD5.out.st.p
              rw [List.length_map, HLN.out.1] at hln
              have HLL := Lib.hid hln
              clear hln
              repeat first
                | refine seq_pure (v := ?_) rfl (by rfl) (fun W hW => ?_) ?_
                  rotate_left
                  · have r0 : W.cell? ⟨bm, 0, none⟩ = some (.slice A2 m2 c2) := hW.1.blk.blk.cell 0
                    have r1 : W.cell? ⟨bm, 1, none⟩ = some (.int .i64 (most : Int)) := hW.1.blk.blk.cell 1
                    have y18 : W.cell? ⟨xA, 18, none⟩ = some (.int .i64 x.now) := hW.2.blk.cell 18
                    clear hW
                    go_simp
                    with_reducible rfl
                  simp only [Act.put, List.setIfInBounds_toArray, List.set_cons_zero, List.set_cons_succ]
                | refine seq_skip rfl (by rfl) ?_
                  simp only [Act.put, List.setIfInBounds_toArray, List.set_cons_zero, List.set_cons_succ]
              refine seq_make rfl (by rfl) (fun K hK => ?_)
              go_simp
              ((with_reducible refine (HLL.out).mono ?_))
              rintro e v6 ⟨rfl, rfl⟩
              have HS6 := Lib.hid (show Doc18 w v6 q most bm S2 (l2.map (·.p)) l2 A2 m2 c2 ∧ BlkT v6 (bm :: S2) xA 39 (ac18 x) from ⟨HD5.out, HX5.out⟩)
              go_simp
              refine hK _ _ _ (fun _ h => h) HS6.out ?_
              clear hK K HS6 HLL
              obtain ⟨k7, hk7⟩ : ∃ k7, late18 (l2.map (·.p)) x.now = k7 := ⟨_, rfl⟩
              have HKL7 := Lib.hid (show k7.length ≤ 64 by have h0 := late18_len (l2.map (·.p)) x.now; rw [hk7, List.length_map] at h0; have := HLN.out; omega)
              have hlt := late18c_calls q most (l2.map (·.p)) S2 x.now v6 HD5.out.st.p
              have hrl := fun (W : World) (hR : Row ssc W W.heap.size A2 m2 l2) => rlate18_calls A2 m2 c2 most l2 x.now W hR (by have := HLN.out; omega)
              rw [hk7] at hlt hrl
              unfold Kys18 at hlt hrl
              have HLT7 := Lib.hid hlt
              have HRL7 := Lib.hid hrl
              obtain ⟨n7, hn7⟩ : ∃ n7, k7.length = n7 := ⟨_, rfl⟩
              have HNK7 := Lib.hid hn7
              rw [hn7] at HLT7 HRL7 HKL7
              clear hlt hrl hk7 hn7
              repeat first
                | refine seq_pure (v := ?_) rfl (by rfl) (fun W hW => ?_) ?_
                  rotate_left
                  · have r0 : W.cell? ⟨bm, 0, none⟩ = some (.slice A2 m2 c2) := hW.1.blk.blk.cell 0
                    have r1 : W.cell? ⟨bm, 1, none⟩ = some (.int .i64 (most : Int)) := hW.1.blk.blk.cell 1
                    have y18 : W.cell? ⟨xA, 18, none⟩ = some (.int .i64 x.now) := hW.2.blk.cell 18
                    clear hW
                    go_simp
                    with_reducible rfl
                  simp only [Act.put, List.setIfInBounds_toArray, List.set_cons_zero, List.set_cons_succ]
                | refine seq_skip rfl (by rfl) ?_
                  simp only [Act.put, List.setIfInBounds_toArray, List.set_cons_zero, List.set_cons_succ]
              refine seq_make rfl (by rfl) (fun K hK => ?_)
              go_simp
              ((with_reducible refine (HLT7.out).mono ?_))
              rintro e v7 ⟨B7, d7, rfl, hacc, hb⟩
              have HD7 := Lib.hid (HD5.out.below hb)
              have HX7 := Lib.hid (HX5.out.below hb)
              clear HD5 HX5
              have HP7 := Lib.hid (show Row kyc v7 v7.heap.size B7 n7 k7 by have := hacc.row; rw [HNK7.out] at this; exact this)
              clear hacc HLT7

              have HS7 := Lib.hid (show Doc18 w v7 q most bm S2 (l2.map (·.p)) l2 A2 m2 c2 ∧ BlkT v7 (bm :: S2) xA 39 (ac18 x) from ⟨HD7.out, HX7.out⟩)
              clear hb
              go_simp
              refine hK _ _ _ (fun _ h => h) HS7.out ?_
              clear hK K HS7
              repeat first
                | refine seq_pure (v := ?_) rfl (by rfl) (fun W hW => ?_) ?_
                  rotate_left
                  · have r0 : W.cell? ⟨bm, 0, none⟩ = some (.slice A2 m2 c2) := hW.1.blk.blk.cell 0
                    have r1 : W.cell? ⟨bm, 1, none⟩ = some (.int .i64 (most : Int)) := hW.1.blk.blk.cell 1
                    have y18 : W.cell? ⟨xA, 18, none⟩ = some (.int .i64 x.now) := hW.2.blk.cell 18
                    clear hW
                    go_simp
                    with_reducible rfl
                  simp only [Act.put, List.setIfInBounds_toArray, List.set_cons_zero, List.set_cons_succ]
                | refine seq_skip rfl (by rfl) ?_
                  simp only [Act.put, List.setIfInBounds_toArray, List.set_cons_zero, List.set_cons_succ]
              refine seq_make rfl (by rfl) (fun K hK => ?_)
              go_simp
              ((with_reducible refine (HRL7.out _ HD7.out.row.row).mono ?_))
              rintro e v8 ⟨B8, d8, rfl, hacc, hb⟩
              have HD8 := Lib.hid (HD7.out.below hb)
              have HX8 := Lib.hid (HX7.out.below hb)
              clear HD7 HX7
              have HP8 := Lib.hid (show Row kyc v8 v8.heap.size B8 n7 k7 by have := hacc.row; rw [HNK7.out] at this; exact this)
              have HPP8 := Lib.hid ((HP7.out.below hb).more hb.size)
              clear hacc HRL7 HP7

              have HS8 := Lib.hid (show Doc18 w v8 q most bm S2 (l2.map (·.p)) l2 A2 m2 c2 ∧ BlkT v8 (bm :: S2) xA 39 (ac18 x) from ⟨HD8.out, HX8.out⟩)
              clear hb
              go_simp
              refine hK _ _ _ (fun _ h => h) HS8.out ?_
              clear hK K HS8
              have hky := keys14_calls B7 B8 n7 d7 d8 k7 v8 HPP8.out HP8.out (by have := HKL7.out; omega)
              unfold Yes14 at hky
              have HKY := Lib.hid hky
              clear hky
              repeat first
                | refine seq_pure (v := ?_) rfl (by rfl) (fun W hW => ?_) ?_
                  rotate_left
                  · have r0 : W.cell? ⟨bm, 0, none⟩ = some (.slice A2 m2 c2) := hW.1.blk.blk.cell 0
                    have r1 : W.cell? ⟨bm, 1, none⟩ = some (.int .i64 (most : Int)) := hW.1.blk.blk.cell 1
                    have y18 : W.cell? ⟨xA, 18, none⟩ = some (.int .i64 x.now) := hW.2.blk.cell 18
                    clear hW
                    go_simp
                    with_reducible rfl
                  simp only [Act.put, List.setIfInBounds_toArray, List.set_cons_zero, List.set_cons_succ]
                | refine seq_skip rfl (by rfl) ?_
                  simp only [Act.put, List.setIfInBounds_toArray, List.set_cons_zero, List.set_cons_succ]
              refine seq_make rfl (by rfl) (fun K hK => ?_)
              go_simp
              ((with_reducible refine (HKY.out).mono ?_))
              rintro e v9 ⟨rfl, hb⟩
              have HD9 := Lib.hid (HD8.out.below hb)
              have HX9 := Lib.hid (HX8.out.below hb)
              clear HD8 HX8
              clear HPP8 HP8 HKY HNK7 HKL7
              have HS9 := Lib.hid (show Doc18 w v9 q most bm S2 (l2.map (·.p)) l2 A2 m2 c2 ∧ BlkT v9 (bm :: S2) xA 39 (ac18 x) from ⟨HD9.out, HX9.out⟩)
              clear hb
              go_simp
              refine hK _ _ _ (fun _ h => h) HS9.out ?_
              clear hK K HS9
              obtain ⟨kA, hkA⟩ : ∃ kA, laps18 (l2.map (·.p)) x.now = kA := ⟨_, rfl⟩
              have HKLA := Lib.hid (show kA.length ≤ 64 by have h0 := laps18_len (l2.map (·.p)) x.now; rw [hkA, List.length_map] at h0; have := HLN.out; omega)
              have hlt := lapsed18c_calls q most (l2.map (·.p)) S2 x.now v9 HD9.out.st.p
              have hrl := fun (W : World) (hR : Row ssc W W.heap.size A2 m2 l2) => rlaps18_calls A2 m2 c2 most l2 x.now W hR (by have := HLN.out; omega)
              rw [hkA] at hlt hrl
              unfold Kys18 at hlt hrl
              have HLTA := Lib.hid hlt
              have HRLA := Lib.hid hrl
              obtain ⟨nA, hnA⟩ : ∃ nA, kA.length = nA := ⟨_, rfl⟩
              have HNKA := Lib.hid hnA
              rw [hnA] at HLTA HRLA HKLA
              clear hlt hrl hkA hnA
              repeat first
                | refine seq_pure (v := ?_) rfl (by rfl) (fun W hW => ?_) ?_
                  rotate_left
                  · have r0 : W.cell? ⟨bm, 0, none⟩ = some (.slice A2 m2 c2) := hW.1.blk.blk.cell 0
                    have r1 : W.cell? ⟨bm, 1, none⟩ = some (.int .i64 (most : Int)) := hW.1.blk.blk.cell 1
                    have y18 : W.cell? ⟨xA, 18, none⟩ = some (.int .i64 x.now) := hW.2.blk.cell 18
                    clear hW
                    go_simp
                    with_reducible rfl
                  simp only [Act.put, List.setIfInBounds_toArray, List.set_cons_zero, List.set_cons_succ]
                | refine seq_skip rfl (by rfl) ?_
                  simp only [Act.put, List.setIfInBounds_toArray, List.set_cons_zero, List.set_cons_succ]
              refine seq_make rfl (by rfl) (fun K hK => ?_)
              go_simp
              ((with_reducible refine (HLTA.out).mono ?_))
              rintro e vA ⟨BA, dA, rfl, hacc, hb⟩
              have HDA := Lib.hid (HD9.out.below hb)
              have HXA := Lib.hid (HX9.out.below hb)
              clear HD9 HX9
              have HPA := Lib.hid (show Row kyc vA vA.heap.size BA nA kA by have := hacc.row; rw [HNKA.out] at this; exact this)
              clear hacc HLTA

              have HSA := Lib.hid (show Doc18 w vA q most bm S2 (l2.map (·.p)) l2 A2 m2 c2 ∧ BlkT vA (bm :: S2) xA 39 (ac18 x) from ⟨HDA.out, HXA.out⟩)
              clear hb
              go_simp
              refine hK _ _ _ (fun _ h => h) HSA.out ?_
              clear hK K HSA
              repeat first
                | refine seq_pure (v := ?_) rfl (by rfl) (fun W hW => ?_) ?_
                  rotate_left
                  · have r0 : W.cell? ⟨bm, 0, none⟩ = some (.slice A2 m2 c2) := hW.1.blk.blk.cell 0
                    have r1 : W.cell? ⟨bm, 1, none⟩ = some (.int .i64 (most : Int)) := hW.1.blk.blk.cell 1
                    have y18 : W.cell? ⟨xA, 18, none⟩ = some (.int .i64 x.now) := hW.2.blk.cell 18
                    clear hW
                    go_simp
                    with_reducible rfl
                  simp only [Act.put, List.setIfInBounds_toArray, List.set_cons_zero, List.set_cons_succ]
                | refine seq_skip rfl (by rfl) ?_
                  simp only [Act.put, List.setIfInBounds_toArray, List.set_cons_zero, List.set_cons_succ]
              refine seq_make rfl (by rfl) (fun K hK => ?_)
              go_simp
              ((with_reducible refine (HRLA.out _ HDA.out.row.row).mono ?_))
              rintro e vB ⟨BB, dB, rfl, hacc, hb⟩
              have HDB := Lib.hid (HDA.out.below hb)
              have HXB := Lib.hid (HXA.out.below hb)
              clear HDA HXA
              have HPB := Lib.hid (show Row kyc vB vB.heap.size BB nA kA by have := hacc.row; rw [HNKA.out] at this; exact this)
              have HPPB := Lib.hid ((HPA.out.below hb).more hb.size)
              clear hacc HRLA HPA

              have HSB := Lib.hid (show Doc18 w vB q most bm S2 (l2.map (·.p)) l2 A2 m2 c2 ∧ BlkT vB (bm :: S2) xA 39 (ac18 x) from ⟨HDB.out, HXB.out⟩)
              clear hb
              go_simp
              refine hK _ _ _ (fun _ h => h) HSB.out ?_
              clear hK K HSB
              have hky := keys14_calls BA BB nA dA dB kA vB HPPB.out HPB.out (by have := HKLA.out; omega)
              unfold Yes14 at hky
              have HKY := Lib.hid hky
              clear hky
              repeat first
                | refine seq_pure (v := ?_) rfl (by rfl) (fun W hW => ?_) ?_
                  rotate_left
                  · have r0 : W.cell? ⟨bm, 0, none⟩ = some (.slice A2 m2 c2) := hW.1.blk.blk.cell 0
                    have r1 : W.cell? ⟨bm, 1, none⟩ = some (.int .i64 (most : Int)) := hW.1.blk.blk.cell 1
                    have y18 : W.cell? ⟨xA, 18, none⟩ = some (.int .i64 x.now) := hW.2.blk.cell 18
                    clear hW
                    go_simp
                    with_reducible rfl
                  simp only [Act.put, List.setIfInBounds_toArray, List.set_cons_zero, List.set_cons_succ]
                | refine seq_skip rfl (by rfl) ?_
                  simp only [Act.put, List.setIfInBounds_toArray, List.set_cons_zero, List.set_cons_succ]
              refine seq_make rfl (by rfl) (fun K hK => ?_)
              go_simp
              ((with_reducible refine (HKY.out).mono ?_))
              rintro e vC ⟨rfl, hb⟩
              have HDC := Lib.hid (HDB.out.below hb)
              have HXC := Lib.hid (HXB.out.below hb)
              clear HDB HXB
              clear HPPB HPB HKY HNKA HKLA
              have HSC := Lib.hid (show Doc18 w vC q most bm S2 (l2.map (·.p)) l2 A2 m2 c2 ∧ BlkT vC (bm :: S2) xA 39 (ac18 x) from ⟨HDC.out, HXC.out⟩)
              clear hb
              go_simp
              refine hK _ _ _ (fun _ h => h) HSC.out ?_
              clear hK K HSC
              repeat first
                | refine seq_pure (v := ?_) rfl (by rfl) (fun W hW => ?_) ?_
                  rotate_left
                  · have r0 : W.cell? ⟨bm, 0, none⟩ = some (.slice A2 m2 c2) := hW.1.blk.blk.cell 0
                    have r1 : W.cell? ⟨bm, 1, none⟩ = some (.int .i64 (most : Int)) := hW.1.blk.blk.cell 1
                    have y18 : W.cell? ⟨xA, 18, none⟩ = some (.int .i64 x.now) := hW.2.blk.cell 18
                    clear hW
                    go_simp
                    with_reducible rfl
                  simp only [Act.put, List.setIfInBounds_toArray, List.set_cons_zero, List.set_cons_succ]
                | refine seq_skip rfl (by rfl) ?_
                  simp only [Act.put, List.setIfInBounds_toArray, List.set_cons_zero, List.set_cons_succ]
              refine seq_done ?_
              clear HS0
              go_wp2_with fail
              go_roundw
              case rel => exact ⟨i + 1, l2, S2, A2, m2, c2, by have := HI.out; omega, by have := HI.out; omega, by first | rfl | (simp; omega), HDC, HRT⟩
              case measure => have := HI.out; simp [intOf]; omega
        · have i2 : ¬ (i : Int) < 80 := by omega
          clear h1 h2
          go_wp2_with fail
          go_ret
          exact ⟨rfl, HD.out.st.bel⟩
      · have i1 : ¬ (i : Int) < (n : Int) := by omega
        clear h1
        go_wp2_with fail
        go_ret
        exact ⟨rfl, HD.out.st.bel⟩
  · have HSZ := Lib.hid hsz
    have HNN := Lib.hid (new18_none size hsz)
    obtain ⟨s, hs⟩ : ∃ s : Bool, decide (1 ≤ size) = s := ⟨_, rfl⟩
    obtain ⟨t, ht⟩ : ∃ t : Bool, decide (size ≤ 64) = t := ⟨_, rfl⟩
    cases s with
    | true =>
      have s1 : 1 ≤ size := of_decide_eq_true hs
      have s2 : ¬ size ≤ 64 := fun h => hsz ⟨s1, h⟩
      clear hs ht hsz
      go_enter Try.func3, Try.ntmps3
      go_wp2_with fail
      ((with_reducible refine (HAL.out _).mono ?_))
      rintro e w2 ⟨rfl, b1⟩
      have B1 := Lib.hid b1
      clear b1 HAL
      go_wp2_with fail
      ((with_reducible refine (HNN.out w2).mono ?_))
      rintro e w3 ⟨rfl, rfl⟩
      clear HNN
      have bz := bel_new (Below.refl w3.heap.size w3) (.cells #[.slice none 0 0, .int .i64 0] 28)
      have BZ := Lib.hid (show Blk (w3.alloc (.cells #[.slice none 0 0, .int .i64 0] 28)) w3.heap.size 28 (tbc18 none 0 0 0) from Blk.new w3 28 (tbc18 none 0 0 0))
      have HBZ := Lib.hid bz
      clear bz
      have HO1 := Lib.hid (show ∀ u ∈ ([.slice none 0 0, .int .i64 size] : List Value), u.oneCell' = true by intro u hu; simp at hu; rcases hu with rfl | rfl <;> rfl)
      have HI1 := Lib.hid (show (Try.prog.info? 28).map (·.size) = some ([.slice none 0 0, .int .i64 size] : List Value).length from infoTb18 none 0 0 0)
      go_upto_region 7 with ((with_reducible refine step_store (o := ⟨none, _, _, _, _, _⟩) (vs := [.slice none 0 0, .int .i64 size]) (ty := 28) (x := .tmp 6) (y := .tmp 31) ?_ ?_ ?_ ?_ BZ.out HI1.out rfl HO1.out ?_); (rfl); (rfl); (rfl); (rfl); intro w4 hb5 hg5 hs5)
      have HB4 := Lib.hid (B1.out.trans ((show Below w3.heap.size w3 w4 from bel_upd HBZ.out hg5 (Nat.le_refl _) (Nat.le_refl _)).mono B1.out.size))
      clear hb5 hg5 hs5 BZ HBZ
      generalize w3.heap.size = bm at *
      go_wp2_with fail
      go_loopw [7] (fun u W => u = .int .i64 0 ∧ Hid (Below w.heap.size w W)) (fun u W => 0)
      case atStart => exact ⟨rfl, HB4⟩
      case round =>
        obtain ⟨rfl, HB⟩ := hrel
        go_wp2_with fail
        go_ret
        exact ⟨rfl, HB.out⟩
    | false =>
      have s1 : ¬ 1 ≤ size := of_decide_eq_false hs
      clear hs ht hsz
      go_enter Try.func3, Try.ntmps3
      go_wp2_with fail
      ((with_reducible refine (HAL.out _).mono ?_))
      rintro e w2 ⟨rfl, b1⟩
      have B1 := Lib.hid b1
      clear b1 HAL
      go_wp2_with fail
      ((with_reducible refine (HNN.out w2).mono ?_))
      rintro e w3 ⟨rfl, rfl⟩
      clear HNN
      have bz := bel_new (Below.refl w3.heap.size w3) (.cells #[.slice none 0 0, .int .i64 0] 28)
      have BZ := Lib.hid (show Blk (w3.alloc (.cells #[.slice none 0 0, .int .i64 0] 28)) w3.heap.size 28 (tbc18 none 0 0 0) from Blk.new w3 28 (tbc18 none 0 0 0))
      have HBZ := Lib.hid bz
      clear bz
      have HO1 := Lib.hid (show ∀ u ∈ ([.slice none 0 0, .int .i64 size] : List Value), u.oneCell' = true by intro u hu; simp at hu; rcases hu with rfl | rfl <;> rfl)
      have HI1 := Lib.hid (show (Try.prog.info? 28).map (·.size) = some ([.slice none 0 0, .int .i64 size] : List Value).length from infoTb18 none 0 0 0)
      go_upto_region 7 with ((with_reducible refine step_store (o := ⟨none, _, _, _, _, _⟩) (vs := [.slice none 0 0, .int .i64 size]) (ty := 28) (x := .tmp 6) (y := .tmp 31) ?_ ?_ ?_ ?_ BZ.out HI1.out rfl HO1.out ?_); (rfl); (rfl); (rfl); (rfl); intro w4 hb5 hg5 hs5)
      have HB4 := Lib.hid (B1.out.trans ((show Below w3.heap.size w3 w4 from bel_upd HBZ.out hg5 (Nat.le_refl _) (Nat.le_refl _)).mono B1.out.size))
      clear hb5 hg5 hs5 BZ HBZ
      generalize w3.heap.size = bm at *
      go_wp2_with fail
      go_loopw [7] (fun u W => u = .int .i64 0 ∧ Hid (Below w.heap.size w W)) (fun u W => 0)
      case atStart => exact ⟨rfl, HB4⟩
      case round =>
        obtain ⟨rfl, HB⟩ := hrel
        go_wp2_with fail
        go_ret
        exact ⟨rfl, HB.out⟩
end Go.Proofs.Ytogijfebfffobaa
