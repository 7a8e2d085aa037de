/-
  The law SoftPuts, walked: for any calls and any state the answer is true, and nothing that was there has turned. Condition: none.
-/
import Derived.Test.YtogijfebfffobaaSoftTimeW
import Derived.Deep.CutBlock
namespace Go.Proofs.Ytogijfebfffobaa
set_option maxRecDepth 100000
set_option linter.unusedVariables false
open Go.RowKit

/-- Rows of states beside a table, with their routes. -/
structure Sds18 (w : World) (S : List Nat) (A : Option Addr) (n : Nat) (ls : List Ss) : Prop where
  row : RowT ssc w S A n ls
  rts : ∀ s ∈ ls, RowT ei w S s.a s.n s.p.rt ∧ s.n ≤ 1000
section
variable {w w' : World} {S S' : List Nat} {A : Option Addr} {n : Nat} {ls : List Ss}
theorem Sds18.mv (h : Sds18 w S A n ls) (hm : Mv14 S w S' w') : Sds18 w' S' A n ls := ⟨h.row.mv hm, fun s hs => ⟨(h.rts s hs).1.mv hm, (h.rts s hs).2⟩⟩
theorem Sds18.below (h : Sds18 w S A n ls) (hb : Below w.heap.size w w') : Sds18 w' S A n ls := h.mv (Mv14.of_below hb)
theorem Sds18.of {base c : Nat} (hlt : ∀ b ∈ S, b < base) (h : AccR ssc 17 w base 40 A c ls) (hs : Sts18 w base ls) (hm : ∀ s ∈ ls, may18 s.p = true) : Sds18 w S A ls.length ls :=
  ⟨RowT.of_acc hlt h h.row, fun s hx => ⟨RowT.of_acc hlt (hs s hx).1 (hs.row hx), by have := may18_len (hm s hx); have := (hs s hx).2; omega⟩⟩
theorem Sds18.rows (h : Sds18 w S A n ls) : ∀ s ∈ ls, Row ei w w.heap.size s.a s.n s.p.rt ∧ s.n ≤ maxLen := fun s hs => ⟨(h.rts s hs).1.row, by have := (h.rts s hs).2; unfold maxLen; omega⟩
end
theorem put_got18 {l : List Sp} (hs : Srt18 Sp.k l) (s : Sp) (hm : may18 s = true) (hl : l.length < 64) : cput18 64 l s = (put18 Sp.k l s, 0) := by
  unfold cput18
  rw [if_neg (by rw [hm]; simp), if_neg (fun h => by have := h.2; omega)]
theorem put_has18 {l : List Sp} (hs : Srt18 Sp.k l) (s : Sp) : cdrop18 (put18 Sp.k l s) s.k = (drp18 Sp.k (put18 Sp.k l s) s.k, 0) := by
  unfold cdrop18
  rw [if_pos (by rw [has18_get, get18_put hs]; rfl)]
set_option maxHeartbeats 25600000 in
theorem puts18_walk (a : Option Addr) (n c : Nat) (s : Ss) (w0 : World) (hn : n ≤ maxLen) (hs0 : Lies18 w0 s) (h : ∃ es, Row ac18 w0 w0.heap.size a n es ∧ ∀ x ∈ es, Lies18 w0 x.s) :
    Calls Try.prog 6 #[.slice a n c, .agg (ssc s).toArray] w0 fun e w' => e = .returned (.bool true) ∧ Below w0.heap.size w0 w' := by
  obtain ⟨es, hr, hok⟩ := h
  unfold maxLen at hn
  have bz := bel_new (Below.refl w0.heap.size w0) (.cells (ssc s).toArray 37)
  have HBX := Lib.hid (Blk.new w0 37 (ssc s))
  have HL0 := Lib.hid bz
  have HOK := Lib.hid (fun x hx => (hok x hx).below bz)
  have HR := Lib.hid ((hr.below bz).more bz.size)
  have HSL := Lib.hid (hs0.below bz)
  have hal := fun W => alive18_calls W
  unfold Yes14 at hal
  have HAL := Lib.hid hal
  have HIN := Lib.hid (fun s : Ss => (show (Try.prog.info? 40).map (·.size) = some (ssc s).length from infoSsC))
  have HIR := Lib.hid (fun s : Ss => (show (Try.prog.info? 37).map (·.size) = some (ssc s).length from infoSsR))
  have HIZ := Lib.hid (fun s : Ss => (show (Try.prog.info? 37).map (fun i => (i.zero, i.size, i.bytes)) = some (some zss, (ssc s).length, 144) from infoSsZR))
  have HON := Lib.hid ssc_one
  clear hok hr hal bz hs0
  go_enter Try.func6, Try.ntmps6
  go_upto_region 1 with fail
  generalize (w0.alloc (.cells (ssc s).toArray 37)) = w at *
  go_wp2_with fail
  ((with_reducible refine (HAL.out _).mono ?_))
  rintro e w2 ⟨rfl, b1⟩
  have B1 := Lib.hid b1
  clear b1 HAL
  go_wp2_with fail
  ((with_reducible refine (new18_all w2).mono ?_))
  intro e w3 hnew
  obtain ⟨q, S, rfl, st⟩ := St18.start B1.out hnew
  have ST := Lib.hid st
  clear st hnew B1
  go_upto_block 0 with fail
  go_cut [6] from 25 to 50 (fun s W => ∃ (l : List Sp) (S : List Nat), Hid (l.length ≤ 40) ∧ Hid (St18 w W q 64 l S))
  case first =>
    go_wp2_with fail
    go_loopw [6] (fun u W => ∃ (i : Nat) (l : List Sp) (S : List Nat), i ≤ n ∧ i ≤ 40 ∧ u = .int .i64 (i : Int) ∧ Hid (l.length ≤ i) ∧ Hid (St18 w W q 64 l S)) (fun u W => 40 - (intOf u).toNat)
    case atStart => exact ⟨0, [], S, Nat.zero_le _, Nat.zero_le _, rfl, Lib.hid (Nat.le_refl _), ST⟩
    case round =>
      clear ST
      obtain ⟨i, l, S1, hin, hi80, rfl, HLN, HS⟩ := hrel
      by_cases h1 : i < n
      · have i1 : (i : Int) < (n : Int) := by omega
        by_cases h2 : i < 40
        · have i2 : (i : Int) < 40 := by omega
          obtain ⟨b, o, x, rfl, hx, hbb, hc⟩ := row_cells ac18_length HR.out h1
          have HXO := Lib.hid (HOK.out x (List.mem_of_getElem? hx))
          have HC := Lib.hid (fun W (hW : Below w.heap.size w W) => hc W hW)
          have HI := Lib.hid (And.intro h1 h2)
          have i3 : IntKind.i64.wrap ((i : Int) + 1) = ((i + 1 : Nat) : Int) := by rw [IntWalk.i64_in _ (by omega)]; omega
          have i0 : ¬ (i : Int) < 0 := by omega
          have x11 : wr.cell? ⟨b, o + i * 19 + 11, none⟩ = some (.slice x.s.a x.s.n x.s.c) := hc wr HS.out.bel 11 _ rfl
          clear hx hbb hc h1 h2 hin hi80
          by_cases hrl : x.s.n ≤ 1000
          · have j1 : (x.s.n : Int) ≤ 1000 := by omega
            have HRL := Lib.hid hrl
            have HX := Lib.hid (act_s18 (W := wr) (b := b) (k := o + i * 19) (x := x) (fun j v hv => HC.out wr HS.out.bel j v hv))
            have HTH := Lib.hid theirs18_calls
            have HPT := Lib.hid (fun W (hS : St18 w W q 64 l S1) => put18c_calls q 64 l S1 x.s W hS.p ((HXO.out.1.below hS.bel).more hS.bel.size) (by omega))
            clear hrl
            go_wp2_with (refine step_load_at (o := ⟨some 48, _, _, _, _, _⟩) rfl rfl rfl HX.out Try.underlying37 rfl (HIR.out _) ?_)
            ((with_reducible refine (HTH.out _ _).mono ?_))
            rintro e w4 ⟨rfl, hb⟩
            have HS4 := Lib.hid (HS.out.below hb)
            have hpt := HPT.out w4 HS4.out
            unfold Prt18 at hpt
            have HP := Lib.hid hpt
            have HLL := Lib.hid (show (cput18 64 l x.s.p).1.length ≤ i + 1 by
              have := HLN.out
              unfold cput18
              split
              · show l.length ≤ i + 1; omega
              · split
                · show l.length ≤ i + 1; omega
                · show (put18 Sp.k l x.s.p).length ≤ i + 1
                  rw [put18_len HS4.out.p.tbl.srt]
                  split <;> omega)
            clear hb HS HTH HPT x11 HX hpt
            go_wp2_with fail
            ((with_reducible refine HP.out.mono ?_))
            rintro e w5 ⟨S2, rfl, hp, hm⟩
            have HS5 := Lib.hid (HS4.out.mv hp hm)
            clear hp hm HS4 HP
            go_wp2_with fail
            go_roundw
            case rel => exact ⟨i + 1, _, S2, by have := HI.out; omega, by have := HI.out; omega, by first | rfl | (simp; omega), HLL, HS5⟩
            case measure => have := HI.out; simp [intOf]; omega
          · have j1 : ¬ (x.s.n : Int) ≤ 1000 := by omega
            clear hrl
            go_wp2_with fail
            go_roundw
            case rel => exact ⟨i + 1, l, S1, by have := HI.out; omega, by have := HI.out; omega, by first | rfl | (simp; omega), Lib.hid (by have := HLN.out; omega), HS⟩
            case measure => have := HI.out; simp [intOf]; omega
        · have i2 : ¬ (i : Int) < 40 := by omega
          have HM := Lib.hid (And.intro hi80 h2)
          clear h1 h2
          go_wp2_with fail
          go_meet
          exact ⟨l, S1, Lib.hid (by have := HLN.out; have := HM.out; omega), HS⟩
      · have i1 : ¬ (i : Int) < (n : Int) := by omega
        have HM := Lib.hid hi80
        clear h1
        go_wp2_with fail
        go_meet
        exact ⟨l, S1, Lib.hid (by have := HLN.out; have := HM.out; omega), HS⟩
  case rest =>
    obtain ⟨l, S1, HLN, HS⟩ := hcut
    clear ST HR HOK
    have HFIN := Lib.hid (fun W (hW : Below w.heap.size w W) => HL0.out.trans (hW.mono HL0.out.size))
    have x10 : wc.cell? ⟨w0.heap.size, 10, none⟩ = some (.slice s.a s.n s.c) := (HBX.out.below HS.out.bel).cell 10
    by_cases hbig : 1000 < s.n
    · have g0 : (1000 : Int) < (s.n : Int) := by omega
      clear hbig
      go_wp2_with fail
      go_ret
      exact ⟨rfl, HFIN.out _ HS.out.bel⟩
    · have g0 : ¬ (1000 : Int) < (s.n : Int) := by omega
      have HBG := Lib.hid hbig
      clear hbig
      have hall := all18_calls q 64 l S1 wc HS.out.p
      unfold All18 at hall
      have HA := Lib.hid hall
      have HLT := Lib.hid HS.out.p.lt
      have HTB := Lib.hid HS.out.p.tbl
      clear hall
      go_wp2_with fail
      ((with_reducible refine HA.out.mono ?_))
      rintro e w6 ⟨la, A6, c6, rfl, hmap, hacc, hsts, hb⟩
      have HS6 := Lib.hid (HS.out.below hb)
      have HM1 := Lib.hid hmap
      have HD6 := Lib.hid (Sds18.of HLT.out hacc hsts (fun y hy => HTB.out.may y.p (by rw [← hmap]; exact List.mem_map.2 ⟨y, hy, rfl⟩)))
      clear hmap hacc hsts hb HS HA HLT x10
      -- the state is put
      have HTH := Lib.hid theirs18_calls
      have HB6 := Lib.hid (HBX.out.below HS6.out.bel)
      go_wp2_with ((with_reducible refine step_load (o := ⟨some 58, _, _, _, _, _⟩) (x := .tmp 3) ?_ ?_ ?_ HB6.out Try.underlying37 ?_ (HIR.out _) ?_); (rfl); (rfl); (rfl); (rfl))
      ((with_reducible refine (HTH.out _ _).mono ?_))
      rintro e w7 ⟨rfl, hb⟩
      have HS7 := Lib.hid (HS6.out.below hb)
      have HD7 := Lib.hid (HD6.out.below hb)
      clear hb HS6 HD6 HTH HB6
      have hpt := put18c_calls q 64 l S1 s w7 HS7.out.p ((HSL.out.1.below HS7.out.bel).more HS7.out.bel.size) (by have := HBG.out; omega)
      unfold Prt18 at hpt
      have HP := Lib.hid hpt
      clear hpt
      go_wp2_with fail
      ((with_reducible refine HP.out.mono ?_))
      rintro e w8 ⟨S2, rfl, hp, hm⟩
      have HS8 := Lib.hid (HS7.out.mv hp hm)
      have HD8 := Lib.hid (HD7.out.mv hm)
      clear hp hm HS7 HD7 HP
      obtain ⟨R, hR⟩ : ∃ R, cput18 64 l s.p = R := ⟨_, rfl⟩
      rw [hR] at HS8
      rw [hR]
      have HRR := Lib.hid hR
      clear hR
      have hall := all18_calls q 64 R.1 S2 w8 HS8.out.p
      unfold All18 at hall
      have HA := Lib.hid hall
      have HLT := Lib.hid HS8.out.p.lt
      have HT2 := Lib.hid HS8.out.p.tbl
      clear hall
      go_wp2_with fail
      ((with_reducible refine HA.out.mono ?_))
      rintro e w9 ⟨lb, A9, c9, rfl, hmap, hacc, hsts, hb⟩
      have HS9 := Lib.hid (HS8.out.below hb)
      have HD9 := Lib.hid (HD8.out.below hb)
      have HM2 := Lib.hid hmap
      have HE9 := Lib.hid (Sds18.of HLT.out hacc hsts (fun y hy => HT2.out.may y.p (by rw [← hmap]; exact List.mem_map.2 ⟨y, hy, rfl⟩)))
      clear hmap hacc hsts hb HS8 HD8 HA HLT
      have HLA := Lib.hid (show la.length = l.length by rw [← HM1.out, List.length_map])
      cases hmy : may18 s.p with
      | false =>
        have hr : R = (l, 2) := by rw [← HRR.out]; unfold cput18; rw [if_pos hmy]
        subst hr
        simp only at HM2 HS9
        have HLB := Lib.hid (show lb.length = la.length by rw [HLA.out, ← HM2.out, List.length_map])
        have e2 : ((2 : Int) != 0) = true := by simp
        have hl1 := list18_calls A6 la.length c6 la w9 HD9.out.row.row (by have := HLA.out; have := HLN.out; omega)
        unfold Lst18 at hl1
        have HL1 := Lib.hid hl1
        have HMY := Lib.hid hmy
        clear hl1 hmy
        go_wp2_with fail
        ((with_reducible refine HL1.out.mono ?_))
        rintro e v1 ⟨A11, c11, rfl, hacc, hb⟩
        have HSa := Lib.hid (HS9.out.below hb)
        have HDa := Lib.hid (HD9.out.below hb)
        have HEa := Lib.hid (HE9.out.below hb)
        have HRa := Lib.hid hacc.row
        clear hacc hb HS9 HD9 HE9 HL1
        have hl2 := list18_calls A9 lb.length c9 lb v1 HEa.out.row.row (by have := HLB.out; have := HLA.out; have := HLN.out; omega)
        unfold Lst18 at hl2
        have HL2 := Lib.hid hl2
        clear hl2
        go_wp2_with fail
        ((with_reducible refine HL2.out.mono ?_))
        rintro e v2 ⟨A12, c12, rfl, hacc, hb⟩
        have HSb := Lib.hid (HSa.out.below hb)
        have HDb := Lib.hid (HDa.out.below hb)
        have HEb := Lib.hid (HEa.out.below hb)
        have HRb := Lib.hid ((HRa.out.below hb).more hb.size)
        have HRc := Lib.hid hacc.row
        clear hacc hb HSa HDa HEa HRa HL2
        have hal := rall18_calls A11 A12 la.length c11 c12 la lb v2 HRb.out (by rw [← HLB.out]; exact HRc.out) (by have := HLA.out; have := HLN.out; omega) (by rw [HM1.out, HM2.out]) HDb.out.rows (fun y hy => (HEb.out.rows y hy).1)
        unfold Yes14 at hal
        rw [HLB.out]
        have HAL := Lib.hid hal
        clear hal
        go_wp2_with fail
        ((with_reducible refine HAL.out.mono ?_))
        rintro e v3 ⟨rfl, hb⟩
        have HSc := Lib.hid (HSb.out.below hb)
        clear hb HSb HDb HEb HRb HRc HAL
        have HBv := Lib.hid (HBX.out.below HSc.out.bel)
        have hmr := rmay18_calls s v3 ((HSL.out.1.below HSc.out.bel).more HSc.out.bel.size) HSL.out.2.1 HSL.out.2.2
        rw [HMY.out] at hmr
        unfold Yes14 at hmr
        have HMR := Lib.hid hmr
        clear hmr
        go_wp2_with ((with_reducible refine step_load_want (o := ⟨some 71, _, _, _, _, _⟩) (x := .tmp 3) ?_ ?_ ?_ HBv.out Try.underlying37 ?_ (HIR.out _) ?_); (rfl); (rfl); (rfl); (rfl))
        ((with_reducible refine HMR.out.mono ?_))
        rintro e v4 ⟨rfl, hb⟩
        have HSd := Lib.hid (HSc.out.below hb)
        clear hb HSc HMR
        go_wp2_with fail
        go_ret
        exact ⟨rfl, HFIN.out _ HSd.out.bel⟩
      | true =>
        have hr : R = (put18 Sp.k l s.p, 0) := by rw [← HRR.out]; exact put_got18 HTB.out.srt s.p hmy (by have := HLN.out; omega)
        subst hr
        simp only at HM2 HS9
        have e2 : ((0 : Int) != 0) = false := by simp
        have HBv := Lib.hid (HBX.out.below HS9.out.bel)
        have k0 : w9.cell? ⟨w0.heap.size, 0, none⟩ = some (.int .i64 s.p.k.tail) := HBv.out.cell 0
        have k1 : w9.cell? ⟨w0.heap.size, 1, none⟩ = some (.int .i64 s.p.k.tun) := HBv.out.cell 1
        have k2 : w9.cell? ⟨w0.heap.size, 2, none⟩ = some (.int .i64 s.p.k.head) := HBv.out.cell 2
        have k3 : w9.cell? ⟨w0.heap.size, 3, none⟩ = some (.int .i64 s.p.k.lsp) := HBv.out.cell 3
        have hgt := get18_calls q 64 (put18 Sp.k l s.p) S2 s.p.k w9 HS9.out.p
        rw [get18_put HTB.out.srt] at hgt
        unfold Got18 at hgt
        have HG := Lib.hid hgt
        clear hgt
        go_wp2_with fail
        ((with_reducible refine HG.out.mono ?_))
        rintro e v1 ⟨sg, rfl, hgp, hgn, hga, hb⟩
        simp only [Option.getD_some] at hgp
        have HSa := Lib.hid (HS9.out.below hb)
        have HDa := Lib.hid (HD9.out.below hb)
        have HEa := Lib.hid (HE9.out.below hb)
        have HGP := Lib.hid (And.intro hgp (show sg.n = s.n by rw [hgn, hgp, HSL.out.1.1]))
        have HGR := Lib.hid (show Row ei v1 v1.heap.size sg.a sg.n sg.p.rt by have := AccR.row hga; rw [← hgn] at this; exact this)
        clear hgp hgn hga hb HS9 HD9 HE9 HG HBv k0 k1 k2 k3
        have hge : gerr18 (some s.p) = 0 := rfl
        rw [hge]
        clear hge
        -- into a variable
        have bz := bel_new (Below.refl v1.heap.size v1) (.cells #[.int .i64 0, .int .i64 0, .int .i64 0, .int .i64 0, .int .u64 0, .int .i64 0, .int .i64 0, .int .u32 0, .int .u32 0, .int .u32 0, .slice none 0 0, .int .i64 0, .int .i64 0, .int .i64 0, .int .i64 0, .int .i64 0, .int .i64 0] 40)
        have BZ := Lib.hid (show BlkT (v1.alloc (.cells #[.int .i64 0, .int .i64 0, .int .i64 0, .int .i64 0, .int .u64 0, .int .i64 0, .int .i64 0, .int .u32 0, .int .u32 0, .int .u32 0, .slice none 0 0, .int .i64 0, .int .i64 0, .int .i64 0, .int .i64 0, .int .i64 0, .int .i64 0] 40)) S2 v1.heap.size 40 (ssc z18) from HSa.out.newb 40 (ssc z18))
        have Pz := Lib.hid (HSa.out.below bz)
        have HBZ := Lib.hid bz
        have HGE := Lib.hid HSa.out.bel.size
        clear bz
        go_upto_region 19 with ((with_reducible refine step_store (o := ⟨none, _, _, _, _, _⟩) (vs := ssc sg) (ty := 40) (x := .tmp 10) (y := .tmp 80) ?_ ?_ ?_ ?_ BZ.out.blk (HIN.out _) rfl (HON.out _) ?_); (rfl); (rfl); (rfl); (rfl); intro v2 hb5 hg5 hs5)
        have hbv : Below v1.heap.size v1 v2 := bel_upd HBZ.out hg5 (Nat.le_refl _) (Nat.le_refl _)
        have HSb := Lib.hid (Pz.out.stored hg5 BZ.out.off HGE.out)
        have VX := Lib.hid (BlkT.mk hb5 BZ.out.off)
        have HDb := Lib.hid (HDa.out.below hbv)
        have HEb := Lib.hid (HEa.out.below hbv)
        have HGS := Lib.hid ((HGR.out.below hbv).more hbv.size)
        clear hb5 hg5 hs5 hbv BZ Pz HBZ HGE HSa HDa HEa HGR
        generalize v1.heap.size = qX at *
        have HS0 := Lib.hid (show Blk v2.drew qX 40 (ssc sg) ∧ Blk v2.drew w0.heap.size 37 (ssc s) from ⟨VX.out.blk.drew, (HBX.out.below HSb.out.bel).drew⟩)
        have e3 : ((0 : Int) != 0) = false := by simp
        have HOU := Lib.hid ours18_calls
        have hbd : Below v2.heap.size v2 v2.drew := (Below.refl _ _).drew
        have HSc := Lib.hid (HSb.out.below hbd)
        have HDc := Lib.hid (HDb.out.below hbd)
        have HEc := Lib.hid (HEb.out.below hbd)
        have VXc := Lib.hid (VX.out.below hbd)
        have HGt := Lib.hid (show Row ei v2.drew v2.drew.heap.size sg.a sg.n sg.p.rt from (HGS.out.below hbd).more hbd.size)
        clear hbd HSb HDb HEb VX HGS
        go_wp2_with fail
        refine region_seq (fun W => Blk W qX 40 (ssc sg) ∧ Blk W w0.heap.size 37 (ssc s)) [(0, true), (1, true), (2, true), (3, true), (5, true), (4, false), (6, false), (7, true), (8, true), (9, true), (10, true), (11, true), (12, true), (13, false), (14, true), (15, true)] (by kernel_rfl) (by kernel_rfl) (by kernel_rfl) (by kernel_rfl) (fun _ _ _ _ _ h => h) HS0.out ?_
        repeat first
          | refine seq_load8 (x := .tmp 10) rfl (by rfl) rfl rfl (fun W hW => hW.1) Try.underlying40 rfl (HIN.out _) ?_
            simp only [Act.put, List.setIfInBounds_toArray, List.set_cons_zero, List.set_cons_succ]
          | refine seq_load8 (x := .tmp 3) rfl (by rfl) rfl rfl (fun W hW => hW.2) Try.underlying37 rfl (HIR.out _) ?_
            simp only [Act.put, List.setIfInBounds_toArray, List.set_cons_zero, List.set_cons_succ]
          | refine seq_pure (v := ?_) rfl (by rfl) (fun W hW => ?_) ?_
            rotate_left
            · have k0 : W.cell? ⟨w0.heap.size, 0, none⟩ = some (.int .i64 s.p.k.tail) := hW.2.cell 0
              have k1 : W.cell? ⟨w0.heap.size, 1, none⟩ = some (.int .i64 s.p.k.tun) := hW.2.cell 1
              have k2 : W.cell? ⟨w0.heap.size, 2, none⟩ = some (.int .i64 s.p.k.head) := hW.2.cell 2
              have k3 : W.cell? ⟨w0.heap.size, 3, none⟩ = some (.int .i64 s.p.k.lsp) := hW.2.cell 3
              clear hW
              go_simp
              with_reducible rfl
            simp only [Act.put, List.setIfInBounds_toArray, List.set_cons_zero, List.set_cons_succ]
          | refine seq_skip rfl (by rfl) ?_
            simp only [Act.put, List.setIfInBounds_toArray, List.set_cons_zero, List.set_cons_succ]
        refine seq_make rfl (by rfl) (fun K hK => ?_)
        go_simp
        ((with_reducible refine (HOU.out _ _).mono ?_))
        rintro e v3 ⟨rfl, hb⟩
        have HSd := Lib.hid (HSc.out.below hb)
        have HDd := Lib.hid (HDc.out.below hb)
        have HEd := Lib.hid (HEc.out.below hb)
        have VXd := Lib.hid (VXc.out.below hb)
        clear HSc HDc HEc VXc
        have HGu := Lib.hid ((HGt.out.below hb).more hb.size)
        have HSq := Lib.hid (show Blk v3 qX 40 (ssc sg) ∧ Blk v3 w0.heap.size 37 (ssc s) from ⟨VXd.out.blk, HBX.out.below HSd.out.bel⟩)
        clear hb HGt
        go_simp
        refine hK _ _ _ (fun _ h => h) HSq.out ?_
        clear hK K
        refine seq_make rfl (by rfl) (fun K hK => ?_)
        go_simp
        have hsm := rsame18_calls sg s v3 HGP.out.1 HGP.out.2 HGu.out ((HSL.out.1.below HSd.out.bel).more HSd.out.bel.size) (by rw [HGP.out.2]; exact HSL.out.2.1)
        unfold Yes14 at hsm
        ((with_reducible refine hsm.mono ?_))
        rintro e v4 ⟨rfl, hb⟩
        have HSe := Lib.hid (HSd.out.below hb)
        have HDe := Lib.hid (HDd.out.below hb)
        have HEe := Lib.hid (HEd.out.below hb)
        have VXe := Lib.hid (VXd.out.below hb)
        clear HSd HDd HEd VXd
        have HSr := Lib.hid (show Blk v4 qX 40 (ssc sg) ∧ Blk v4 w0.heap.size 37 (ssc s) from ⟨VXe.out.blk, HBX.out.below HSe.out.bel⟩)
        clear hb HGu HSq hsm
        go_simp
        refine hK _ _ _ (fun _ h => h) HSr.out ?_
        clear hK K
        repeat first
          | refine seq_load8 (x := .tmp 10) rfl (by rfl) rfl rfl (fun W hW => hW.1) Try.underlying40 rfl (HIN.out _) ?_
            simp only [Act.put, List.setIfInBounds_toArray, List.set_cons_zero, List.set_cons_succ]
          | refine seq_load8 (x := .tmp 3) rfl (by rfl) rfl rfl (fun W hW => hW.2) Try.underlying37 rfl (HIR.out _) ?_
            simp only [Act.put, List.setIfInBounds_toArray, List.set_cons_zero, List.set_cons_succ]
          | refine seq_pure (v := ?_) rfl (by rfl) (fun W hW => ?_) ?_
            rotate_left
            · have k0 : W.cell? ⟨w0.heap.size, 0, none⟩ = some (.int .i64 s.p.k.tail) := hW.2.cell 0
              have k1 : W.cell? ⟨w0.heap.size, 1, none⟩ = some (.int .i64 s.p.k.tun) := hW.2.cell 1
              have k2 : W.cell? ⟨w0.heap.size, 2, none⟩ = some (.int .i64 s.p.k.head) := hW.2.cell 2
              have k3 : W.cell? ⟨w0.heap.size, 3, none⟩ = some (.int .i64 s.p.k.lsp) := hW.2.cell 3
              clear hW
              go_simp
              with_reducible rfl
            simp only [Act.put, List.setIfInBounds_toArray, List.set_cons_zero, List.set_cons_succ]
          | refine seq_skip rfl (by rfl) ?_
            simp only [Act.put, List.setIfInBounds_toArray, List.set_cons_zero, List.set_cons_succ]
        refine seq_make rfl (by rfl) (fun K hK => ?_)
        go_simp
        have hdc := drop18c_calls q 64 (put18 Sp.k l s.p) S2 s.p.k v4 HSe.out.p
        rw [put_has18 HTB.out.srt, drp18_put HTB.out.srt] at hdc
        unfold Prt18 at hdc
        ((with_reducible refine hdc.mono ?_))
        rintro e v5 ⟨S3, rfl, hp, hm⟩
        have HSf := Lib.hid (HSe.out.mv hp hm)
        have HDf := Lib.hid (HDe.out.mv hm)
        have HEf := Lib.hid (HEe.out.mv hm)
        have VXf := Lib.hid (VXe.out.mv hm)
        clear HSe HDe HEe VXe
        have HSs := Lib.hid (show Blk v5 qX 40 (ssc sg) ∧ Blk v5 w0.heap.size 37 (ssc s) from ⟨VXf.out.blk, HBX.out.below HSf.out.bel⟩)
        clear hp hm hdc HSr
        go_simp
        refine hK _ _ _ (fun _ h => h) HSs.out ?_
        clear hK K
        repeat first
          | refine seq_load8 (x := .tmp 10) rfl (by rfl) rfl rfl (fun W hW => hW.1) Try.underlying40 rfl (HIN.out _) ?_
            simp only [Act.put, List.setIfInBounds_toArray, List.set_cons_zero, List.set_cons_succ]
          | refine seq_load8 (x := .tmp 3) rfl (by rfl) rfl rfl (fun W hW => hW.2) Try.underlying37 rfl (HIR.out _) ?_
            simp only [Act.put, List.setIfInBounds_toArray, List.set_cons_zero, List.set_cons_succ]
          | refine seq_pure (v := ?_) rfl (by rfl) (fun W hW => ?_) ?_
            rotate_left
            · have k0 : W.cell? ⟨w0.heap.size, 0, none⟩ = some (.int .i64 s.p.k.tail) := hW.2.cell 0
              have k1 : W.cell? ⟨w0.heap.size, 1, none⟩ = some (.int .i64 s.p.k.tun) := hW.2.cell 1
              have k2 : W.cell? ⟨w0.heap.size, 2, none⟩ = some (.int .i64 s.p.k.head) := hW.2.cell 2
              have k3 : W.cell? ⟨w0.heap.size, 3, none⟩ = some (.int .i64 s.p.k.lsp) := hW.2.cell 3
              clear hW
              go_simp
              with_reducible rfl
            simp only [Act.put, List.setIfInBounds_toArray, List.set_cons_zero, List.set_cons_succ]
          | refine seq_skip rfl (by rfl) ?_
            simp only [Act.put, List.setIfInBounds_toArray, List.set_cons_zero, List.set_cons_succ]
        refine seq_done ?_
        clear HSs HS0 e3 e2 HOU HGP VXf
        simp only at HSf
        -- what was there, without the key
        have HLB := Lib.hid (show lb.length ≤ 41 by
          have h1 : lb.length = (put18 Sp.k l s.p).length := by rw [← HM2.out, List.length_map]
          rw [h1, put18_len HTB.out.srt]
          have := HLN.out
          split <;> omega)
        have hl1 := list18_calls A6 la.length c6 la v5 HDf.out.row.row (by have := HLA.out; have := HLN.out; omega)
        unfold Lst18 at hl1
        have HL1 := Lib.hid hl1
        clear hl1
        go_wp2_with fail
        ((with_reducible refine HL1.out.mono ?_))
        rintro e v6 ⟨A13, c13, rfl, hacc, hb⟩
        have HSg := Lib.hid (HSf.out.below hb)
        have HDg := Lib.hid (HDf.out.below hb)
        have HEg := Lib.hid (HEf.out.below hb)
        have HRg := Lib.hid hacc.row
        clear hacc hb HSf HDf HEf HL1
        obtain ⟨N, hN⟩ : ∃ N, la.length = N := ⟨_, rfl⟩
        rw [hN] at HRg
        rw [hN]
        have HNN := Lib.hid hN
        have HN40 := Lib.hid (show N ≤ 40 by rw [← hN]; have := HLA.out; have := HLN.out; omega)
        clear hN
        go_wp2_with fail
        go_loopw [12, 101] (fun s1 u W => ∃ (i m : Nat) (A2 : Option Addr) (c2 : Nat) (lr : List Ss), i ≤ N ∧ s1 = .slice A2 m c2 ∧ u = .int .i64 (i : Int) ∧ Hid (lr.length = m ∧ m ≤ i) ∧ Hid (drp18 kf18 (la.take i) s.p.k = lr) ∧ Hid (AccR ssc 17 W v6.heap.size 37 A2 c2 lr) ∧ Hid (Below v6.heap.size v6 W)) (fun s1 u W => N - (intOf u).toNat)
        case atStart => exact ⟨0, 0, none, 0, [], Nat.zero_le _, rfl, rfl, Lib.hid ⟨rfl, Nat.le_refl _⟩, Lib.hid rfl, Lib.hid (AccR.nil _ _ _), Lib.hid (Below.refl _ _)⟩
        case round =>
          obtain ⟨i, m, A2, c2, lr, hi, rfl, rfl, HM, HP, HA, HB⟩ := hrel
          by_cases hin : i < N
          · have i1 : (i : Int) < (N : Int) := by omega
            obtain ⟨b, o, x, rfl, hx, hbb, hc⟩ := row_key18 HRg.out hin
            have HX := Lib.hid (hc wr HB.out)
            have HDS := Lib.hid (drp18_snoc hx s.p.k)
            have HI := Lib.hid hin
            have i3 : IntKind.i64.wrap ((i : Int) + 1) = ((i + 1 : Nat) : Int) := by rw [IntWalk.i64_in _ (by have := HI.out; have := HN40.out; omega)]; omega
            clear hx hbb hc hin hi
            have bz := bel_new (Below.refl wr.heap.size wr) (.cells #[.int .i64 0, .int .i64 0, .int .i64 0, .int .i64 0, .int .u64 0, .int .i64 0, .int .i64 0, .int .u32 0, .int .u32 0, .int .u32 0, .slice none 0 0, .int .i64 0, .int .i64 0, .int .i64 0, .int .i64 0, .int .i64 0, .int .i64 0] 37)
            have BZ := Lib.hid (show Blk (wr.alloc (.cells #[.int .i64 0, .int .i64 0, .int .i64 0, .int .i64 0, .int .u64 0, .int .i64 0, .int .i64 0, .int .u32 0, .int .u32 0, .int .u32 0, .slice none 0 0, .int .i64 0, .int .i64 0, .int .i64 0, .int .i64 0, .int .i64 0, .int .i64 0] 37)) wr.heap.size 37 (ssc z18) from Blk.new wr _ (ssc z18))
            have HBZ := Lib.hid bz
            clear bz
            go_upto_region 25 with (first | (refine step_load_at (o := ⟨some 104, _, _, _, _, _⟩) rfl rfl rfl HX.out Try.underlying37 rfl (HIR.out _) ?_) | ((with_reducible refine step_store (o := ⟨none, _, _, _, _, _⟩) (vs := ssc x) (ty := 37) (x := .tmp 15) (y := .tmp 104) ?_ ?_ ?_ ?_ BZ.out (HIR.out _) rfl (HON.out _) ?_); (rfl); (rfl); (rfl); (rfl); intro v7 hb5 hg5 hs5))
            have VB := Lib.hid hb5
            have hv : Below wr.heap.size wr v7 := bel_upd HBZ.out hg5 (Nat.le_refl _) (Nat.le_refl _)
            have HVB := Lib.hid hv
            clear hb5 hg5 hs5 BZ HBZ hv
            have HA7 := Lib.hid (HA.out.bel HVB.out)
            have HB7 := Lib.hid (HB.out.trans (HVB.out.mono HB.out.size))
            clear HA HB HVB HX
            obtain ⟨d, hd⟩ : ∃ d, decide (x.p.k = s.p.k) = d := ⟨_, rfl⟩
            have hek := fun W => (eq_ky x.p.k s.p.k W).2
            rw [hd] at hek
            have HDD := Lib.hid hd
            clear hd
            have x0 : v7.cell? ⟨wr.heap.size, 0, none⟩ = some (.int .i64 x.p.k.tail) := VB.out.cell 0
            have x1 : v7.cell? ⟨wr.heap.size, 1, none⟩ = some (.int .i64 x.p.k.tun) := VB.out.cell 1
            have x2 : v7.cell? ⟨wr.heap.size, 2, none⟩ = some (.int .i64 x.p.k.head) := VB.out.cell 2
            have x3 : v7.cell? ⟨wr.heap.size, 3, none⟩ = some (.int .i64 x.p.k.lsp) := VB.out.cell 3
            have HBk := Lib.hid (HBX.out.below (HSg.out.bel.trans (HB7.out.mono HSg.out.bel.size)))
            have k0 : v7.cell? ⟨w0.heap.size, 0, none⟩ = some (.int .i64 s.p.k.tail) := HBk.out.cell 0
            have k1 : v7.cell? ⟨w0.heap.size, 1, none⟩ = some (.int .i64 s.p.k.tun) := HBk.out.cell 1
            have k2 : v7.cell? ⟨w0.heap.size, 2, none⟩ = some (.int .i64 s.p.k.head) := HBk.out.cell 2
            have k3 : v7.cell? ⟨w0.heap.size, 3, none⟩ = some (.int .i64 s.p.k.lsp) := HBk.out.cell 3
            cases d with
            | true =>
              simp only [Bool.not_true] at hek
              go_wp2_with fail
              go_roundw
              case rel => exact ⟨i + 1, m, A2, c2, lr, HI.out, rfl, by first | rfl | (simp; omega), Lib.hid ⟨HM.out.1, by have := HM.out.2; omega⟩, Lib.hid (by rw [HDS.out, if_pos (of_decide_eq_true HDD.out)]; exact HP.out), HA7, HB7⟩
              case measure => have := HI.out; simp [intOf]; omega
            | false =>
              simp only [Bool.not_false] at hek
              obtain ⟨A7, c7, w7, hrun, hacc7, hg7⟩ := accr_push (P := Try.prog) (ty := 26) ssc_length ssc_one (by omega) HA7.out x Try.underlying26 infoSsZR rfl HB7.out.size (by have := HM.out; have := HI.out; have := HN40.out; omega) (by have := HM.out; have := HI.out; have := HN40.out; omega)
              rw [HM.out.1] at hrun
              have HRUN := Lib.hid hrun
              have HA8 := Lib.hid hacc7
              have HB8 := Lib.hid (show Below v6.heap.size v6 w7 from belr_acc HB7.out HA7.out hg7)
              clear hrun hacc7 hg7
              go_wp2_with (first | ((with_reducible refine step_load (o := ⟨some 111, _, _, _, _, _⟩) (x := .tmp 15) ?_ ?_ ?_ VB.out Try.underlying37 ?_ (HIR.out _) ?_); (rfl); (rfl); (rfl); (rfl)) | (refine step_build18 (o := ⟨some 112, _, _, _, _, _⟩) (x := .tmp 111) (vs := ssc x) rfl rfl rfl Try.underlying26 (HIZ.out _) (by rw [ssc_length]; decide) (by rw [ssc_length]; decide) ?_) | (at_builtin; refine step_append (o := ⟨some 113, _, _, _, _, _⟩) rfl rfl rfl rfl HRUN.out ?_))
              go_roundw
              case rel => exact ⟨i + 1, m + 1, A7, c7, lr ++ [x], HI.out, rfl, by first | rfl | (simp; omega), Lib.hid ⟨by rw [List.length_append, HM.out.1]; rfl, by have := HM.out.2; omega⟩, Lib.hid (by rw [HDS.out, if_neg (of_decide_eq_false HDD.out), HP.out]), HA8, HB8⟩
              case measure => have := HI.out; simp [intOf]; omega
          · have i1 : ¬ (i : Int) < (N : Int) := by omega
            obtain rfl : i = N := by omega
            have hp := HP.out
            rw [List.take_of_length_le (by rw [HNN.out]; exact Nat.le_refl _)] at hp
            have HRS := Lib.hid hp
            have HSh := Lib.hid (HSg.out.below HB.out)
            have HDh := Lib.hid (HDg.out.below HB.out)
            have HEh := Lib.hid (HEg.out.below HB.out)
            have HRh := Lib.hid HA.out.row
            have HML := Lib.hid HM.out
            clear hin hi hp HSg HDg HEg HRg HA HB HP HM
            generalize wr = y0 at *
            rw [HML.out.1] at HRh
            have hl1 := list18_calls A9 lb.length c9 lb y0 HEh.out.row.row (by have := HLB.out; omega)
            unfold Lst18 at hl1
            have HL1 := Lib.hid hl1
            clear hl1
            go_wp2_with fail
            ((with_reducible refine HL1.out.mono ?_))
            rintro e y1 ⟨A14, c14, rfl, hacc, hb⟩
            have HSi := Lib.hid (HSh.out.below hb)
            have HDi := Lib.hid (HDh.out.below hb)
            have HEi := Lib.hid (HEh.out.below hb)
            have HRi := Lib.hid ((HRh.out.below hb).more hb.size)
            have HRj := Lib.hid hacc.row
            clear hacc hb HSh HDh HEh HRh HL1
            obtain ⟨N2, hN2⟩ : ∃ N2, lb.length = N2 := ⟨_, rfl⟩
            rw [hN2] at HRj HEi HLB
            rw [hN2]
            have HNN2 := Lib.hid hN2
            clear hN2
            go_wp2_with fail
            go_loopw [13, 118] (fun s1 u W => ∃ (i m : Nat) (A2 : Option Addr) (c2 : Nat) (lr : List Ss), i ≤ N2 ∧ s1 = .slice A2 m c2 ∧ u = .int .i64 (i : Int) ∧ Hid (lr.length = m ∧ m ≤ i) ∧ Hid (drp18 kf18 (lb.take i) s.p.k = lr) ∧ Hid (AccR ssc 17 W y1.heap.size 37 A2 c2 lr) ∧ Hid (Below y1.heap.size y1 W)) (fun s1 u W => N2 - (intOf u).toNat)
            case atStart => exact ⟨0, 0, none, 0, [], Nat.zero_le _, rfl, rfl, Lib.hid ⟨rfl, Nat.le_refl _⟩, Lib.hid rfl, Lib.hid (AccR.nil _ _ _), Lib.hid (Below.refl _ _)⟩
            case round =>
              obtain ⟨j, m3, A3, c3, lr3, hj, rfl, rfl, HM, HP, HA, HB⟩ := hrel
              by_cases hjn : j < N2
              · have i1 : (j : Int) < (N2 : Int) := by omega
                obtain ⟨b, o, x, rfl, hx, hbb, hc⟩ := row_key18 HRj.out hjn
                have HX := Lib.hid (hc wr HB.out)
                have HDS := Lib.hid (drp18_snoc hx s.p.k)
                have HI := Lib.hid hjn
                have HXJ := Lib.hid hx
                have i3 : IntKind.i64.wrap ((j : Int) + 1) = ((j + 1 : Nat) : Int) := by rw [IntWalk.i64_in _ (by have := HI.out; have := HLB.out; omega)]; omega
                clear hx hbb hc hjn hj
                have bz := bel_new (Below.refl wr.heap.size wr) (.cells #[.int .i64 0, .int .i64 0, .int .i64 0, .int .i64 0, .int .u64 0, .int .i64 0, .int .i64 0, .int .u32 0, .int .u32 0, .int .u32 0, .slice none 0 0, .int .i64 0, .int .i64 0, .int .i64 0, .int .i64 0, .int .i64 0, .int .i64 0] 37)
                have BZ := Lib.hid (show Blk (wr.alloc (.cells #[.int .i64 0, .int .i64 0, .int .i64 0, .int .i64 0, .int .u64 0, .int .i64 0, .int .i64 0, .int .u32 0, .int .u32 0, .int .u32 0, .slice none 0 0, .int .i64 0, .int .i64 0, .int .i64 0, .int .i64 0, .int .i64 0, .int .i64 0] 37)) wr.heap.size 37 (ssc z18) from Blk.new wr _ (ssc z18))
                have HBZ := Lib.hid bz
                clear bz
                go_upto_region 31 with (first | (refine step_load_at (o := ⟨some 122, _, _, _, _, _⟩) rfl rfl rfl HX.out Try.underlying37 rfl (HIR.out _) ?_) | ((with_reducible refine step_store (o := ⟨none, _, _, _, _, _⟩) (vs := ssc x) (ty := 37) (x := .tmp 17) (y := .tmp 122) ?_ ?_ ?_ ?_ BZ.out (HIR.out _) rfl (HON.out _) ?_); (rfl); (rfl); (rfl); (rfl); intro v7 hb5 hg5 hs5))
                have VB := Lib.hid hb5
                have hv : Below wr.heap.size wr v7 := bel_upd HBZ.out hg5 (Nat.le_refl _) (Nat.le_refl _)
                have HVB := Lib.hid hv
                clear hb5 hg5 hs5 BZ HBZ hv
                have HA7 := Lib.hid (HA.out.bel HVB.out)
                have HB7 := Lib.hid (HB.out.trans (HVB.out.mono HB.out.size))
                have HS0 := Lib.hid (show Below v7.heap.size v7 v7.drew from (Below.refl _ _).drew)
                clear HA HB HVB HX
                by_cases hj0 : j = 0
                · have g1 : decide ((0 : Int) < (j : Int)) = false := decide_eq_false (by omega)
                  have g1n : decide (0 < j) = false := decide_eq_false (by omega)
                  clear hj0
                  go_wp2_with fail
                  refine region_seq (fun W => Below v7.heap.size v7 W) [(0, true), (1, true), (2, true), (3, true), (4, true), (5, true), (6, true), (7, true), (8, true), (9, true), (10, true), (11, false), (12, true), (13, true)] (by kernel_rfl) (by kernel_rfl) (by kernel_rfl) (by kernel_rfl) (fun _ _ _ _ _ h => h) HS0.out ?_
                  repeat first
                    | refine seq_pure (v := ?_) rfl (by rfl) (fun W hW => ?_) ?_
                      rotate_left
                      · clear hW
                        go_simp
                        with_reducible rfl
                      simp only [Act.put, List.setIfInBounds_toArray, List.set_cons_zero, List.set_cons_succ]
                    | refine seq_skip rfl (by rfl) ?_
                      simp only [Act.put, List.setIfInBounds_toArray, List.set_cons_zero, List.set_cons_succ]
                  refine seq_unmake14 rfl (by rfl) HS0.out ?_
                  simp only [Act.put, List.setIfInBounds_toArray, List.set_cons_zero, List.set_cons_succ]
                  repeat first
                    | refine seq_pure (v := ?_) rfl (by rfl) (fun W hW => ?_) ?_
                      rotate_left
                      · clear hW
                        go_simp
                        with_reducible rfl
                      simp only [Act.put, List.setIfInBounds_toArray, List.set_cons_zero, List.set_cons_succ]
                    | refine seq_skip rfl (by rfl) ?_
                      simp only [Act.put, List.setIfInBounds_toArray, List.set_cons_zero, List.set_cons_succ]
                  refine seq_done ?_
                  generalize v7.drew = v8 at *
                  have HS6 := HS0
                  clear HS0 g1 g1n
                  have HA8 := Lib.hid (HA7.out.bel HS6.out)
                  have HB8 := Lib.hid (HB7.out.trans (HS6.out.mono HB7.out.size))
                  have VB8 := Lib.hid (VB.out.below HS6.out)
                  clear HA7 HB7 VB HS6 i1
                  obtain ⟨d, hd⟩ : ∃ d, decide (x.p.k = s.p.k) = d := ⟨_, rfl⟩
                  have hek := fun W => (eq_ky x.p.k s.p.k W).2
                  rw [hd] at hek
                  have HDD := Lib.hid hd
                  clear hd
                  have x0 : v8.cell? ⟨wr.heap.size, 0, none⟩ = some (.int .i64 x.p.k.tail) := VB8.out.cell 0
                  have x1 : v8.cell? ⟨wr.heap.size, 1, none⟩ = some (.int .i64 x.p.k.tun) := VB8.out.cell 1
                  have x2 : v8.cell? ⟨wr.heap.size, 2, none⟩ = some (.int .i64 x.p.k.head) := VB8.out.cell 2
                  have x3 : v8.cell? ⟨wr.heap.size, 3, none⟩ = some (.int .i64 x.p.k.lsp) := VB8.out.cell 3
                  have HBk := Lib.hid (HBX.out.below (HSi.out.bel.trans (HB8.out.mono HSi.out.bel.size)))
                  have k0 : v8.cell? ⟨w0.heap.size, 0, none⟩ = some (.int .i64 s.p.k.tail) := HBk.out.cell 0
                  have k1 : v8.cell? ⟨w0.heap.size, 1, none⟩ = some (.int .i64 s.p.k.tun) := HBk.out.cell 1
                  have k2 : v8.cell? ⟨w0.heap.size, 2, none⟩ = some (.int .i64 s.p.k.head) := HBk.out.cell 2
                  have k3 : v8.cell? ⟨w0.heap.size, 3, none⟩ = some (.int .i64 s.p.k.lsp) := HBk.out.cell 3
                  cases d with
                  | true =>
                    simp only [Bool.not_true] at hek
                    go_wp2_with fail
                    go_roundw
                    case rel => exact ⟨j + 1, m3, A3, c3, lr3, HI.out, rfl, by first | rfl | (simp; omega), Lib.hid ⟨HM.out.1, by have := HM.out.2; omega⟩, Lib.hid (by rw [HDS.out, if_pos (of_decide_eq_true HDD.out)]; exact HP.out), HA8, HB8⟩
                    case measure => have := HI.out; simp [intOf]; omega
                  | false =>
                    simp only [Bool.not_false] at hek
                    obtain ⟨A7, c7, w7, hrun, hacc7, hg7⟩ := accr_push (P := Try.prog) (ty := 26) ssc_length ssc_one (by omega) HA8.out x Try.underlying26 infoSsZR rfl HB8.out.size (by have := HM.out; have := HI.out; have := HLB.out; omega) (by have := HM.out; have := HI.out; have := HLB.out; omega)
                    rw [HM.out.1] at hrun
                    have HRUN := Lib.hid hrun
                    have HA9 := Lib.hid hacc7
                    have HB9 := Lib.hid (show Below y1.heap.size y1 w7 from belr_acc HB8.out HA8.out hg7)
                    clear hrun hacc7 hg7
                    go_wp2_with (first | ((with_reducible refine step_load (o := ⟨some 143, _, _, _, _, _⟩) (x := .tmp 17) ?_ ?_ ?_ VB8.out Try.underlying37 ?_ (HIR.out _) ?_); (rfl); (rfl); (rfl); (rfl)) | (refine step_build18 (o := ⟨some 144, _, _, _, _, _⟩) (x := .tmp 143) (vs := ssc x) rfl rfl rfl Try.underlying26 (HIZ.out _) (by rw [ssc_length]; decide) (by rw [ssc_length]; decide) ?_) | (at_builtin; refine step_append (o := ⟨some 145, _, _, _, _, _⟩) rfl rfl rfl rfl HRUN.out ?_))
                    go_roundw
                    case rel => exact ⟨j + 1, m3 + 1, A7, c7, lr3 ++ [x], HI.out, rfl, by first | rfl | (simp; omega), Lib.hid ⟨by rw [List.length_append, HM.out.1]; rfl, by have := HM.out.2; omega⟩, Lib.hid (by rw [HDS.out, if_neg (of_decide_eq_false HDD.out), HP.out]), HA9, HB9⟩
                    case measure => have := HI.out; simp [intOf]; omega
                · have g1 : decide ((0 : Int) < (j : Int)) = true := decide_eq_true (by omega)
                  have g1n : decide (0 < j) = true := decide_eq_true (by omega)
                  obtain ⟨m4, hm4⟩ : ∃ m4, j = m4 + 1 := ⟨j - 1, by omega⟩
                  have g2 : IntKind.i64.wrap ((j : Int) - 1) = (m4 : Int) := by rw [IntWalk.i64_in _ (by have := HI.out; have := HLB.out; omega)]; omega
                  have g3 : (m4 : Int) < (N2 : Int) := by have := HI.out; omega
                  have g4 : ¬ (m4 : Int) < 0 := by omega
                  obtain ⟨b2, o2, y, rfl, hy, hbb2, hc2⟩ := row_key18 (i := m4) HEi.out.row.row (by have := HI.out; omega)
                  have hss := srt18_put HTB.out.srt s.p
                  rw [← HM2.out, srt18_map] at hss
                  have hbe : kBef y.p.k x.p.k = true := by
                    obtain ⟨p1, p2⟩ := List.getElem?_eq_some_iff.1 hy
                    obtain ⟨p3, p4⟩ := List.getElem?_eq_some_iff.1 HXJ.out
                    have := List.pairwise_iff_getElem.1 hss m4 j p1 p3 (by omega)
                    rw [p2, p4] at this
                    exact this
                  have hbf := fun W => rbefore14_calls y.p.k x.p.k W
                  rw [hbe] at hbf
                  unfold Yes14 at hbf
                  have HBF := Lib.hid hbf
                  have HC2 := Lib.hid (fun W (hW : Below v7.heap.size v7 W) => hc2 W (HB7.out.trans (hW.mono HB7.out.size)))
                  clear hj0 hm4 hss hbe hbf hy hbb2 hc2
                  go_wp2_with fail
                  refine region_seq (fun W => Below v7.heap.size v7 W) [(0, true), (1, true), (2, true), (3, true), (4, true), (5, true), (6, true), (7, true), (8, true), (9, true), (10, true), (11, false), (12, true), (13, true)] (by kernel_rfl) (by kernel_rfl) (by kernel_rfl) (by kernel_rfl) (fun _ _ _ _ _ h => h) HS0.out ?_
                  repeat first
                    | refine seq_pure (v := ?_) rfl (by rfl) (fun W hW => ?_) ?_
                      rotate_left
                      · have k0 : W.cell? ⟨wr.heap.size, 0, none⟩ = some (.int .i64 x.p.k.tail) := (VB.out.below hW).cell 0
                        have k1 : W.cell? ⟨wr.heap.size, 1, none⟩ = some (.int .i64 x.p.k.tun) := (VB.out.below hW).cell 1
                        have k2 : W.cell? ⟨wr.heap.size, 2, none⟩ = some (.int .i64 x.p.k.head) := (VB.out.below hW).cell 2
                        have k3 : W.cell? ⟨wr.heap.size, 3, none⟩ = some (.int .i64 x.p.k.lsp) := (VB.out.below hW).cell 3
                        have z0 : W.cell? ⟨b2, o2 + m4 * 17, none⟩ = some (.int .i64 y.p.k.tail) := HC2.out W hW 0 _ rfl
                        have z1 : W.cell? ⟨b2, o2 + m4 * 17 + 1, none⟩ = some (.int .i64 y.p.k.tun) := HC2.out W hW 1 _ rfl
                        have z2 : W.cell? ⟨b2, o2 + m4 * 17 + 2, none⟩ = some (.int .i64 y.p.k.head) := HC2.out W hW 2 _ rfl
                        have z3 : W.cell? ⟨b2, o2 + m4 * 17 + 3, none⟩ = some (.int .i64 y.p.k.lsp) := HC2.out W hW 3 _ rfl
                        clear hW
                        go_simp
                        with_reducible rfl
                      simp only [Act.put, List.setIfInBounds_toArray, List.set_cons_zero, List.set_cons_succ]
                    | refine seq_skip rfl (by rfl) ?_
                      simp only [Act.put, List.setIfInBounds_toArray, List.set_cons_zero, List.set_cons_succ]
                  refine seq_make rfl (by rfl) (fun K hK => ?_)
                  go_simp
                  ((with_reducible refine (HBF.out _).mono ?_))
                  rintro e v8 ⟨rfl, hb⟩
                  have HS6 := Lib.hid (show Below v7.heap.size v7 v8 from below_of_drew hb)
                  clear hb
                  go_simp
                  refine hK _ v8 _ (fun _ h => h) HS6.out ?_
                  clear hK K
                  repeat first
                    | refine seq_pure (v := ?_) rfl (by rfl) (fun W hW => ?_) ?_
                      rotate_left
                      · have k0 : W.cell? ⟨wr.heap.size, 0, none⟩ = some (.int .i64 x.p.k.tail) := (VB.out.below hW).cell 0
                        have k1 : W.cell? ⟨wr.heap.size, 1, none⟩ = some (.int .i64 x.p.k.tun) := (VB.out.below hW).cell 1
                        have k2 : W.cell? ⟨wr.heap.size, 2, none⟩ = some (.int .i64 x.p.k.head) := (VB.out.below hW).cell 2
                        have k3 : W.cell? ⟨wr.heap.size, 3, none⟩ = some (.int .i64 x.p.k.lsp) := (VB.out.below hW).cell 3
                        have z0 : W.cell? ⟨b2, o2 + m4 * 17, none⟩ = some (.int .i64 y.p.k.tail) := HC2.out W hW 0 _ rfl
                        have z1 : W.cell? ⟨b2, o2 + m4 * 17 + 1, none⟩ = some (.int .i64 y.p.k.tun) := HC2.out W hW 1 _ rfl
                        have z2 : W.cell? ⟨b2, o2 + m4 * 17 + 2, none⟩ = some (.int .i64 y.p.k.head) := HC2.out W hW 2 _ rfl
                        have z3 : W.cell? ⟨b2, o2 + m4 * 17 + 3, none⟩ = some (.int .i64 y.p.k.lsp) := HC2.out W hW 3 _ rfl
                        clear hW
                        go_simp
                        with_reducible rfl
                      simp only [Act.put, List.setIfInBounds_toArray, List.set_cons_zero, List.set_cons_succ]
                    | refine seq_skip rfl (by rfl) ?_
                      simp only [Act.put, List.setIfInBounds_toArray, List.set_cons_zero, List.set_cons_succ]
                  refine seq_done ?_
                  clear HS0 g1 g1n g2 g3 g4 HBF HC2
                  have HA8 := Lib.hid (HA7.out.bel HS6.out)
                  have HB8 := Lib.hid (HB7.out.trans (HS6.out.mono HB7.out.size))
                  have VB8 := Lib.hid (VB.out.below HS6.out)
                  clear HA7 HB7 VB HS6 i1
                  obtain ⟨d, hd⟩ : ∃ d, decide (x.p.k = s.p.k) = d := ⟨_, rfl⟩
                  have hek := fun W => (eq_ky x.p.k s.p.k W).2
                  rw [hd] at hek
                  have HDD := Lib.hid hd
                  clear hd
                  have x0 : v8.cell? ⟨wr.heap.size, 0, none⟩ = some (.int .i64 x.p.k.tail) := VB8.out.cell 0
                  have x1 : v8.cell? ⟨wr.heap.size, 1, none⟩ = some (.int .i64 x.p.k.tun) := VB8.out.cell 1
                  have x2 : v8.cell? ⟨wr.heap.size, 2, none⟩ = some (.int .i64 x.p.k.head) := VB8.out.cell 2
                  have x3 : v8.cell? ⟨wr.heap.size, 3, none⟩ = some (.int .i64 x.p.k.lsp) := VB8.out.cell 3
                  have HBk := Lib.hid (HBX.out.below (HSi.out.bel.trans (HB8.out.mono HSi.out.bel.size)))
                  have k0 : v8.cell? ⟨w0.heap.size, 0, none⟩ = some (.int .i64 s.p.k.tail) := HBk.out.cell 0
                  have k1 : v8.cell? ⟨w0.heap.size, 1, none⟩ = some (.int .i64 s.p.k.tun) := HBk.out.cell 1
                  have k2 : v8.cell? ⟨w0.heap.size, 2, none⟩ = some (.int .i64 s.p.k.head) := HBk.out.cell 2
                  have k3 : v8.cell? ⟨w0.heap.size, 3, none⟩ = some (.int .i64 s.p.k.lsp) := HBk.out.cell 3
                  cases d with
                  | true =>
                    simp only [Bool.not_true] at hek
                    go_wp2_with fail
                    go_roundw
                    case rel => exact ⟨j + 1, m3, A3, c3, lr3, HI.out, rfl, by first | rfl | (simp; omega), Lib.hid ⟨HM.out.1, by have := HM.out.2; omega⟩, Lib.hid (by rw [HDS.out, if_pos (of_decide_eq_true HDD.out)]; exact HP.out), HA8, HB8⟩
                    case measure => have := HI.out; simp [intOf]; omega
                  | false =>
                    simp only [Bool.not_false] at hek
                    obtain ⟨A7, c7, w7, hrun, hacc7, hg7⟩ := accr_push (P := Try.prog) (ty := 26) ssc_length ssc_one (by omega) HA8.out x Try.underlying26 infoSsZR rfl HB8.out.size (by have := HM.out; have := HI.out; have := HLB.out; omega) (by have := HM.out; have := HI.out; have := HLB.out; omega)
                    rw [HM.out.1] at hrun
                    have HRUN := Lib.hid hrun
                    have HA9 := Lib.hid hacc7
                    have HB9 := Lib.hid (show Below y1.heap.size y1 w7 from belr_acc HB8.out HA8.out hg7)
                    clear hrun hacc7 hg7
                    go_wp2_with (first | ((with_reducible refine step_load (o := ⟨some 143, _, _, _, _, _⟩) (x := .tmp 17) ?_ ?_ ?_ VB8.out Try.underlying37 ?_ (HIR.out _) ?_); (rfl); (rfl); (rfl); (rfl)) | (refine step_build18 (o := ⟨some 144, _, _, _, _, _⟩) (x := .tmp 143) (vs := ssc x) rfl rfl rfl Try.underlying26 (HIZ.out _) (by rw [ssc_length]; decide) (by rw [ssc_length]; decide) ?_) | (at_builtin; refine step_append (o := ⟨some 145, _, _, _, _, _⟩) rfl rfl rfl rfl HRUN.out ?_))
                    go_roundw
                    case rel => exact ⟨j + 1, m3 + 1, A7, c7, lr3 ++ [x], HI.out, rfl, by first | rfl | (simp; omega), Lib.hid ⟨by rw [List.length_append, HM.out.1]; rfl, by have := HM.out.2; omega⟩, Lib.hid (by rw [HDS.out, if_neg (of_decide_eq_false HDD.out), HP.out]), HA9, HB9⟩
                    case measure => have := HI.out; simp [intOf]; omega
              · have i1 : ¬ (j : Int) < (N2 : Int) := by omega
                obtain rfl : j = N2 := by omega
                have hp := HP.out
                rw [List.take_of_length_le (by rw [HNN2.out]; exact Nat.le_refl _)] at hp
                have HLL := Lib.hid (show lr.map (·.p) = lr3.map (·.p) by rw [← HRS.out, ← hp]; unfold kf18; rw [drp18_map (f := fun s : Ss => s.p), drp18_map (f := fun s : Ss => s.p), HM1.out, HM2.out, drp18_put HTB.out.srt])
                have HLD := Lib.hid (show lr.map (·.p) = drp18 Sp.k l s.p.k by rw [← HRS.out]; unfold kf18; rw [drp18_map (f := fun s : Ss => s.p), HM1.out])
                have HMM := Lib.hid (show m3 = m by have h0 := congrArg List.length HLL.out; rw [List.length_map, List.length_map, HML.out.1, HM.out.1] at h0; exact h0.symm)
                have HSj := Lib.hid (HSi.out.below HB.out)
                have HSa := Lib.hid (show ∀ y ∈ lr, y ∈ la by intro y hy; rw [← HRS.out] at hy; unfold drp18 at hy; exact (List.mem_filter.1 hy).1)
                have HSb := Lib.hid (show ∀ y ∈ lr3, y ∈ lb by intro y hy; rw [← hp] at hy; unfold drp18 at hy; exact (List.mem_filter.1 hy).1)
                have HDj := Lib.hid (HDi.out.below HB.out)
                have HEj := Lib.hid (HEi.out.below HB.out)
                have HRa := Lib.hid ((HRi.out.below HB.out).more HB.out.size)
                have HRb := Lib.hid HA.out.row
                have HM20 := Lib.hid (show m ≤ 1048576 by have := HML.out.2; have := HN40.out; omega)
                clear hj hjn hp HSi HDi HEi HRi HRj HA HB HP
                generalize wr = y2 at *
                rw [HM.out.1] at HRb
                obtain rfl := HMM.out
                have HBv := Lib.hid (HBX.out.below HSj.out.bel)
                have k0 : y2.cell? ⟨w0.heap.size, 0, none⟩ = some (.int .i64 s.p.k.tail) := HBv.out.cell 0
                have k1 : y2.cell? ⟨w0.heap.size, 1, none⟩ = some (.int .i64 s.p.k.tun) := HBv.out.cell 1
                have k2 : y2.cell? ⟨w0.heap.size, 2, none⟩ = some (.int .i64 s.p.k.head) := HBv.out.cell 2
                have k3 : y2.cell? ⟨w0.heap.size, 3, none⟩ = some (.int .i64 s.p.k.lsp) := HBv.out.cell 3
                have hgt := get18_calls q 64 (drp18 Sp.k l s.p.k) S3 s.p.k y2 HSj.out.p
                rw [get18_drop] at hgt
                unfold Got18 at hgt
                have HG := Lib.hid hgt
                clear hgt
                go_wp2_with fail
                ((with_reducible refine HG.out.mono ?_))
                rintro e v1 ⟨sg, rfl, hgp, hgn, hga, hb⟩
                clear hgp hgn hga
                have HSk := Lib.hid (HSj.out.below hb)
                have HDk := Lib.hid (HDj.out.below hb)
                have HEk := Lib.hid (HEj.out.below hb)
                have HRc := Lib.hid ((HRa.out.below hb).more hb.size)
                have HRd := Lib.hid ((HRb.out.below hb).more hb.size)
                clear hb HSj HDj HEj HRa HRb HG HBv k0 k1 k2 k3
                have hge : gerr18 (none : Option Sp) = 8 := rfl
                rw [hge]
                clear hge
                have bz := bel_new (Below.refl v1.heap.size v1) (.cells #[.int .i64 0, .int .i64 0, .int .i64 0, .int .i64 0, .int .u64 0, .int .i64 0, .int .i64 0, .int .u32 0, .int .u32 0, .int .u32 0, .slice none 0 0, .int .i64 0, .int .i64 0, .int .i64 0, .int .i64 0, .int .i64 0, .int .i64 0] 40)
                have BZ := Lib.hid (show Blk (v1.alloc (.cells #[.int .i64 0, .int .i64 0, .int .i64 0, .int .i64 0, .int .u64 0, .int .i64 0, .int .i64 0, .int .u32 0, .int .u32 0, .int .u32 0, .slice none 0 0, .int .i64 0, .int .i64 0, .int .i64 0, .int .i64 0, .int .i64 0, .int .i64 0] 40)) v1.heap.size 40 (ssc z18) from Blk.new v1 40 (ssc z18))
                have HBZ := Lib.hid bz
                clear bz
                go_upto_region 37 with ((with_reducible refine step_store (o := ⟨none, _, _, _, _, _⟩) (vs := ssc sg) (ty := 40) (x := .tmp 18) (y := .tmp 152) ?_ ?_ ?_ ?_ BZ.out (HIN.out _) rfl (HON.out _) ?_); (rfl); (rfl); (rfl); (rfl); intro v2 hb5 hg5 hs5)
                have hb : Below v1.heap.size v1 v2 := bel_upd HBZ.out hg5 (Nat.le_refl _) (Nat.le_refl _)
                have HSl := Lib.hid (HSk.out.below hb)
                have HDl := Lib.hid (HDk.out.below hb)
                have HEl := Lib.hid (HEk.out.below hb)
                have HRe := Lib.hid ((HRc.out.below hb).more hb.size)
                have HRf := Lib.hid ((HRd.out.below hb).more hb.size)
                clear hb hb5 hg5 hs5 BZ HBZ HSk HDk HEk HRc HRd
                have hal := rall18_calls A2 A3 m3 c2 c3 lr lr3 v2 HRe.out HRf.out HM20.out HLL.out (fun y hy => HDl.out.rows y (HSa.out y hy)) (fun y hy => (HEl.out.rows y (HSb.out y hy)).1)
                unfold Yes14 at hal
                have HAL := Lib.hid hal
                clear hal
                go_wp2_with fail
                ((with_reducible refine HAL.out.mono ?_))
                rintro e v3 ⟨rfl, hb⟩
                have HSm := Lib.hid (HSl.out.below hb)
                have HDm := Lib.hid (HDl.out.below hb)
                have HRg := Lib.hid ((HRe.out.below hb).more hb.size)
                clear hb HAL HSl HDl HEl HRe HRf
                have hall := all18_calls q 64 (drp18 Sp.k l s.p.k) S3 v3 HSm.out.p
                unfold All18 at hall
                have HA := Lib.hid hall
                have HLT := Lib.hid HSm.out.p.lt
                have HT3 := Lib.hid HSm.out.p.tbl
                clear hall
                go_wp2_with fail
                ((with_reducible refine HA.out.mono ?_))
                rintro e v4 ⟨lc, A15, c15, rfl, hmap, hacc, hsts, hb⟩
                have HSn := Lib.hid (HSm.out.below hb)
                have HDn := Lib.hid (HDm.out.below hb)
                have HRh := Lib.hid ((HRg.out.below hb).more hb.size)
                have HM3 := Lib.hid hmap
                have HFn := Lib.hid (Sds18.of HLT.out hacc hsts (fun y hy => HT3.out.may y.p (by rw [← hmap]; exact List.mem_map.2 ⟨y, hy, rfl⟩)))
                clear hmap hacc hsts hb HSm HDm HRg HA HLT HT3
                have HLC := Lib.hid (show lc.length = m3 by have h0 := congrArg List.length (HM3.out.trans HLD.out.symm); rw [List.length_map, List.length_map, HML.out.1] at h0; exact h0)
                rw [HLC.out] at HFn
                rw [HLC.out]
                have hl1 := list18_calls A15 m3 c15 lc v4 HFn.out.row.row HM20.out
                unfold Lst18 at hl1
                rw [HLC.out] at hl1
                have HL1 := Lib.hid hl1
                clear hl1
                go_wp2_with fail
                ((with_reducible refine HL1.out.mono ?_))
                rintro e v5 ⟨A16, c16, rfl, hacc, hb⟩
                have HSo := Lib.hid (HSn.out.below hb)
                have HDo := Lib.hid (HDn.out.below hb)
                have HFo := Lib.hid (HFn.out.below hb)
                have HRi := Lib.hid ((HRh.out.below hb).more hb.size)
                have HRj := Lib.hid hacc.row
                clear hacc hb HSn HDn HFn HRh HL1
                rw [HLC.out] at HRj
                have hal := rall18_calls A2 A16 m3 c2 c16 lr lc v5 HRi.out HRj.out HM20.out (by rw [HLD.out, HM3.out]) (fun y hy => HDo.out.rows y (HSa.out y hy)) (fun y hy => (HFo.out.rows y hy).1)
                unfold Yes14 at hal
                have HAL := Lib.hid hal
                clear hal
                go_wp2_with fail
                ((with_reducible refine HAL.out.mono ?_))
                rintro e v6 ⟨rfl, hb⟩
                have HSp := Lib.hid (HSo.out.below hb)
                clear hb HAL HSo
                go_wp2_with fail
                go_ret
                exact ⟨rfl, HFIN.out _ HSp.out.bel⟩
end Go.Proofs.Ytogijfebfffobaa
