/-
  The law WholeFits, walked: for any size, any calls and any last one the answer is true, and nothing that was there has turned. Condition: what the code of layer 14 must keep (Tk14).
-/
import Derived.Test.YtmffmoflelnmoaaAdmTS
import Derived.Test.YtmffmoflelnmoaaFitM
import Derived.Test.YtmffmoflelnmoaaPruAC
namespace Go.Proofs.Ytmffmoflelnmoaa
set_option maxRecDepth 100000
set_option linter.unusedVariables false
open Go.RowKit

theorem fr15_hlc {l : List Nat} (h : l.length = 8) : fr15 l = hlc l := by
  match l, h with
  | [a, b, c, d, e, f, g, i], _ => rfl
theorem infoAd16W : (Try.prog.info? 40).map (·.size) = some 15 := by kernel_rfl
set_option maxHeartbeats 12800000 in
theorem wfits16_walk {P : TabW} (K14 : Tk14 P) (sz : Nat) (hsz : sz < 18446744073709551616) (a : Option Addr) (n c : Nat) (x0 : Ac14) (hx0 : Ac14Ok x0) (w : World) (hn : n ≤ maxLen) (h : ∃ es, Row a14 w w.heap.size a n es ∧ ∀ x ∈ es, Ac14Ok x) : Calls Try.prog 7 #[.int .u64 (sz : Int), .slice a n c, .agg (a14 x0).toArray] w fun e w' => e = .returned (.bool true) ∧ Below w.heap.size w w' := by
  obtain ⟨es, hr, hok⟩ := h
  unfold maxLen at hn
  have HOK := Lib.hid hok
  have HX0 := Lib.hid hx0
  have HSZ := Lib.hid hsz
  have HNEW := Lib.hid (fun W => K14.new sz hsz W)
  clear hok hx0 hsz
  have HL0 := Lib.hid (bel_new (Below.refl w.heap.size w) (.cells (a14 x0).toArray 61))
  have BX0 := Lib.hid (Blk.new w 61 (a14 x0))
  have HR := Lib.hid (show Row a14 (w.alloc (.cells (a14 x0).toArray 61)) (w.alloc (.cells (a14 x0).toArray 61)).heap.size a n es from (hr.below HL0.out).more HL0.out.size)
  have HIK := Lib.hid (show (Try.prog.info? 59).map (·.size) = some (kyc x0.k).length by kernel_rfl)
  have HIW := Lib.hid (show (Try.prog.info? 26).map (·.size) = some (wnc x0.w).length by kernel_rfl)
  clear hr
  go_enter Try.func7, Try.ntmps7
  go_upto_region 1 with fail
  generalize (w.alloc (.cells (a14 x0).toArray 61)) = w1 at *
  go_cut [7, 8] from 18 to 21 (fun s t W => ∃ qk qw : Nat, s = .pointer (some ⟨qk, 0, none⟩) ∧ t = .pointer (some ⟨qw, 0, none⟩) ∧ qk ≠ qw ∧ w1.heap.size ≤ qk ∧ w1.heap.size ≤ qw ∧ Blk W qk 59 (kyc x0.k) ∧ Blk W qw 26 (wnc x0.w) ∧ Below w1.heap.size w1 W)
  case first =>
    have BXB := Lib.hid (fun W (hW : Below w1.heap.size w1 W) => BX0.out.below hW)
    go_wp2_with fail
    refine region_way (fun W => Below w1.heap.size w1 W) (.step 0 true (.step 1 true (.step 2 true (.step 3 true (.both 4 5 (.step 5 false (.step 6 false (.step 7 false .done))) (.step 4 false (.step 6 false (.step 7 false .done))))))))
      (by kernel_rfl) (by kernel_rfl) (by kernel_rfl) (by kernel_rfl) (fun _ _ _ _ _ h => h) (Below.refl _ _).drew ?_
    repeat
      refine way_pure (v := ?_) rfl (by rfl) (fun W hW => ?_) ?_
      rotate_left
      · have hbx := BXB.out W hW
        clear hW
        have c2 : W.cell? ⟨w.heap.size, 2, none⟩ = some (.int .i64 x0.k.tail) := hbx.cell 2
        have c3 : W.cell? ⟨w.heap.size, 3, none⟩ = some (.int .i64 x0.k.tun) := hbx.cell 3
        have c4 : W.cell? ⟨w.heap.size, 4, none⟩ = some (.int .i64 x0.k.head) := hbx.cell 4
        have c5 : W.cell? ⟨w.heap.size, 5, none⟩ = some (.int .i64 x0.k.lsp) := hbx.cell 5
        have c6 : W.cell? ⟨w.heap.size, 6, none⟩ = some (.int .u64 (x0.w.bw : Int)) := hbx.cell 6
        have c7 : W.cell? ⟨w.heap.size, 7, none⟩ = some (.int .i64 x0.w.su) := hbx.cell 7
        have c8 : W.cell? ⟨w.heap.size, 8, none⟩ = some (.int .i64 x0.w.ho) := hbx.cell 8
        have c9 : W.cell? ⟨w.heap.size, 9, none⟩ = some (.int .u32 (x0.w.an : Int)) := hbx.cell 9
        have c10 : W.cell? ⟨w.heap.size, 10, none⟩ = some (.int .u32 (x0.w.al : Int)) := hbx.cell 10
        have c11 : W.cell? ⟨w.heap.size, 11, none⟩ = some (.int .u32 (x0.w.no : Int)) := hbx.cell 11
        clear hbx
        go_simp
        with_reducible rfl
      simp only [Act.put, List.setIfInBounds_toArray, List.set_cons_zero, List.set_cons_succ]
    have D0 := Lib.hid (show Below w1.heap.size w1 w1.drew from (Below.refl _ _).drew)
    generalize w1.drew = u0 at *
    refine way_both rfl (by rfl) rfl (by rfl) (fun K hK => ?_) (fun K hK => ?_)
    · go_simp
      have b1 := Lib.hid (Blk.new u0 59 #[.int .i64 0, .int .i64 0, .int .i64 0, .int .i64 0].toList)
      have D1 := Lib.hid (bel_new D0.out (.cells #[.int .i64 0, .int .i64 0, .int .i64 0, .int .i64 0] 59))
      have E1 := Lib.hid D0.out.size
      refine hK _ _ (fun W => Below w1.heap.size w1 W) (fun W h => h) D1.out ?_
      clear hK K
      refine way_make rfl (by rfl) (fun K hK => ?_)
      go_simp
      have hs1 : (u0.alloc (.cells #[.int .i64 0, .int .i64 0, .int .i64 0, .int .i64 0] 59)).heap.size = u0.heap.size + 1 := by simp
      have b2 := Lib.hid (show Blk ((u0.alloc (.cells #[.int .i64 0, .int .i64 0, .int .i64 0, .int .i64 0] 59)).alloc (.cells #[.int .u64 0, .int .i64 0, .int .i64 0, .int .u32 0, .int .u32 0, .int .u32 0] 26)) (u0.heap.size + 1) 26 #[.int .u64 0, .int .i64 0, .int .i64 0, .int .u32 0, .int .u32 0, .int .u32 0].toList from by have := Blk.new (u0.alloc (.cells #[.int .i64 0, .int .i64 0, .int .i64 0, .int .i64 0] 59)) 26 #[.int .u64 0, .int .i64 0, .int .i64 0, .int .u32 0, .int .u32 0, .int .u32 0].toList; rwa [hs1] at this)
      have b1 := Lib.hid (show Blk ((u0.alloc (.cells #[.int .i64 0, .int .i64 0, .int .i64 0, .int .i64 0] 59)).alloc (.cells #[.int .u64 0, .int .i64 0, .int .i64 0, .int .u32 0, .int .u32 0, .int .u32 0] 26)) u0.heap.size 59 #[.int .i64 0, .int .i64 0, .int .i64 0, .int .i64 0].toList from b1.out.alloc _)
      have D2 := Lib.hid (bel_new D1.out (.cells #[.int .u64 0, .int .i64 0, .int .i64 0, .int .u32 0, .int .u32 0, .int .u32 0] 26))
      clear hs1
      refine hK _ _ (fun W => Below w1.heap.size w1 W) (fun W h => h) D2.out ?_
      clear hK K
      generalize ((u0.alloc (.cells #[.int .i64 0, .int .i64 0, .int .i64 0, .int .i64 0] 59)).alloc (.cells #[.int .u64 0, .int .i64 0, .int .i64 0, .int .u32 0, .int .u32 0, .int .u32 0] 26)) = u2 at *
      generalize u0.heap.size = q1 at *
      refine way_make rfl (by rfl) (fun K hK => ?_)
      refine wp_store8 (vs := kyc x0.k) rfl rfl rfl b1.out HIK.out rfl (kyc_one _) ?_
      intro u3 hbs hgs hss
      have K3 := Lib.hid hbs
      have W3 := Lib.hid (show Blk u3 (q1 + 1) 26 #[.int .u64 0, .int .i64 0, .int .i64 0, .int .u32 0, .int .u32 0, .int .u32 0].toList from b2.out.same (hgs.block _ b2.out.lt (fun e => by injection e with e; omega)))
      have D3 := Lib.hid (bel_upd D2.out hgs (Nat.le_refl _) (by have := E1.out; omega))
      clear hbs hgs hss
      refine hK _ _ (fun W => Below w1.heap.size w1 W) (fun W h => h) D3.out ?_
      clear hK K
      refine way_make rfl (by rfl) (fun K hK => ?_)
      refine wp_store8 (vs := wnc x0.w) rfl rfl rfl W3.out HIW.out rfl (wnc_one _) ?_
      intro u4 hbs hgs hss
      have W4 := Lib.hid hbs
      have K4 := Lib.hid (show Blk u4 q1 59 (kyc x0.k) from K3.out.same (hgs.block _ K3.out.lt (fun e => by injection e with e; omega)))
      have D4 := Lib.hid (bel_upd D3.out hgs (Nat.le_refl _) (by have := E1.out; omega))
      clear hbs hgs hss
      refine hK _ _ (fun W => Below w1.heap.size w1 W) (fun W h => h) D4.out ?_
      clear hK K
      refine way_done ?_
      go_wp2_with fail
      go_meet
      exact ⟨q1, (q1 + 1), rfl, rfl, by omega, by have := E1.out; omega, by have := E1.out; omega, K4.out, W4.out, D4.out⟩
    · go_simp
      have b1 := Lib.hid (Blk.new u0 26 #[.int .u64 0, .int .i64 0, .int .i64 0, .int .u32 0, .int .u32 0, .int .u32 0].toList)
      have D1 := Lib.hid (bel_new D0.out (.cells #[.int .u64 0, .int .i64 0, .int .i64 0, .int .u32 0, .int .u32 0, .int .u32 0] 26))
      have E1 := Lib.hid D0.out.size
      refine hK _ _ (fun W => Below w1.heap.size w1 W) (fun W h => h) D1.out ?_
      clear hK K
      refine way_make rfl (by rfl) (fun K hK => ?_)
      go_simp
      have hs1 : (u0.alloc (.cells #[.int .u64 0, .int .i64 0, .int .i64 0, .int .u32 0, .int .u32 0, .int .u32 0] 26)).heap.size = u0.heap.size + 1 := by simp
      have b2 := Lib.hid (show Blk ((u0.alloc (.cells #[.int .u64 0, .int .i64 0, .int .i64 0, .int .u32 0, .int .u32 0, .int .u32 0] 26)).alloc (.cells #[.int .i64 0, .int .i64 0, .int .i64 0, .int .i64 0] 59)) (u0.heap.size + 1) 59 #[.int .i64 0, .int .i64 0, .int .i64 0, .int .i64 0].toList from by have := Blk.new (u0.alloc (.cells #[.int .u64 0, .int .i64 0, .int .i64 0, .int .u32 0, .int .u32 0, .int .u32 0] 26)) 59 #[.int .i64 0, .int .i64 0, .int .i64 0, .int .i64 0].toList; rwa [hs1] at this)
      have b1 := Lib.hid (show Blk ((u0.alloc (.cells #[.int .u64 0, .int .i64 0, .int .i64 0, .int .u32 0, .int .u32 0, .int .u32 0] 26)).alloc (.cells #[.int .i64 0, .int .i64 0, .int .i64 0, .int .i64 0] 59)) u0.heap.size 26 #[.int .u64 0, .int .i64 0, .int .i64 0, .int .u32 0, .int .u32 0, .int .u32 0].toList from b1.out.alloc _)
      have D2 := Lib.hid (bel_new D1.out (.cells #[.int .i64 0, .int .i64 0, .int .i64 0, .int .i64 0] 59))
      clear hs1
      refine hK _ _ (fun W => Below w1.heap.size w1 W) (fun W h => h) D2.out ?_
      clear hK K
      generalize ((u0.alloc (.cells #[.int .u64 0, .int .i64 0, .int .i64 0, .int .u32 0, .int .u32 0, .int .u32 0] 26)).alloc (.cells #[.int .i64 0, .int .i64 0, .int .i64 0, .int .i64 0] 59)) = u2 at *
      generalize u0.heap.size = q1 at *
      refine way_make rfl (by rfl) (fun K hK => ?_)
      refine wp_store8 (vs := kyc x0.k) rfl rfl rfl b2.out HIK.out rfl (kyc_one _) ?_
      intro u3 hbs hgs hss
      have K3 := Lib.hid hbs
      have W3 := Lib.hid (show Blk u3 q1 26 #[.int .u64 0, .int .i64 0, .int .i64 0, .int .u32 0, .int .u32 0, .int .u32 0].toList from b1.out.same (hgs.block _ b1.out.lt (fun e => by injection e with e; omega)))
      have D3 := Lib.hid (bel_upd D2.out hgs (Nat.le_refl _) (by have := E1.out; omega))
      clear hbs hgs hss
      refine hK _ _ (fun W => Below w1.heap.size w1 W) (fun W h => h) D3.out ?_
      clear hK K
      refine way_make rfl (by rfl) (fun K hK => ?_)
      refine wp_store8 (vs := wnc x0.w) rfl rfl rfl W3.out HIW.out rfl (wnc_one _) ?_
      intro u4 hbs hgs hss
      have W4 := Lib.hid hbs
      have K4 := Lib.hid (show Blk u4 (q1 + 1) 59 (kyc x0.k) from K3.out.same (hgs.block _ K3.out.lt (fun e => by injection e with e; omega)))
      have D4 := Lib.hid (bel_upd D3.out hgs (Nat.le_refl _) (by have := E1.out; omega))
      clear hbs hgs hss
      refine hK _ _ (fun W => Below w1.heap.size w1 W) (fun W h => h) D4.out ?_
      clear hK K
      refine way_done ?_
      go_wp2_with fail
      go_meet
      exact ⟨(q1 + 1), q1, rfl, rfl, by omega, by have := E1.out; omega, by have := E1.out; omega, K4.out, W4.out, D4.out⟩
  case rest =>
    obtain ⟨qk, qw, rfl, rfl, hne, hqk, hqw, hbk, hbw, hbl⟩ := hcut
    generalize wc = w2 at *
    have HNE := Lib.hid (And.intro hne (And.intro hqk hqw))
    have HBK := Lib.hid hbk
    have HBW := Lib.hid hbw
    have HB2 := Lib.hid hbl
    clear hne hqk hqw hbk hbw hbl BX0
    go_wp2_with fail
    ((with_reducible refine (HNEW.out w2).mono ?_))
    rintro e w3 ⟨q, S, rfl, hp, hb, hS⟩
    have P3 := Lib.hid (show St14 P w1 w3 q sz [] S from ⟨hp, HB2.out.trans (hb.mono HB2.out.size), fun x hx => Nat.le_trans HB2.out.size (hS x hx)⟩)
    have BK3 := Lib.hid (show BlkT w3 S qk 59 (kyc x0.k) from ⟨HBK.out.below hb, fun h9 => by have := hS _ h9; have := HBK.out.lt; omega⟩)
    have BW3 := Lib.hid (show BlkT w3 S qw 26 (wnc x0.w) from ⟨HBW.out.below hb, fun h9 => by have := hS _ h9; have := HBW.out.lt; omega⟩)
    clear hp hb hS HBK HBW HB2 HNEW
    have hl : Calls Try.prog 21 #[.pointer (some ⟨q, 0, none⟩)] w3 fun e w' => ∃ S', e = .returned (.agg #[.int .u64 (sz : Int), .int .u64 0, .int .u64 0, .int .u64 0, .int .u64 0, .int .u64 0, .int .u64 0, .int .u64 0, .int .u64 0]) ∧ P w' q sz [] S' ∧ Mv14 S w3 S' w' := K14.ledger P3.out.p
    have HLG := Lib.hid hl
    have q0 : ((sz : Int) != (sz : Int)) = false := by simp
    clear hl
    go_wp2_with fail
    ((with_reducible refine HLG.out.mono ?_))
    rintro e w4 ⟨S4, rfl, p, m⟩
    have P4 := Lib.hid (P3.out.mv p m)
    have BK4 := Lib.hid (BK3.out.mv m)
    have BW4 := Lib.hid (BW3.out.mv m)
    clear p m P3 BK3 BW3 HLG
    have hl : Calls Try.prog 21 #[.pointer (some ⟨q, 0, none⟩)] w4 fun e w' => ∃ S', e = .returned (.agg #[.int .u64 (sz : Int), .int .u64 0, .int .u64 0, .int .u64 0, .int .u64 0, .int .u64 0, .int .u64 0, .int .u64 0, .int .u64 0]) ∧ P w' q sz [] S' ∧ Mv14 S4 w4 S' w' := K14.ledger P4.out.p
    have HLG := Lib.hid hl
    clear hl
    have hfd : (Instr.field 65 (.agg #[.int .u64 (sz : Int), .int .u64 0, .int .u64 0, .int .u64 0, .int .u64 0, .int .u64 0, .int .u64 0, .int .u64 0, .int .u64 0]) 0).run Try.prog w4 = .ok (.int .u64 (sz : Int)) w4 := by kernel_rfl
    go_wp2_with fail
    clear hfd
    ((with_reducible refine HLG.out.mono ?_))
    rintro e w5 ⟨S5, rfl, p, m⟩
    have P5 := Lib.hid (P4.out.mv p m)
    have BK5 := Lib.hid (BK4.out.mv m)
    have BW5 := Lib.hid (BW4.out.mv m)
    clear p m P4 BK4 BW4 HLG
    have hf : Calls Try.prog 22 #[.agg #[.int .u64 (sz : Int), .int .u64 0, .int .u64 0, .int .u64 0, .int .u64 0, .int .u64 0, .int .u64 0, .int .u64 0, .int .u64 0]] w5 fun e w' => e = .returned (.agg #[.int .u64 (sz : Int), .int .u64 (sz : Int), .int .u64 (sz : Int), .int .u64 (sz : Int), .int .u64 (sz : Int), .int .u64 (sz : Int), .int .u64 (sz : Int), .int .u64 (sz : Int)]) ∧ Below w5.heap.size w5 w' := freeok13 ⟨sz, [0, 0, 0, 0, 0, 0, 0, 0]⟩ ⟨rfl, HSZ.out, by simp⟩ w5
    have HFR := Lib.hid hf
    clear hf
    go_wp2_with fail
    ((with_reducible refine HFR.out.mono ?_))
    rintro e w6 ⟨rfl, hb⟩
    have P6 := Lib.hid (P5.out.below K14 hb)
    have BK6 := Lib.hid (BK5.out.below hb)
    have BW6 := Lib.hid (BW5.out.below hb)
    clear hb P5 BK5 BW5 HFR
    have hix : (Instr.index 36 (.agg #[.int .u64 (sz : Int), .int .u64 (sz : Int), .int .u64 (sz : Int), .int .u64 (sz : Int), .int .u64 (sz : Int), .int .u64 (sz : Int), .int .u64 (sz : Int), .int .u64 (sz : Int)]) (.int .i64 7)).run Try.prog w6 = .ok (.int .u64 (sz : Int)) w6 := by kernel_rfl
    go_upto_block 0 with fail
    clear q0 hix
    go_cut [10] from 41 to 74 (fun s W => ∃ (l : List Et) (S : List Nat), St14 P w1 W q sz l S ∧ BlkT W S qk 59 (kyc x0.k) ∧ BlkT W S qw 26 (wnc x0.w))
    case first =>
      go_wp2_with fail
      go_loopw [10] (fun s W => ∃ (i : Nat) (l : List Et) (S : List Nat), i ≤ n ∧ i ≤ 60 ∧ s = .int .i64 (i : Int) ∧ St14 P w1 W q sz l S ∧ BlkT W S qk 59 (kyc x0.k) ∧ BlkT W S qw 26 (wnc x0.w)) (fun s W => 60 - (intOf s).toNat)
      case atStart => exact ⟨0, [], S5, by omega, by omega, rfl, P6.out, BK6.out, BW6.out⟩
      case round =>
        clear P6 BK6 BW6
        obtain ⟨i, l, S1, hin, hi80, rfl, hst, hk1, hw1⟩ := hrel
        have P7 := Lib.hid hst
        have BK7 := Lib.hid hk1
        have BW7 := Lib.hid hw1
        clear hst hk1 hw1
        by_cases hlt : i < n ∧ i < 60
        · obtain ⟨hl1, hl2⟩ := hlt
          have i1 : (i : Int) < (n : Int) := by omega
          have i2 : (i : Int) < 60 := by omega
          obtain ⟨b, o, x, rfl, hx, hb, hc⟩ := row_cells a14_length HR.out hl1
          have HXO := Lib.hid (HOK.out x (List.mem_of_getElem? hx))
          have HC := Lib.hid hc
          have HI := Lib.hid (And.intro hl1 hl2)
          have hce := hc wr P7.out.bel
          have y0 : wr.cell? ⟨b, o + i * 12, none⟩ = some (.bool x.dr) := hce 0 _ rfl
          have y2 : wr.cell? ⟨b, o + i * 12 + 2, none⟩ = some (.int .i64 x.k.tail) := hce 2 _ rfl
          have y3 : wr.cell? ⟨b, o + i * 12 + 3, none⟩ = some (.int .i64 x.k.tun) := hce 3 _ rfl
          have y4 : wr.cell? ⟨b, o + i * 12 + 4, none⟩ = some (.int .i64 x.k.head) := hce 4 _ rfl
          have y5 : wr.cell? ⟨b, o + i * 12 + 5, none⟩ = some (.int .i64 x.k.lsp) := hce 5 _ rfl
          clear hx hb hc hce hl1 hl2
          cases hdr : x.dr with
          | true =>
            rw [hdr] at y0
            have hd : Calls Try.prog 23 #[.pointer (some ⟨q, 0, none⟩), .agg #[.int .i64 x.k.tail, .int .i64 x.k.tun, .int .i64 x.k.head, .int .i64 x.k.lsp]] wr (Drt14 P S1 q sz (aDrop l x.k) wr) := K14.drop P7.out.p x.k HXO.out.1
            unfold Drt14 at hd
            have HD := Lib.hid hd
            clear hd hdr
            go_wp2_with fail
            ((with_reducible refine HD.out.mono ?_))
            rintro e v1 ⟨S2, rfl, p, m⟩
            have P8 := Lib.hid (P7.out.mv p m)
            have BK8 := Lib.hid (BK7.out.mv m)
            have BW8 := Lib.hid (BW7.out.mv m)
            clear p m HD P7 BK7 BW7 y0 y2 y3 y4 y5
            go_wp2_with fail
            go_roundw
            case rel => exact ⟨i + 1, _, S2, by have := HI.out; omega, by have := HI.out; omega, by first | rfl | (simp; omega), P8.out, BK8.out, BW8.out⟩
            case measure => have := HI.out; simp [intOf]; omega
          | false =>
            rw [hdr] at y0
            have BKD := Lib.hid (BK7.out.below (Below.refl _ _).drew)
            have BWD := Lib.hid (BW7.out.below (Below.refl _ _).drew)
            have PD := Lib.hid (P7.out.below K14 (Below.refl _ _).drew)
            have hd : Calls Try.prog 24 #[.pointer (some ⟨q, 0, none⟩), .agg #[.int .i64 x.k.tail, .int .i64 x.k.tun, .int .i64 x.k.head, .int .i64 x.k.lsp], .agg #[.int .u64 (x.w.bw : Int), .int .i64 x.w.su, .int .i64 x.w.ho, .int .u32 (x.w.an : Int), .int .u32 (x.w.al : Int), .int .u32 (x.w.no : Int)]] wr.drew (Adt14 P S1 q sz (aAdmit sz l x.k x.w) wr.drew) := K14.adm PD.out.p x.k x.w HXO.out.1 HXO.out.2
            unfold Adt14 at hd
            have HD := Lib.hid hd
            clear hd hdr y2 y3 y4 y5
            go_wp2_with fail
            refine region_seq (fun W => Below w1.heap.size w1 W) [(0, true), (1, true), (2, true), (3, true), (4, true), (5, true), (6, true), (7, true), (8, true), (9, true), (10, true), (11, false)] (by kernel_rfl) (by kernel_rfl) (by kernel_rfl) (by kernel_rfl) (fun _ _ _ _ _ h => h) PD.out.bel ?_
            repeat
              refine seq_pure (v := ?_) rfl (by rfl) (fun W hW => ?_) ?_
              rotate_left
              · have hce := HC.out W hW
                clear hW
                have z2 : W.cell? ⟨b, o + i * 12 + 2, none⟩ = some (.int .i64 x.k.tail) := hce 2 _ rfl
                have z3 : W.cell? ⟨b, o + i * 12 + 3, none⟩ = some (.int .i64 x.k.tun) := hce 3 _ rfl
                have z4 : W.cell? ⟨b, o + i * 12 + 4, none⟩ = some (.int .i64 x.k.head) := hce 4 _ rfl
                have z5 : W.cell? ⟨b, o + i * 12 + 5, none⟩ = some (.int .i64 x.k.lsp) := hce 5 _ rfl
                have z6 : W.cell? ⟨b, o + i * 12 + 6, none⟩ = some (.int .u64 (x.w.bw : Int)) := hce 6 _ rfl
                have z7 : W.cell? ⟨b, o + i * 12 + 7, none⟩ = some (.int .i64 x.w.su) := hce 7 _ rfl
                have z8 : W.cell? ⟨b, o + i * 12 + 8, none⟩ = some (.int .i64 x.w.ho) := hce 8 _ rfl
                have z9 : W.cell? ⟨b, o + i * 12 + 9, none⟩ = some (.int .u32 (x.w.an : Int)) := hce 9 _ rfl
                have z10 : W.cell? ⟨b, o + i * 12 + 10, none⟩ = some (.int .u32 (x.w.al : Int)) := hce 10 _ rfl
                have z11 : W.cell? ⟨b, o + i * 12 + 11, none⟩ = some (.int .u32 (x.w.no : Int)) := hce 11 _ rfl
                clear hce
                go_simp
                with_reducible rfl
              simp only [Act.put, List.setIfInBounds_toArray, List.set_cons_zero, List.set_cons_succ]
            refine seq_make rfl (by rfl) (fun K hK => ?_)
            go_simp
            ((with_reducible refine HD.out.mono ?_))
            rintro e v1 ⟨S2, A2, c2, rfl, p, m, r⟩
            have P8 := Lib.hid (PD.out.mv p m)
            have BK8 := Lib.hid (BKD.out.mv m)
            have BW8 := Lib.hid (BWD.out.mv m)
            clear p m r HD P7 BK7 BW7 PD BKD BWD
            go_simp
            refine hK _ _ (fun W => Below w1.heap.size w1 W) (fun W h => h) P8.out.bel ?_
            clear hK K
            refine seq_done ?_
            clear y0
            go_wp2_with fail
            go_roundw
            case rel => exact ⟨i + 1, _, S2, by have := HI.out; omega, by have := HI.out; omega, by first | rfl | (simp; omega), P8.out, BK8.out, BW8.out⟩
            case measure => have := HI.out; simp [intOf]; omega
        · by_cases h1 : i < n
          · have i2 : (i : Int) < (n : Int) := by omega
            have i3 : ¬ (i : Int) < 60 := by omega
            clear hlt
            go_wp2_with fail
            go_meet
            exact ⟨l, S1, P7.out, BK7.out, BW7.out⟩
          · have i2 : ¬ (i : Int) < (n : Int) := by omega
            clear hlt
            go_wp2_with fail
            go_meet
            exact ⟨l, S1, P7.out, BK7.out, BW7.out⟩
    case rest =>
      clear P6 BK6 BW6
      obtain ⟨l, S1, hst, hk1, hw1⟩ := hcut
      generalize wc = w7 at *
      have P7 := Lib.hid hst
      have BK7 := Lib.hid hk1
      have BW7 := Lib.hid hw1
      clear hst hk1 hw1
      have he := K14.entries P7.out.p
      unfold Ent14 at he
      have TB := Lib.hid (K14.tbl P7.out.p)
      obtain ⟨m, hm⟩ : ∃ m, l.length = m := ⟨_, rfl⟩
      have HM := Lib.hid hm
      have hm64 : m ≤ 64 := by rw [← hm]; exact TB.out.len
      rw [hm] at he
      have HE := Lib.hid he
      clear he hm
      go_wp2_with fail
      ((with_reducible refine HE.out.mono ?_))
      rintro e w8 ⟨S8, A8, c8, rfl, p, mv, r⟩
      have P8 := Lib.hid (P7.out.mv p mv)
      have BK8 := Lib.hid (BK7.out.mv mv)
      have BW8 := Lib.hid (BW7.out.mv mv)
      have R8 := Lib.hid r
      clear p mv r HE P7 BK7 BW7
      by_cases hm2 : 64 ≤ m
      · have i1 : 64 ≤ (m : Int) := by omega
        clear hm2
        go_wp2_with fail
        go_ret
        exact ⟨rfl, HL0.out.trans (P8.out.bel.mono HL0.out.size)⟩
      have i1 : ¬ 64 ≤ (m : Int) := by omega
      have i2 : decide (64 ≤ (m : Int)) = false := decide_eq_false i1
      have hrt := fun W => rright12_calls x0.w W
      obtain ⟨rt, hrr⟩ : ∃ rt, wRight x0.w = rt := ⟨_, rfl⟩
      rw [hrr] at hrt
      unfold Yes12 at hrt
      have HRT := Lib.hid hrt
      have HRR := Lib.hid hrr
      clear hrt hrr
      have y0 : w8.cell? ⟨qw, 0, none⟩ = some (.int .u64 (x0.w.bw : Int)) := BW8.out.blk.cell 0
      have y1 : w8.cell? ⟨qw, 1, none⟩ = some (.int .i64 x0.w.su) := BW8.out.blk.cell 1
      have y2 : w8.cell? ⟨qw, 2, none⟩ = some (.int .i64 x0.w.ho) := BW8.out.blk.cell 2
      have y3 : w8.cell? ⟨qw, 3, none⟩ = some (.int .u32 (x0.w.an : Int)) := BW8.out.blk.cell 3
      have y4 : w8.cell? ⟨qw, 4, none⟩ = some (.int .u32 (x0.w.al : Int)) := BW8.out.blk.cell 4
      have y5 : w8.cell? ⟨qw, 5, none⟩ = some (.int .u32 (x0.w.no : Int)) := BW8.out.blk.cell 5
      go_wp2_with fail
      ((with_reducible refine (HRT.out w8).mono ?_))
      rintro e w9 ⟨rfl, hb⟩
      have P9 := Lib.hid (P8.out.below K14 hb)
      have BK9 := Lib.hid (BK8.out.below hb)
      have BW9 := Lib.hid (BW8.out.below hb)
      have R9 := Lib.hid (R8.out.below hb)
      clear hb P8 BK8 BW8 R8 HRT y0 y1 y2 y3 y4 y5
      cases rt with
      | false =>
        go_wp2_with fail
        go_ret
        exact ⟨rfl, HL0.out.trans (P9.out.bel.mono HL0.out.size)⟩
      | true =>
      have HMM := Lib.hid (show l.length < 64 by have := HM.out; omega)
      go_wp2_with fail
      clear i1 hm2
      go_loopw [87] (fun s W => ∃ i : Nat, i ≤ m ∧ s = .int .i64 (i : Int) ∧ (∀ x ∈ l.take i, kKin x.k x0.k = false) ∧ Below w9.heap.size w9 W) (fun s W => m - (intOf s).toNat)
      case atStart => exact ⟨0, Nat.zero_le _, rfl, by simp, Below.refl _ _⟩
      case round =>
        obtain ⟨i, hi, rfl, hno, hbl⟩ := hrel
        have HNO := Lib.hid hno
        have HBL := Lib.hid hbl
        clear hno hbl
        by_cases hin : i < m
        · have i1 : (i : Int) < (m : Int) := by omega
          obtain ⟨b, o, x, rfl, hx, hb, hc⟩ := row_cells ent_length R9.out.row hin
          have HXI := Lib.hid hx
          have HII := Lib.hid hin
          have hce := hc wr HBL.out
          have z0 : wr.cell? ⟨b, o + i * 10, none⟩ = some (.int .i64 x.k.tail) := hce 0 _ rfl
          have z1 : wr.cell? ⟨b, o + i * 10 + 1, none⟩ = some (.int .i64 x.k.tun) := hce 1 _ rfl
          have z2 : wr.cell? ⟨b, o + i * 10 + 2, none⟩ = some (.int .i64 x.k.head) := hce 2 _ rfl
          have z3 : wr.cell? ⟨b, o + i * 10 + 3, none⟩ = some (.int .i64 x.k.lsp) := hce 3 _ rfl
          have z4 : wr.cell? ⟨b, o + i * 10 + 4, none⟩ = some (.int .u64 (x.w.bw : Int)) := hce 4 _ rfl
          have z5 : wr.cell? ⟨b, o + i * 10 + 5, none⟩ = some (.int .i64 x.w.su) := hce 5 _ rfl
          have z6 : wr.cell? ⟨b, o + i * 10 + 6, none⟩ = some (.int .i64 x.w.ho) := hce 6 _ rfl
          have z7 : wr.cell? ⟨b, o + i * 10 + 7, none⟩ = some (.int .u32 (x.w.an : Int)) := hce 7 _ rfl
          have z8 : wr.cell? ⟨b, o + i * 10 + 8, none⟩ = some (.int .u32 (x.w.al : Int)) := hce 8 _ rfl
          have z9 : wr.cell? ⟨b, o + i * 10 + 9, none⟩ = some (.int .u32 (x.w.no : Int)) := hce 9 _ rfl
          clear hx hb hc hce hin hi
          go_upto_region 17 with fail
          clear z0 z1 z2 z3 z4 z5 z6 z7 z8 z9
          have hb := bel_new (Below.refl wr.heap.size wr) (.cells #[.int .i64 x.k.tail, .int .i64 x.k.tun, .int .i64 x.k.head, .int .i64 x.k.lsp, .int .u64 (x.w.bw : Int), .int .i64 x.w.su, .int .i64 x.w.ho, .int .u32 (x.w.an : Int), .int .u32 (x.w.al : Int), .int .u32 (x.w.no : Int)] 76)
          have XB := Lib.hid (show Blk (wr.alloc (.cells #[.int .i64 x.k.tail, .int .i64 x.k.tun, .int .i64 x.k.head, .int .i64 x.k.lsp, .int .u64 (x.w.bw : Int), .int .i64 x.w.su, .int .i64 x.w.ho, .int .u32 (x.w.an : Int), .int .u32 (x.w.al : Int), .int .u32 (x.w.no : Int)] 76)) wr.heap.size 76 (ent x) from Blk.new wr 76 (ent x))
          have L2 := Lib.hid (HBL.out.trans (hb.mono HBL.out.size))
          clear hb HBL
          generalize wr.alloc _ = v1 at *
          generalize wr.heap.size = qx at *
          have BKX := Lib.hid (BK9.out.blk.below L2.out)
          have HKN := Lib.hid (K14.kin x.k x0.k v1)
          unfold Yes14 at HKN
          have y0 : v1.cell? ⟨qx, 0, none⟩ = some (.int .i64 x.k.tail) := XB.out.cell 0
          have y1 : v1.cell? ⟨qx, 1, none⟩ = some (.int .i64 x.k.tun) := XB.out.cell 1
          have y2 : v1.cell? ⟨qx, 2, none⟩ = some (.int .i64 x.k.head) := XB.out.cell 2
          have y3 : v1.cell? ⟨qx, 3, none⟩ = some (.int .i64 x.k.lsp) := XB.out.cell 3
          have k0 : v1.cell? ⟨qk, 0, none⟩ = some (.int .i64 x0.k.tail) := BKX.out.cell 0
          have k1 : v1.cell? ⟨qk, 1, none⟩ = some (.int .i64 x0.k.tun) := BKX.out.cell 1
          have k2 : v1.cell? ⟨qk, 2, none⟩ = some (.int .i64 x0.k.head) := BKX.out.cell 2
          have k3 : v1.cell? ⟨qk, 3, none⟩ = some (.int .i64 x0.k.lsp) := BKX.out.cell 3
          obtain ⟨kn, hkn⟩ : ∃ kn, kKin x.k x0.k = kn := ⟨_, rfl⟩
          rw [hkn] at HKN
          have HKK := Lib.hid hkn
          clear hkn
          go_wp2_with fail
          ((with_reducible refine HKN.out.mono ?_))
          rintro e v2 ⟨rfl, hb⟩
          have L3 := Lib.hid (L2.out.trans (hb.mono L2.out.size))
          clear hb HKN L2 BKX XB y0 y1 y2 y3 k0 k1 k2 k3
          cases kn with
          | true =>
            go_wp2_with fail
            go_ret
            exact ⟨rfl, HL0.out.trans ((P9.out.bel.trans (L3.out.mono P9.out.bel.size)).mono HL0.out.size)⟩
          | false =>
            have hno : ∀ y ∈ l.take (i + 1), kKin y.k x0.k = false := by
              rw [List.take_add_one, HXI.out]
              intro y hy
              rcases List.mem_append.1 hy with hy | hy
              · exact HNO.out y hy
              · simp at hy; rw [hy]; exact HKK.out
            have HN2 := Lib.hid hno
            clear hno
            go_wp2_with fail
            go_roundw
            case rel => exact ⟨i + 1, HII.out, by first | rfl | (simp; omega), HN2.out, L3.out⟩
            case measure => have := HII.out; simp [intOf]; omega
        · obtain rfl : i = m := by omega
          have i1 : ¬ (i : Int) < (i : Int) := by omega
          have HKN := Lib.hid (show ∀ x ∈ l, kKin x.k x0.k = false from by
            have := HNO.out
            rwa [List.take_of_length_le (by rw [HM.out]; exact Nat.le_refl _)] at this)
          have P10 := Lib.hid (P9.out.below K14 HBL.out)
          have BK10 := Lib.hid (BK9.out.below HBL.out)
          have BW10 := Lib.hid (BW9.out.below HBL.out)
          clear hin hi HNO HBL P9 BK9 BW9 R9
          have y0 : wr.cell? ⟨qw, 0, none⟩ = some (.int .u64 (x0.w.bw : Int)) := BW10.out.blk.cell 0
          have y1 : wr.cell? ⟨qw, 1, none⟩ = some (.int .i64 x0.w.su) := BW10.out.blk.cell 1
          have y2 : wr.cell? ⟨qw, 2, none⟩ = some (.int .i64 x0.w.ho) := BW10.out.blk.cell 2
          have y3 : wr.cell? ⟨qw, 3, none⟩ = some (.int .u32 (x0.w.an : Int)) := BW10.out.blk.cell 3
          have y4 : wr.cell? ⟨qw, 4, none⟩ = some (.int .u32 (x0.w.al : Int)) := BW10.out.blk.cell 4
          have y5 : wr.cell? ⟨qw, 5, none⟩ = some (.int .u32 (x0.w.no : Int)) := BW10.out.blk.cell 5
          have ff3 := BW10.out.blk.free 3
          have ff4 := BW10.out.blk.free 4
          have ff5 := BW10.out.blk.free 5
          go_upto_region 21 with fail
          clear y0 y1 y2 y3 y4 y5 ff3 ff4 ff5
          have BW11 := Lib.hid (show BlkT (((wr.setCell ⟨qw, 3, none⟩ (.int .u32 0)).setCell ⟨qw, 4, none⟩ (.int .u32 0)).setCell ⟨qw, 5, none⟩ (.int .u32 0)) S8 qw 26 (wnc (⟨x0.w.bw, x0.w.su, x0.w.ho, 0, 0, 0⟩ : Wn)) from ⟨((BW10.out.blk.set 3 _).set 4 _).set 5 _, BW10.out.off⟩)
          have BK11 := Lib.hid (((BK10.out.stored (upd_set_p wr qw 3 (.int .u32 0)) HNE.out.1).stored (upd_set_p _ qw 4 (.int .u32 0)) HNE.out.1).stored (upd_set_p _ qw 5 (.int .u32 0)) HNE.out.1)
          have P11 := Lib.hid (((P10.out.stored K14 (upd_set_p wr qw 3 (.int .u32 0)) BW10.out.off HNE.out.2.2).stored K14 (upd_set_p _ qw 4 (.int .u32 0)) BW10.out.off HNE.out.2.2).stored K14 (upd_set_p _ qw 5 (.int .u32 0)) BW10.out.off HNE.out.2.2)
          clear P10 BK10 BW10
          generalize (((wr.setCell ⟨qw, 3, none⟩ (.int .u32 0)).setCell ⟨qw, 4, none⟩ (.int .u32 0)).setCell ⟨qw, 5, none⟩ (.int .u32 0)) = w11 at *
          have hg := ledgOf_ok (size := sz) (fams_ho TB.out.srt TB.out.rgt) HSZ.out (by have := TB.out.fit; have := HSZ.out; omega)
          have hl : Calls Try.prog 21 #[.pointer (some ⟨q, 0, none⟩)] w11 fun e w' => ∃ S', e = .returned (.agg (lgc (ledgOf sz (fams l))).toArray) ∧ P w' q sz l S' ∧ Mv14 S8 w11 S' w' := K14.ledger P11.out.p
          have hfe := fits_admits TB.out (k := x0.k) (w := (⟨x0.w.bw, x0.w.su, x0.w.ho, 0, 0, 0⟩ : Wn)) (show wRight (⟨x0.w.bw, x0.w.su, x0.w.ho, 0, 0, 0⟩ : Wn) = true from HRR.out) HMM.out HKN.out
          obtain ⟨f0, f1, f2, f3, f4, f5, f6, f7, hF⟩ := held_eight (lFree_length (ledgOf sz (fams l)))
          have hfb : ∀ j, [f0, f1, f2, f3, f4, f5, f6, f7].getD j 0 < 18446744073709551616 := fun j => by
            rw [← hF]
            have h1 := lFree_bound (ledgOf sz (fams l)) j
            rw [(ledgOf_sum (size := sz) (fams_ho TB.out.srt TB.out.rgt)).2.2] at h1
            have := HSZ.out
            omega
          have hfr : ∀ W, Calls Try.prog 22 #[.agg (lgc (ledgOf sz (fams l))).toArray] W fun e w' => e = .returned (.agg #[.int .u64 (f0 : Int), .int .u64 (f1 : Int), .int .u64 (f2 : Int), .int .u64 (f3 : Int), .int .u64 (f4 : Int), .int .u64 (f5 : Int), .int .u64 (f6 : Int), .int .u64 (f7 : Int)]) ∧ Below W.heap.size W w' := fun W => by
            have := freeok13 (ledgOf sz (fams l)) hg W
            rw [hF] at this
            exact this
          rw [hF] at hfe
          have hft := fit16_free (size := sz) (fr := [f0, f1, f2, f3, f4, f5, f6, f7]) (k := ⟨0, 1, (sz : Int), 1, 0⟩) (q := 0) (w := (⟨x0.w.bw, x0.w.su, x0.w.ho, 0, 0, 0⟩ : Wn)) (show wRight (⟨x0.w.bw, x0.w.su, x0.w.ho, 0, 0, 0⟩ : Wn) = true from HRR.out) ⟨rfl, rfl, rfl⟩ hfb
          have hao : AdOk (⟨⟨0, 1, (sz : Int), 1, 0⟩, 0, true, [f0, f1, f2, f3, f4, f5, f6, f7]⟩ : Ad) := ⟨rfl, fun y hy => by
            obtain ⟨j, hj, rfl⟩ := List.mem_iff_getElem.1 hy
            have := hfb j
            rwa [List.getD_eq_getElem?_getD, List.getElem?_eq_getElem hj] at this, by simp only; omega, by have := HSZ.out; simp only; omega, (show (0 : Int) ≤ 0 by decide), (show (0 : Int) < 4294967296 by decide)⟩
          have HAO := Lib.hid hao
          have HFT := Lib.hid hft
          have HFE := Lib.hid hfe
          have HFR := Lib.hid hfr
          have HLG := Lib.hid hl
          clear hg hl hfe hF hfb hfr hft hao
          go_upto_region 22 with fail
          ((with_reducible refine HLG.out.mono ?_))
          rintro e w12 ⟨S12, rfl, p, mv⟩
          have P12 := Lib.hid (P11.out.mv p mv)
          have BK12 := Lib.hid (BK11.out.mv mv)
          have BW12 := Lib.hid (BW11.out.mv mv)
          clear p mv P11 BK11 BW11 HLG
          go_upto_region 22 with fail
          ((with_reducible refine (HFR.out w12).mono ?_))
          rintro e w13 ⟨rfl, hb⟩
          have P13 := Lib.hid (P12.out.below K14 hb)
          have BK13 := Lib.hid (BK12.out.below hb)
          have BW13 := Lib.hid (BW12.out.below hb)
          clear hb P12 BK12 BW12 HFR
          go_upto_region 22 with fail
          have hb := bel_new (Below.refl w13.heap.size w13) (.cells #[.int .i64 0, .int .i64 1, .int .u64 (sz : Int), .int .i64 1, .int .u32 0, .int .i64 0, .bool true, .int .u64 (f0 : Int), .int .u64 (f1 : Int), .int .u64 (f2 : Int), .int .u64 (f3 : Int), .int .u64 (f4 : Int), .int .u64 (f5 : Int), .int .u64 (f6 : Int), .int .u64 (f7 : Int)] 40)
          have XA := Lib.hid (show Blk (w13.alloc (.cells #[.int .i64 0, .int .i64 1, .int .u64 (sz : Int), .int .i64 1, .int .u32 0, .int .i64 0, .bool true, .int .u64 (f0 : Int), .int .u64 (f1 : Int), .int .u64 (f2 : Int), .int .u64 (f3 : Int), .int .u64 (f4 : Int), .int .u64 (f5 : Int), .int .u64 (f6 : Int), .int .u64 (f7 : Int)] 40)) w13.heap.size 40 (adc (⟨⟨0, 1, (sz : Int), 1, 0⟩, 0, true, [f0, f1, f2, f3, f4, f5, f6, f7]⟩ : Ad)) from Blk.new w13 40 (adc (⟨⟨0, 1, (sz : Int), 1, 0⟩, 0, true, [f0, f1, f2, f3, f4, f5, f6, f7]⟩ : Ad)))
          have P14 := Lib.hid (P13.out.below K14 hb)
          have BK14 := Lib.hid (BK13.out.below hb)
          have BW14 := Lib.hid (BW13.out.below hb)
          clear hb P13 BK13 BW13
          generalize w13.alloc _ = w14 at *
          generalize w13.heap.size = qa at *
          have hfit : Calls Try.prog 10 #[.agg (adc (⟨⟨0, 1, (sz : Int), 1, 0⟩, 0, true, [f0, f1, f2, f3, f4, f5, f6, f7]⟩ : Ad)).toArray, .agg #[.int .u64 (x0.w.bw : Int), .int .i64 x0.w.su, .int .i64 x0.w.ho, .int .u32 0, .int .u32 0, .int .u32 0, .slice none 0 0, .slice none 0 0, .slice none 0 0, .int .i64 0]] w14 (Yes15 (fit16 ⟨(⟨x0.w.bw, x0.w.su, x0.w.ho, 0, 0, 0⟩ : Wn), [], [], []⟩ (⟨⟨0, 1, (sz : Int), 1, 0⟩, 0, true, [f0, f1, f2, f3, f4, f5, f6, f7]⟩ : Ad)) w14) := fits16c_calls ⟨(⟨x0.w.bw, x0.w.su, x0.w.ho, 0, 0, 0⟩ : Wn), [], [], []⟩ ⟨⟨(show (0 : Nat) < 4294967296 by decide), (show (0 : Nat) < 4294967296 by decide), (show (0 : Nat) < 4294967296 by decide)⟩, by simp⟩ ⟨none, 0, 0, none, 0, 0, none, 0, 0, 0⟩ (⟨⟨0, 1, (sz : Int), 1, 0⟩, 0, true, [f0, f1, f2, f3, f4, f5, f6, f7]⟩ : Ad) HAO.out w14 ⟨Row.nil, Row.nil, Row.nil, by simp, by simp, by simp⟩
          rw [HFT.out] at hfit
          unfold Yes15 at hfit
          obtain ⟨V, hV⟩ : ∃ V, [f0, f1, f2, f3, f4, f5, f6, f7].getD x0.w.su.toNat 0 = V := ⟨_, rfl⟩
          have hfe := HFE.out
          simp only [hV] at hfit hfe
          have HFI := Lib.hid hfit
          have HFE2 := Lib.hid hfe
          have HIX := Lib.hid (show (Try.prog.info? 40).map (·.size) = some (adc (⟨⟨0, 1, (sz : Int), 1, 0⟩, 0, true, [f0, f1, f2, f3, f4, f5, f6, f7]⟩ : Ad)).length from infoAd16W)
          clear hfit hV hfe HFE HFT HAO
          have y0 : w14.cell? ⟨qw, 0, none⟩ = some (.int .u64 (x0.w.bw : Int)) := BW14.out.blk.cell 0
          have y1 : w14.cell? ⟨qw, 1, none⟩ = some (.int .i64 x0.w.su) := BW14.out.blk.cell 1
          have y2 : w14.cell? ⟨qw, 2, none⟩ = some (.int .i64 x0.w.ho) := BW14.out.blk.cell 2
          have y3 : w14.cell? ⟨qw, 3, none⟩ = some (.int .u32 0) := BW14.out.blk.cell 3
          have y4 : w14.cell? ⟨qw, 4, none⟩ = some (.int .u32 0) := BW14.out.blk.cell 4
          have y5 : w14.cell? ⟨qw, 5, none⟩ = some (.int .u32 0) := BW14.out.blk.cell 5
          go_wp2_with (refine step_load (o := ⟨some 105, _, _, _, _, _⟩) rfl rfl rfl XA.out Try.underlying40 rfl HIX.out ?_)
          ((with_reducible refine HFI.out.mono ?_))
          rintro e w15 ⟨rfl, hb⟩
          have P15 := Lib.hid (P14.out.below K14 hb)
          have BK15 := Lib.hid (BK14.out.below hb)
          have BW15 := Lib.hid (BW14.out.below hb)
          clear hb P14 BK14 BW14 XA HFI y0 y1 y2 y3 y4 y5
          have hd : Calls Try.prog 24 #[.pointer (some ⟨q, 0, none⟩), .agg #[.int .i64 x0.k.tail, .int .i64 x0.k.tun, .int .i64 x0.k.head, .int .i64 x0.k.lsp], .agg #[.int .u64 (x0.w.bw : Int), .int .i64 x0.w.su, .int .i64 x0.w.ho, .int .u32 0, .int .u32 0, .int .u32 0]] w15 (Adt14 P S12 q sz (aAdmit sz l x0.k (⟨x0.w.bw, x0.w.su, x0.w.ho, 0, 0, 0⟩ : Wn)) w15) := K14.adm P15.out.p x0.k (⟨x0.w.bw, x0.w.su, x0.w.ho, 0, 0, 0⟩ : Wn) HX0.out.1 ⟨HX0.out.2.1, HX0.out.2.2.1, HX0.out.2.2.2.1, (show (0 : Nat) < 4294967296 by decide), (show (0 : Nat) < 4294967296 by decide), (show (0 : Nat) < 4294967296 by decide)⟩
          unfold Adt14 at hd
          have HD := Lib.hid hd
          clear hd
          generalize aAdmit sz l x0.k (⟨x0.w.bw, x0.w.su, x0.w.ho, 0, 0, 0⟩ : Wn) = r at *
          obtain ⟨l2, gs, E⟩ := r
          have y0 : w15.cell? ⟨qw, 0, none⟩ = some (.int .u64 (x0.w.bw : Int)) := BW15.out.blk.cell 0
          have y1 : w15.cell? ⟨qw, 1, none⟩ = some (.int .i64 x0.w.su) := BW15.out.blk.cell 1
          have y2 : w15.cell? ⟨qw, 2, none⟩ = some (.int .i64 x0.w.ho) := BW15.out.blk.cell 2
          have y3 : w15.cell? ⟨qw, 3, none⟩ = some (.int .u32 0) := BW15.out.blk.cell 3
          have y4 : w15.cell? ⟨qw, 4, none⟩ = some (.int .u32 0) := BW15.out.blk.cell 4
          have y5 : w15.cell? ⟨qw, 5, none⟩ = some (.int .u32 0) := BW15.out.blk.cell 5
          have k0 : w15.cell? ⟨qk, 0, none⟩ = some (.int .i64 x0.k.tail) := BK15.out.blk.cell 0
          have k1 : w15.cell? ⟨qk, 1, none⟩ = some (.int .i64 x0.k.tun) := BK15.out.blk.cell 1
          have k2 : w15.cell? ⟨qk, 2, none⟩ = some (.int .i64 x0.k.head) := BK15.out.blk.cell 2
          have k3 : w15.cell? ⟨qk, 3, none⟩ = some (.int .i64 x0.k.lsp) := BK15.out.blk.cell 3
          by_cases hbw : x0.w.bw ≤ V
          · have hE := HFE2.out
            simp only [if_pos hbw] at hE
            subst hE
            rw [decide_eq_true hbw]
            clear hbw HFE2
            go_wp2_with fail
            ((with_reducible refine HD.out.mono ?_))
            rintro e w16 ⟨S16, A16, c16, rfl, p, mv, r⟩
            have P16 := Lib.hid (P15.out.mv p mv)
            clear p mv r HD
            go_wp2_with fail
            go_ret
            exact ⟨rfl, HL0.out.trans (P16.out.bel.mono HL0.out.size)⟩
          · have hE := HFE2.out
            simp only [if_neg hbw] at hE
            subst hE
            rw [decide_eq_false hbw]
            clear hbw HFE2
            go_wp2_with fail
            ((with_reducible refine HD.out.mono ?_))
            rintro e w16 ⟨S16, A16, c16, rfl, p, mv, r⟩
            have P16 := Lib.hid (P15.out.mv p mv)
            clear p mv r HD
            go_wp2_with fail
            go_ret
            exact ⟨rfl, HL0.out.trans (P16.out.bel.mono HL0.out.size)⟩
end Go.Proofs.Ytmffmoflelnmoaa
