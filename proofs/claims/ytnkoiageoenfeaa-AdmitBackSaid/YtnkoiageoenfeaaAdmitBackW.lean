/-
  The law AdmitBack, walked: for any size, any calls and any last one the answer is true, and nothing that was there has turned. Condition: what the code must keep (Tk14).
-/
import Derived.Test.YtnkoiageoenfeaaAdmTS
namespace Go.Proofs.Ytnkoiageoenfeaa
set_option maxRecDepth 100000
set_option linter.unusedVariables false
open Go.RowKit

set_option maxHeartbeats 12800000 in
theorem back14_walk {P : TabW} (K14 : Tk14 P) (sz : Nat) (hsz : sz < 18446744073709551616) (a : Option Addr) (n c : Nat) (x0 : Ac14) (hx0 : Ac14Ok x0) (w : World) (hn : n ≤ maxLen) (h : ∃ es, Row a14 w w.heap.size a n es ∧ ∀ x ∈ es, Ac14Ok x) : Calls Try.prog 10 #[.int .u64 (sz : Int), .slice a n c, .agg (a14 x0).toArray] w fun e w' => e = .returned (.bool true) ∧ Below w.heap.size w w' := by
  obtain ⟨es, hr, hok⟩ := h
  unfold maxLen at hn
  have HOK := Lib.hid hok
  have HA := Lib.hid (fun W => alive14_calls K14 W)
  have HNEW := Lib.hid (fun W => K14.new sz hsz W)
  clear hok
  have HL0 := Lib.hid (bel_new (Below.refl w.heap.size w) (.cells (a14 x0).toArray 35))
  have BX0 := Lib.hid (Blk.new w 35 (a14 x0))
  have HRW := Lib.hid (show Row a14 (w.alloc (.cells (a14 x0).toArray 35)) (w.alloc (.cells (a14 x0).toArray 35)).heap.size a n es from (hr.below HL0.out).more HL0.out.size)
  clear hr
  go_enter Try.func10, Try.ntmps10
  go_wp2_with fail
  generalize (w.alloc (.cells (a14 x0).toArray 35)) = w1 at *
  have HR := HRW
  ((with_reducible refine (HA.out _).mono ?_))
  rintro e w2 ⟨rfl, b1⟩
  have B1 := Lib.hid b1
  clear b1 HA
  go_wp2_with fail
  ((with_reducible refine (HNEW.out w2).mono ?_))
  intro e w3 hnew
  obtain ⟨q, S, rfl, st⟩ := St14.start B1.out hnew
  have ST := Lib.hid st
  clear st hnew HNEW B1
  go_upto_block 0 with fail
  go_cut [8] from 20 to 35 (fun t W => ∃ (i : Nat) (l : List Et) (S : List Nat), i ≤ n ∧ i ≤ 80 ∧ t = .int .i64 (i : Int) ∧ St14 P w1 W q sz l S)
  case first =>
    go_wp2_with fail
    go_loopw [8] (fun t W => ∃ (i : Nat) (l : List Et) (S : List Nat), i ≤ n ∧ i ≤ 80 ∧ t = .int .i64 (i : Int) ∧ St14 P w1 W q sz l S) (fun t W => 80 - (intOf t).toNat)
    case atStart => exact ⟨0, [], S, by omega, by omega, rfl, ST.out⟩
    case round =>
      clear ST
      obtain ⟨i, l, S1, hin, hi80, rfl, hst⟩ := hrel
      have S1' := Lib.hid hst
      clear hst
      by_cases hlt : i < n ∧ i < 80
      · obtain ⟨hl1, hl2⟩ := hlt
        have i1 : (i : Int) < (n : Int) := by omega
        have i2 : (i : Int) < 80 := by omega
        obtain ⟨b, o, x, rfl, hx, hb, hc⟩ := row_cells a14_length HR.out hl1
        have hxo := HOK.out x (List.mem_of_getElem? hx)
        have hce := hc wr S1'.out.bel
        have y0 : wr.cell? ⟨b, o + i * 12, none⟩ = some (.bool x.dr) := hce 0 _ rfl
        have y1 : wr.cell? ⟨b, o + i * 12 + 1, none⟩ = some (.bool x.fk) := hce 1 _ rfl
        have y2 : wr.cell? ⟨b, o + i * 12 + 2, none⟩ = some (.int .i64 x.k.tail) := hce 2 _ rfl
        have y3 : wr.cell? ⟨b, o + i * 12 + 3, none⟩ = some (.int .i64 x.k.tun) := hce 3 _ rfl
        have y4 : wr.cell? ⟨b, o + i * 12 + 4, none⟩ = some (.int .i64 x.k.head) := hce 4 _ rfl
        have y5 : wr.cell? ⟨b, o + i * 12 + 5, none⟩ = some (.int .i64 x.k.lsp) := hce 5 _ rfl
        have y6 : wr.cell? ⟨b, o + i * 12 + 6, none⟩ = some (.int .u64 (x.w.bw : Int)) := hce 6 _ rfl
        have y7 : wr.cell? ⟨b, o + i * 12 + 7, none⟩ = some (.int .i64 x.w.su) := hce 7 _ rfl
        have y8 : wr.cell? ⟨b, o + i * 12 + 8, none⟩ = some (.int .i64 x.w.ho) := hce 8 _ rfl
        have y9 : wr.cell? ⟨b, o + i * 12 + 9, none⟩ = some (.int .u32 (x.w.an : Int)) := hce 9 _ rfl
        have y10 : wr.cell? ⟨b, o + i * 12 + 10, none⟩ = some (.int .u32 (x.w.al : Int)) := hce 10 _ rfl
        have y11 : wr.cell? ⟨b, o + i * 12 + 11, none⟩ = some (.int .u32 (x.w.no : Int)) := hce 11 _ rfl
        have hd : Calls Try.prog 27 #[.pointer (some ⟨q, 0, none⟩), .agg #[.bool x.dr, .bool x.fk, .int .i64 x.k.tail, .int .i64 x.k.tun, .int .i64 x.k.head, .int .i64 x.k.lsp, .int .u64 (x.w.bw : Int), .int .i64 x.w.su, .int .i64 x.w.ho, .int .u32 (x.w.an : Int), .int .u32 (x.w.al : Int), .int .u32 (x.w.no : Int)]] wr (Adt14 P S1 q sz (aDo sz l x) wr) := does14_calls K14 S1'.out.p x hxo
        have HD := Lib.hid hd
        have HI := Lib.hid (And.intro hl1 hl2)
        clear hd hx hb hc hce hxo hl1 hl2
        go_wp2_with fail
        ((with_reducible refine HD.out.mono ?_))
        rintro e v1 ⟨S2, A2, c2, rfl, p2, m2, r2⟩
        have P2 := Lib.hid (S1'.out.mv p2 m2)
        clear p2 m2 r2 HD S1' y0 y1 y2 y3 y4 y5 y6 y7 y8 y9 y10 y11
        go_wp2_with fail
        go_roundw
        case rel => exact ⟨i + 1, _, S2, by have := HI.out; omega, by have := HI.out; omega, by first | rfl | (simp; omega), P2.out⟩
        case measure => have := HI.out; simp [intOf]; omega
      · by_cases h1 : i < n
        · have i2 : (i : Int) < (n : Int) := by omega
          have i3 : ¬ (i : Int) < 80 := by omega
          clear hlt
          go_wp2_with fail
          go_meet
          exact ⟨i, l, S1, hin, hi80, rfl, S1'.out⟩
        · have i2 : ¬ (i : Int) < (n : Int) := by omega
          clear hlt
          go_wp2_with fail
          go_meet
          exact ⟨i, l, S1, hin, hi80, rfl, S1'.out⟩
  case rest =>
    obtain ⟨i9, l, S1, _, _, rfl, hst⟩ := hcut
    have P3 := Lib.hid hst
    clear hst ST
    have HE := Lib.hid (K14.entries P3.out.p)
    go_wp2_with fail
    ((with_reducible refine HE.out.mono ?_))
    rintro e v2 ⟨S3, A3, c3, rfl, p3, m3, r3⟩
    have P4 := Lib.hid (P3.out.mv p3 m3)
    have R4 := Lib.hid r3
    clear p3 m3 r3 HE P3
    have TB := Lib.hid (K14.tbl P4.out.p)
    obtain ⟨m, hm⟩ : ∃ m, l.length = m := ⟨_, rfl⟩
    have HM := Lib.hid hm
    have hm64 : m ≤ 64 := by rw [← hm]; exact TB.out.len
    rw [hm] at R4 ⊢
    have HM64 := Lib.hid hm64
    clear hm hm64
    have BX := Lib.hid (fun W (hW : Below w1.heap.size w1 W) => BX0.out.below hW)
    have HAD := Lib.hid (aAdmit_is (size := sz) TB.out.srt x0.k x0.w)
    have hd : Calls Try.prog 19 #[.pointer (some ⟨q, 0, none⟩), .agg #[.int .i64 x0.k.tail, .int .i64 x0.k.tun, .int .i64 x0.k.head, .int .i64 x0.k.lsp], .agg #[.int .u64 (x0.w.bw : Int), .int .i64 x0.w.su, .int .i64 x0.w.ho, .int .u32 (x0.w.an : Int), .int .u32 (x0.w.al : Int), .int .u32 (x0.w.no : Int)]] v2 (Adt14 P S3 q sz (aAdmit sz l x0.k x0.w) v2) := K14.adm P4.out.p x0.k x0.w hx0.1 hx0.2
    have HD := Lib.hid hd
    clear hd
    have y0 : v2.cell? ⟨w.heap.size, 0, none⟩ = some (.bool x0.dr) := (BX.out v2 P4.out.bel).cell 0
    have y1 : v2.cell? ⟨w.heap.size, 1, none⟩ = some (.bool x0.fk) := (BX.out v2 P4.out.bel).cell 1
    have y2 : v2.cell? ⟨w.heap.size, 2, none⟩ = some (.int .i64 x0.k.tail) := (BX.out v2 P4.out.bel).cell 2
    have y3 : v2.cell? ⟨w.heap.size, 3, none⟩ = some (.int .i64 x0.k.tun) := (BX.out v2 P4.out.bel).cell 3
    have y4 : v2.cell? ⟨w.heap.size, 4, none⟩ = some (.int .i64 x0.k.head) := (BX.out v2 P4.out.bel).cell 4
    have y5 : v2.cell? ⟨w.heap.size, 5, none⟩ = some (.int .i64 x0.k.lsp) := (BX.out v2 P4.out.bel).cell 5
    have y6 : v2.cell? ⟨w.heap.size, 6, none⟩ = some (.int .u64 (x0.w.bw : Int)) := (BX.out v2 P4.out.bel).cell 6
    have y7 : v2.cell? ⟨w.heap.size, 7, none⟩ = some (.int .i64 x0.w.su) := (BX.out v2 P4.out.bel).cell 7
    have y8 : v2.cell? ⟨w.heap.size, 8, none⟩ = some (.int .i64 x0.w.ho) := (BX.out v2 P4.out.bel).cell 8
    have y9 : v2.cell? ⟨w.heap.size, 9, none⟩ = some (.int .u32 (x0.w.an : Int)) := (BX.out v2 P4.out.bel).cell 9
    have y10 : v2.cell? ⟨w.heap.size, 10, none⟩ = some (.int .u32 (x0.w.al : Int)) := (BX.out v2 P4.out.bel).cell 10
    have y11 : v2.cell? ⟨w.heap.size, 11, none⟩ = some (.int .u32 (x0.w.no : Int)) := (BX.out v2 P4.out.bel).cell 11
    generalize aAdmit sz l x0.k x0.w = r at *
    obtain ⟨l2, gs, E⟩ := r
    go_wp2_with fail
    ((with_reducible refine HD.out.mono ?_))
    rintro e v3 ⟨S4, A4, c4, rfl, p4, m4, r4⟩
    have P5 := Lib.hid (P4.out.mv p4 m4)
    have R5 := Lib.hid (R4.out.mv m4)
    simp only at P5 r4 ⊢
    have RG := Lib.hid r4
    clear p4 m4 r4 HD P4 R4 y0 y1 y2 y3 y4 y5 y6 y7 y8 y9 y10 y11
    have HS := Lib.hid TB.out.srt
    by_cases hE : E = 0
    · subst hE
      by_cases hG : gs = []
      · subst hG
        obtain ⟨hw, hh⟩ := adm_quiet HS.out HAD.out rfl rfl
        simp only at hw
        have HW := Lib.hid (And.intro hw hh)
        have TB2 := Lib.hid (K14.tbl P5.out.p)
        clear hw hh HAD TB
        have HF : Hid (∀ W A n c, Row ent W W.heap.size A n l2 → n ≤ 64 → Calls Try.prog 30 #[.slice A n c, .agg #[.int .i64 x0.k.tail, .int .i64 x0.k.tun, .int .i64 x0.k.head, .int .i64 x0.k.lsp]] W fun e w' => e = .returned (.tuple #[.agg (wnc x0.w).toArray, .bool true]) ∧ Below W.heap.size W w') := Lib.hid (fun W A n c hr hn => by
          have h9 := find14_calls A n c l2 x0.k W hr (by omega)
          unfold FindP14 at h9
          rw [show l2.find? (fun y => decide (y.k = x0.k)) = some ⟨x0.k, x0.w⟩ by rw [HW.out.1]; exact find_one (x := ⟨x0.k, x0.w⟩) (by rw [← HW.out.1]; exact TB2.out.srt) (mem_wIns.2 (.inr rfl))] at h9
          exact h9)
        have HWI := Lib.hid (show (Try.prog.info? 33).map (·.size) = some (wnc x0.w).length from sizeWant14)
        have HWO := Lib.hid (wnc_one x0.w)
        go_upto_region 14 with fail
        go_cut [12, 13] from 54 to 61 (fun s t W => ∃ (S : List Nat) (b : Nat), s = .pointer (some ⟨b, 0, none⟩) ∧ t = .bool true ∧ St14 P w1 W q sz l2 S ∧ BlkT W S b 33 (wnc x0.w) ∧ RowT ent W S A3 m l)
        case first =>
          refine region_way (fun W => Below w1.heap.size w1 W) (.step 0 true (.step 2 true (.step 3 true (.both 1 8 (.both 4 8 (.step 5 true (.step 6 true (.step 7 true (.step 8 false (.step 9 false (.step 10 true .done)))))) (.step 4 false (.step 5 true (.step 6 true (.step 7 true (.step 9 false (.step 10 true .done))))))) (.step 1 false (.step 4 false (.step 5 true (.step 6 true (.step 7 true (.step 9 false (.step 10 true .done)))))))))))
            (by kernel_rfl) (by kernel_rfl) (by kernel_rfl) (by kernel_rfl) (fun _ _ _ _ _ h => h) (P5.out.bel).drew ?_
          repeat first
            | refine way_pure (v := ?_) rfl (by rfl) (fun W hW => ?_) ?_
              rotate_left
              · have hc2 : W.cell? ⟨w.heap.size, 2, none⟩ = some (.int .i64 x0.k.tail) := (BX.out W hW).cell 2
                have hc3 : W.cell? ⟨w.heap.size, 3, none⟩ = some (.int .i64 x0.k.tun) := (BX.out W hW).cell 3
                have hc4 : W.cell? ⟨w.heap.size, 4, none⟩ = some (.int .i64 x0.k.head) := (BX.out W hW).cell 4
                have hc5 : W.cell? ⟨w.heap.size, 5, none⟩ = some (.int .i64 x0.k.lsp) := (BX.out W hW).cell 5
                clear hW
                go_simp
                with_reducible rfl
              simp only [Act.put, List.setIfInBounds_toArray, List.set_cons_zero, List.set_cons_succ]
            | refine way_skip rfl (by rfl) ?_
              simp only [Act.put, undef, List.setIfInBounds_toArray, List.set_cons_zero, List.set_cons_succ]
          have PX0 := Lib.hid (P5.out.below K14 (Below.refl _ _).drew)
          have UX0 := Lib.hid (R5.out.below (Below.refl _ _).drew)
          generalize v3.drew = wx0 at *
          refine way_both rfl (by rfl) rfl (by rfl) (fun K hK => ?_) (fun K hK => ?_) 
          · skip
            go_simp
            ((with_reducible refine (K14.entries PX0.out.p).mono ?_))
            rintro e wx1 ⟨Swx1, Awx1, cwx1, rfl, p, m, r⟩
            have Pwx1 := Lib.hid (PX0.out.mv p m)
            have Uwx1 := Lib.hid (UX0.out.mv m)
            have Rwx1 := Lib.hid r
            clear p m r
            go_simp
            refine hK _ _ (fun W => Below w1.heap.size w1 W) (fun W h => h) Pwx1.out.bel ?_
            clear hK K
            refine way_both rfl (by rfl) rfl (by rfl) (fun K hK => ?_) (fun K hK => ?_) 
            · skip
              go_simp
              ((with_reducible refine (HF.out _ _ _ _ Rwx1.out.row (TB2.out.len)).mono ?_))
              rintro e wx2 ⟨rfl, hb⟩
              have Pwx2 := Lib.hid (Pwx1.out.below K14 hb)
              have Uwx2 := Lib.hid (Uwx1.out.below hb)
              have Rwx2 := Lib.hid (Rwx1.out.below hb)
              clear hb
              go_simp
              refine hK _ _ (fun W => Below w1.heap.size w1 W) (fun W h => h) Pwx2.out.bel ?_
              clear hK K
              repeat first
                | refine way_pure (v := ?_) rfl (by rfl) (fun W hW => ?_) ?_
                  rotate_left
                  · have hc2 : W.cell? ⟨w.heap.size, 2, none⟩ = some (.int .i64 x0.k.tail) := (BX.out W hW).cell 2
                    have hc3 : W.cell? ⟨w.heap.size, 3, none⟩ = some (.int .i64 x0.k.tun) := (BX.out W hW).cell 3
                    have hc4 : W.cell? ⟨w.heap.size, 4, none⟩ = some (.int .i64 x0.k.head) := (BX.out W hW).cell 4
                    have hc5 : W.cell? ⟨w.heap.size, 5, none⟩ = some (.int .i64 x0.k.lsp) := (BX.out W hW).cell 5
                    clear hW
                    go_simp
                    with_reducible rfl
                  simp only [Act.put, List.setIfInBounds_toArray, List.set_cons_zero, List.set_cons_succ]
                | refine way_skip rfl (by rfl) ?_
                  simp only [Act.put, undef, List.setIfInBounds_toArray, List.set_cons_zero, List.set_cons_succ]
              refine way_make rfl (by rfl) (fun K hK => ?_)
              go_simp
              have hbn : Below wx2.heap.size wx2 (wx2.alloc (.cells #[.int .u64 0, .int .i64 0, .int .i64 0, .int .u32 0, .int .u32 0, .int .u32 0] 33)) := bel_new (Below.refl _ _) _
              have hpn := Pwx2.out.newb K14 33 [.int .u64 0, .int .i64 0, .int .i64 0, .int .u32 0, .int .u32 0, .int .u32 0]
              have hge := Pwx2.out.bel.size
              have hP := Pwx2.out.below K14 hbn
              have hU := Uwx2.out.below hbn
              have hR := Rwx2.out.below hbn
              have BN := Lib.hid (show w1.heap.size ≤ wx2.heap.size from hge)
              have UN := Lib.hid Uwx2.out.apart
              have Bwx3 := Lib.hid (show BlkT (wx2.alloc (.cells #[.int .u64 0, .int .i64 0, .int .i64 0, .int .u32 0, .int .u32 0, .int .u32 0] 33)) _ wx2.heap.size 33 [.int .u64 0, .int .i64 0, .int .i64 0, .int .u32 0, .int .u32 0, .int .u32 0] from hpn)
              clear hpn hge hbn
              have Pwx3 := Lib.hid hP
              have Uwx3 := Lib.hid hU
              clear hU
              clear hP
              have Rwx3 := Lib.hid hR
              clear hR
              generalize wx2.alloc (.cells #[.int .u64 0, .int .i64 0, .int .i64 0, .int .u32 0, .int .u32 0, .int .u32 0] 33) = wx3 at *
              generalize wx2.heap.size = qB at *
              refine hK _ _ (fun W => Below w1.heap.size w1 W) (fun W h => h) Pwx3.out.bel ?_
              clear hK K
              refine way_make rfl (by rfl) (fun K hK => ?_)
              refine wp_store8 (vs := wnc x0.w) rfl rfl rfl Bwx3.out.blk HWI.out rfl HWO.out ?_
              intro wx4 hbs hgs hss
              have Pwx4 := Lib.hid (Pwx3.out.stored K14 hgs Bwx3.out.off BN.out)
              have Uwx4 := Lib.hid (Uwx3.out.stored hgs UN.out)
              have Bwx4 := Lib.hid (BlkT.mk hbs Bwx3.out.off)
              clear hbs hgs hss
              refine hK _ _ (fun W => Below w1.heap.size w1 W) (fun W h => h) Pwx4.out.bel ?_
              clear hK K
              repeat first
                | refine way_pure (v := ?_) rfl (by rfl) (fun W hW => ?_) ?_
                  rotate_left
                  · have hc2 : W.cell? ⟨w.heap.size, 2, none⟩ = some (.int .i64 x0.k.tail) := (BX.out W hW).cell 2
                    have hc3 : W.cell? ⟨w.heap.size, 3, none⟩ = some (.int .i64 x0.k.tun) := (BX.out W hW).cell 3
                    have hc4 : W.cell? ⟨w.heap.size, 4, none⟩ = some (.int .i64 x0.k.head) := (BX.out W hW).cell 4
                    have hc5 : W.cell? ⟨w.heap.size, 5, none⟩ = some (.int .i64 x0.k.lsp) := (BX.out W hW).cell 5
                    clear hW
                    go_simp
                    with_reducible rfl
                  simp only [Act.put, List.setIfInBounds_toArray, List.set_cons_zero, List.set_cons_succ]
                | refine way_skip rfl (by rfl) ?_
                  simp only [Act.put, undef, List.setIfInBounds_toArray, List.set_cons_zero, List.set_cons_succ]
              refine way_done ?_
              go_wp2_with fail
              go_meet
              exact ⟨_, _, rfl, rfl, Pwx4.out, Bwx4.out, Uwx4.out⟩
            · skip
              go_simp
              have hbn : Below wx1.heap.size wx1 (wx1.alloc (.cells #[.int .u64 0, .int .i64 0, .int .i64 0, .int .u32 0, .int .u32 0, .int .u32 0] 33)) := bel_new (Below.refl _ _) _
              have hpn := Pwx1.out.newb K14 33 [.int .u64 0, .int .i64 0, .int .i64 0, .int .u32 0, .int .u32 0, .int .u32 0]
              have hge := Pwx1.out.bel.size
              have hP := Pwx1.out.below K14 hbn
              have hU := Uwx1.out.below hbn
              have hR := Rwx1.out.below hbn
              have BN := Lib.hid (show w1.heap.size ≤ wx1.heap.size from hge)
              have UN := Lib.hid Uwx1.out.apart
              have Bwx2 := Lib.hid (show BlkT (wx1.alloc (.cells #[.int .u64 0, .int .i64 0, .int .i64 0, .int .u32 0, .int .u32 0, .int .u32 0] 33)) _ wx1.heap.size 33 [.int .u64 0, .int .i64 0, .int .i64 0, .int .u32 0, .int .u32 0, .int .u32 0] from hpn)
              clear hpn hge hbn
              have Pwx2 := Lib.hid hP
              have Uwx2 := Lib.hid hU
              clear hU
              clear hP
              have Rwx2 := Lib.hid hR
              clear hR
              generalize wx1.alloc (.cells #[.int .u64 0, .int .i64 0, .int .i64 0, .int .u32 0, .int .u32 0, .int .u32 0] 33) = wx2 at *
              generalize wx1.heap.size = qB at *
              refine hK _ _ (fun W => Below w1.heap.size w1 W) (fun W h => h) Pwx2.out.bel ?_
              clear hK K
              refine way_make rfl (by rfl) (fun K hK => ?_)
              go_simp
              ((with_reducible refine (HF.out _ _ _ _ Rwx2.out.row (TB2.out.len)).mono ?_))
              rintro e wx3 ⟨rfl, hb⟩
              have Pwx3 := Lib.hid (Pwx2.out.below K14 hb)
              have Uwx3 := Lib.hid (Uwx2.out.below hb)
              have Rwx3 := Lib.hid (Rwx2.out.below hb)
              have Bwx3 := Lib.hid (Bwx2.out.below hb)
              clear hb
              go_simp
              refine hK _ _ (fun W => Below w1.heap.size w1 W) (fun W h => h) Pwx3.out.bel ?_
              clear hK K
              repeat first
                | refine way_pure (v := ?_) rfl (by rfl) (fun W hW => ?_) ?_
                  rotate_left
                  · have hc2 : W.cell? ⟨w.heap.size, 2, none⟩ = some (.int .i64 x0.k.tail) := (BX.out W hW).cell 2
                    have hc3 : W.cell? ⟨w.heap.size, 3, none⟩ = some (.int .i64 x0.k.tun) := (BX.out W hW).cell 3
                    have hc4 : W.cell? ⟨w.heap.size, 4, none⟩ = some (.int .i64 x0.k.head) := (BX.out W hW).cell 4
                    have hc5 : W.cell? ⟨w.heap.size, 5, none⟩ = some (.int .i64 x0.k.lsp) := (BX.out W hW).cell 5
                    clear hW
                    go_simp
                    with_reducible rfl
                  simp only [Act.put, List.setIfInBounds_toArray, List.set_cons_zero, List.set_cons_succ]
                | refine way_skip rfl (by rfl) ?_
                  simp only [Act.put, undef, List.setIfInBounds_toArray, List.set_cons_zero, List.set_cons_succ]
              refine way_make rfl (by rfl) (fun K hK => ?_)
              refine wp_store8 (vs := wnc x0.w) rfl rfl rfl Bwx3.out.blk HWI.out rfl HWO.out ?_
              intro wx4 hbs hgs hss
              have Pwx4 := Lib.hid (Pwx3.out.stored K14 hgs Bwx3.out.off BN.out)
              have Uwx4 := Lib.hid (Uwx3.out.stored hgs UN.out)
              have Bwx4 := Lib.hid (BlkT.mk hbs Bwx3.out.off)
              clear hbs hgs hss
              refine hK _ _ (fun W => Below w1.heap.size w1 W) (fun W h => h) Pwx4.out.bel ?_
              clear hK K
              repeat first
                | refine way_pure (v := ?_) rfl (by rfl) (fun W hW => ?_) ?_
                  rotate_left
                  · have hc2 : W.cell? ⟨w.heap.size, 2, none⟩ = some (.int .i64 x0.k.tail) := (BX.out W hW).cell 2
                    have hc3 : W.cell? ⟨w.heap.size, 3, none⟩ = some (.int .i64 x0.k.tun) := (BX.out W hW).cell 3
                    have hc4 : W.cell? ⟨w.heap.size, 4, none⟩ = some (.int .i64 x0.k.head) := (BX.out W hW).cell 4
                    have hc5 : W.cell? ⟨w.heap.size, 5, none⟩ = some (.int .i64 x0.k.lsp) := (BX.out W hW).cell 5
                    clear hW
                    go_simp
                    with_reducible rfl
                  simp only [Act.put, List.setIfInBounds_toArray, List.set_cons_zero, List.set_cons_succ]
                | refine way_skip rfl (by rfl) ?_
                  simp only [Act.put, undef, List.setIfInBounds_toArray, List.set_cons_zero, List.set_cons_succ]
              refine way_done ?_
              go_wp2_with fail
              go_meet
              exact ⟨_, _, rfl, rfl, Pwx4.out, Bwx4.out, Uwx4.out⟩
          · skip
            go_simp
            have hbn : Below wx0.heap.size wx0 (wx0.alloc (.cells #[.int .u64 0, .int .i64 0, .int .i64 0, .int .u32 0, .int .u32 0, .int .u32 0] 33)) := bel_new (Below.refl _ _) _
            have hpn := PX0.out.newb K14 33 [.int .u64 0, .int .i64 0, .int .i64 0, .int .u32 0, .int .u32 0, .int .u32 0]
            have hge := PX0.out.bel.size
            have hP := PX0.out.below K14 hbn
            have hU := UX0.out.below hbn
            have BN := Lib.hid (show w1.heap.size ≤ wx0.heap.size from hge)
            have UN := Lib.hid UX0.out.apart
            have Bwx1 := Lib.hid (show BlkT (wx0.alloc (.cells #[.int .u64 0, .int .i64 0, .int .i64 0, .int .u32 0, .int .u32 0, .int .u32 0] 33)) _ wx0.heap.size 33 [.int .u64 0, .int .i64 0, .int .i64 0, .int .u32 0, .int .u32 0, .int .u32 0] from hpn)
            clear hpn hge hbn
            have Pwx1 := Lib.hid hP
            have Uwx1 := Lib.hid hU
            clear hU
            clear hP
            generalize wx0.alloc (.cells #[.int .u64 0, .int .i64 0, .int .i64 0, .int .u32 0, .int .u32 0, .int .u32 0] 33) = wx1 at *
            generalize wx0.heap.size = qB at *
            refine hK _ _ (fun W => Below w1.heap.size w1 W) (fun W h => h) Pwx1.out.bel ?_
            clear hK K
            refine way_make rfl (by rfl) (fun K hK => ?_)
            go_simp
            ((with_reducible refine (K14.entries Pwx1.out.p).mono ?_))
            rintro e wx2 ⟨Swx2, Awx2, cwx2, rfl, p, m, r⟩
            have Pwx2 := Lib.hid (Pwx1.out.mv p m)
            have Uwx2 := Lib.hid (Uwx1.out.mv m)
            have Bwx2 := Lib.hid (Bwx1.out.mv m)
            have Rwx2 := Lib.hid r
            clear p m r
            go_simp
            refine hK _ _ (fun W => Below w1.heap.size w1 W) (fun W h => h) Pwx2.out.bel ?_
            clear hK K
            refine way_make rfl (by rfl) (fun K hK => ?_)
            go_simp
            ((with_reducible refine (HF.out _ _ _ _ Rwx2.out.row (TB2.out.len)).mono ?_))
            rintro e wx3 ⟨rfl, hb⟩
            have Pwx3 := Lib.hid (Pwx2.out.below K14 hb)
            have Uwx3 := Lib.hid (Uwx2.out.below hb)
            have Bwx3 := Lib.hid (Bwx2.out.below hb)
            have Rwx3 := Lib.hid (Rwx2.out.below hb)
            clear hb
            go_simp
            refine hK _ _ (fun W => Below w1.heap.size w1 W) (fun W h => h) Pwx3.out.bel ?_
            clear hK K
            repeat first
              | refine way_pure (v := ?_) rfl (by rfl) (fun W hW => ?_) ?_
                rotate_left
                · have hc2 : W.cell? ⟨w.heap.size, 2, none⟩ = some (.int .i64 x0.k.tail) := (BX.out W hW).cell 2
                  have hc3 : W.cell? ⟨w.heap.size, 3, none⟩ = some (.int .i64 x0.k.tun) := (BX.out W hW).cell 3
                  have hc4 : W.cell? ⟨w.heap.size, 4, none⟩ = some (.int .i64 x0.k.head) := (BX.out W hW).cell 4
                  have hc5 : W.cell? ⟨w.heap.size, 5, none⟩ = some (.int .i64 x0.k.lsp) := (BX.out W hW).cell 5
                  clear hW
                  go_simp
                  with_reducible rfl
                simp only [Act.put, List.setIfInBounds_toArray, List.set_cons_zero, List.set_cons_succ]
              | refine way_skip rfl (by rfl) ?_
                simp only [Act.put, undef, List.setIfInBounds_toArray, List.set_cons_zero, List.set_cons_succ]
            refine way_make rfl (by rfl) (fun K hK => ?_)
            refine wp_store8 (vs := wnc x0.w) rfl rfl rfl Bwx3.out.blk HWI.out rfl HWO.out ?_
            intro wx4 hbs hgs hss
            have Pwx4 := Lib.hid (Pwx3.out.stored K14 hgs Bwx3.out.off BN.out)
            have Uwx4 := Lib.hid (Uwx3.out.stored hgs UN.out)
            have Bwx4 := Lib.hid (BlkT.mk hbs Bwx3.out.off)
            clear hbs hgs hss
            refine hK _ _ (fun W => Below w1.heap.size w1 W) (fun W h => h) Pwx4.out.bel ?_
            clear hK K
            repeat first
              | refine way_pure (v := ?_) rfl (by rfl) (fun W hW => ?_) ?_
                rotate_left
                · have hc2 : W.cell? ⟨w.heap.size, 2, none⟩ = some (.int .i64 x0.k.tail) := (BX.out W hW).cell 2
                  have hc3 : W.cell? ⟨w.heap.size, 3, none⟩ = some (.int .i64 x0.k.tun) := (BX.out W hW).cell 3
                  have hc4 : W.cell? ⟨w.heap.size, 4, none⟩ = some (.int .i64 x0.k.head) := (BX.out W hW).cell 4
                  have hc5 : W.cell? ⟨w.heap.size, 5, none⟩ = some (.int .i64 x0.k.lsp) := (BX.out W hW).cell 5
                  clear hW
                  go_simp
                  with_reducible rfl
                simp only [Act.put, List.setIfInBounds_toArray, List.set_cons_zero, List.set_cons_succ]
              | refine way_skip rfl (by rfl) ?_
                simp only [Act.put, undef, List.setIfInBounds_toArray, List.set_cons_zero, List.set_cons_succ]
            refine way_done ?_
            go_wp2_with fail
            go_meet
            exact ⟨_, _, rfl, rfl, Pwx4.out, Bwx4.out, Uwx4.out⟩
        case rest =>
          obtain ⟨S5, b12, rfl, rfl, hp, hbk, hu⟩ := hcut
          have U6 := Lib.hid hu
          have P6 := Lib.hid hp
          have BK := Lib.hid hbk
          clear hp hbk P5
          have HNE := Lib.hid (fun W => ne_selfW14 x0.w W)
          have y0 : wc.cell? ⟨w.heap.size, 0, none⟩ = some (.bool x0.dr) := (BX.out wc P6.out.bel).cell 0
          have y1 : wc.cell? ⟨w.heap.size, 1, none⟩ = some (.bool x0.fk) := (BX.out wc P6.out.bel).cell 1
          have y2 : wc.cell? ⟨w.heap.size, 2, none⟩ = some (.int .i64 x0.k.tail) := (BX.out wc P6.out.bel).cell 2
          have y3 : wc.cell? ⟨w.heap.size, 3, none⟩ = some (.int .i64 x0.k.tun) := (BX.out wc P6.out.bel).cell 3
          have y4 : wc.cell? ⟨w.heap.size, 4, none⟩ = some (.int .i64 x0.k.head) := (BX.out wc P6.out.bel).cell 4
          have y5 : wc.cell? ⟨w.heap.size, 5, none⟩ = some (.int .i64 x0.k.lsp) := (BX.out wc P6.out.bel).cell 5
          have y6 : wc.cell? ⟨w.heap.size, 6, none⟩ = some (.int .u64 (x0.w.bw : Int)) := (BX.out wc P6.out.bel).cell 6
          have y7 : wc.cell? ⟨w.heap.size, 7, none⟩ = some (.int .i64 x0.w.su) := (BX.out wc P6.out.bel).cell 7
          have y8 : wc.cell? ⟨w.heap.size, 8, none⟩ = some (.int .i64 x0.w.ho) := (BX.out wc P6.out.bel).cell 8
          have y9 : wc.cell? ⟨w.heap.size, 9, none⟩ = some (.int .u32 (x0.w.an : Int)) := (BX.out wc P6.out.bel).cell 9
          have y10 : wc.cell? ⟨w.heap.size, 10, none⟩ = some (.int .u32 (x0.w.al : Int)) := (BX.out wc P6.out.bel).cell 10
          have y11 : wc.cell? ⟨w.heap.size, 11, none⟩ = some (.int .u32 (x0.w.no : Int)) := (BX.out wc P6.out.bel).cell 11
          have z0 : wc.cell? ⟨b12, 0, none⟩ = some (.int .u64 (x0.w.bw : Int)) := BK.out.blk.cell 0
          have z1 : wc.cell? ⟨b12, 1, none⟩ = some (.int .i64 x0.w.su) := BK.out.blk.cell 1
          have z2 : wc.cell? ⟨b12, 2, none⟩ = some (.int .i64 x0.w.ho) := BK.out.blk.cell 2
          have z3 : wc.cell? ⟨b12, 3, none⟩ = some (.int .u32 (x0.w.an : Int)) := BK.out.blk.cell 3
          have z4 : wc.cell? ⟨b12, 4, none⟩ = some (.int .u32 (x0.w.al : Int)) := BK.out.blk.cell 4
          have z5 : wc.cell? ⟨b12, 5, none⟩ = some (.int .u32 (x0.w.no : Int)) := BK.out.blk.cell 5
          have hne := HNE.out wc
          have hd : Calls Try.prog 18 #[.pointer (some ⟨q, 0, none⟩), .agg #[.int .i64 x0.k.tail, .int .i64 x0.k.tun, .int .i64 x0.k.head, .int .i64 x0.k.lsp]] wc (Drt14 P S5 q sz (aDrop l2 x0.k) wc) := K14.drop P6.out.p x0.k hx0.1
          rw [show aDrop l2 x0.k = (l, 0) by rw [HW.out.1]; exact drop_wIns (x := ⟨x0.k, x0.w⟩) HW.out.2] at hd
          have HD := Lib.hid hd
          clear hd
          go_wp2_with fail
          ((with_reducible refine HD.out.mono ?_))
          rintro e v4 ⟨S6, rfl, p6, m6⟩
          have P7 := Lib.hid (P6.out.mv p6 m6)
          have U7 := Lib.hid (U6.out.mv m6)
          clear p6 m6 HD y0 y1 y2 y3 y4 y5 y6 y7 y8 y9 y10 y11 z0 z1 z2 z3 z4 z5 P6 U6 BK hne
          have hen := K14.entries P7.out.p
          unfold Ent14 at hen
          rw [HM.out] at hen
          have HEN := Lib.hid hen
          clear hen
          go_wp2_with fail
          ((with_reducible refine HEN.out.mono ?_))
          rintro e v5 ⟨S7, A7, c7, rfl, p, m9, r⟩
          have P8 := Lib.hid (P7.out.mv p m9)
          have U8 := Lib.hid (U7.out.mv m9)
          have R8 := Lib.hid r
          clear p m9 r HEN P7 U7
          have ho := ours14_calls A7 m c7 l v5 R8.out.row (by have := HM64.out; omega)
          unfold OurP14 at ho
          rw [HM.out] at ho
          have HO := Lib.hid ho
          clear ho
          go_wp2_with fail
          ((with_reducible refine HO.out.mono ?_))
          rintro e v6 ⟨A8, c8, rfl, hacc, hb⟩
          have P9 := Lib.hid (P8.out.below K14 hb)
          have U9 := Lib.hid (U8.out.below hb)
          have R9 := Lib.hid (show Row ent v6 v6.heap.size A8 m l by have := hacc.row; rw [HM.out] at this; exact this)
          clear hacc hb HO P8 U8 R8
          have ho := ours14_calls A3 m c3 l v6 U9.out.row (by have := HM64.out; omega)
          unfold OurP14 at ho
          rw [HM.out] at ho
          have HO := Lib.hid ho
          clear ho
          go_wp2_with fail
          ((with_reducible refine HO.out.mono ?_))
          rintro e v7 ⟨A9, c9, rfl, hacc, hb⟩
          have P10 := Lib.hid (P9.out.below K14 hb)
          have R10 := Lib.hid ((R9.out.below hb).more hb.size)
          have R11 := Lib.hid (show Row ent v7 v7.heap.size A9 m l by have := hacc.row; rw [HM.out] at this; exact this)
          clear hacc hb HO P9 U9 R9
          have hs := same14_calls A8 A9 m c8 c9 l v7 R10.out R11.out (by have := HM64.out; omega)
          unfold Yes14 at hs
          have HSA := Lib.hid hs
          clear hs
          go_wp2_with fail
          ((with_reducible refine HSA.out.mono ?_))
          rintro e v8 ⟨rfl, hb⟩
          have P11 := Lib.hid (P10.out.below K14 hb)
          clear hb HSA
          go_wp2_with fail
          go_ret
          exact ⟨rfl, HL0.out.trans (P11.out.bel.mono HL0.out.size)⟩
      · obtain ⟨G, hGl⟩ : ∃ G, gs.length = G + 1 := ⟨gs.length - 1, by cases gs with | nil => exact absurd rfl hG | cons _ _ => simp⟩
        simp only [hGl]
        have g1 : ((0 : Int) < ((G + 1 : Nat) : Int)) := by omega
        clear hG hGl
        go_wp2_with fail
        go_ret
        exact ⟨rfl, HL0.out.trans (P5.out.bel.mono HL0.out.size)⟩
    · have g1 : (E != 0) = true := by simpa using hE
      clear hE
      go_wp2_with fail
      go_ret
      exact ⟨rfl, HL0.out.trans (P5.out.bel.mono HL0.out.size)⟩
end Go.Proofs.Ytnkoiageoenfeaa
