/-
  The law AdmitRefused, walked: for any size and any calls the answer is true, and nothing that was there has turned. Condition: what the code must keep (Tk14).
-/
import Derived.Test.YtnkoiageoenfeaaAdmTS
import Derived.Test.YtnkoiageoenfeaaLedgT
import Derived.Deep.CutBlock
namespace Go.Proofs.Ytnkoiageoenfeaa
set_option maxRecDepth 100000
set_option linter.unusedVariables false
open Go.RowKit

theorem infoEntR14 : (Try.prog.info? 63).map (fun i => (i.zero, i.size, i.bytes)) = some (some (.agg #[.int .i64 0, .int .i64 0, .int .i64 0, .int .i64 0, .int .u64 0, .int .i64 0, .int .i64 0, .int .u32 0, .int .u32 0, .int .u32 0]), 10, 72) := by kernel_rfl
theorem sizeEntR14 (x : Et) : (Try.prog.info? 63).map (·.size) = some (ent x).length := by kernel_rfl
theorem sizeActR14 : (Try.prog.info? 35).map (·.size) = some 12 := by kernel_rfl
/-- A call that was refused for want of room. -/
theorem ref_ok {sz : Nat} {l : List Et} (hs : Srt14 l) (x : Ac14) (h : (aDo sz l x).2.2 = 14) : wRight x.w = true ∧ ∀ st : List Et, (∀ y, (y ∈ l ∧ stays14 l x.k x.w.su y) ∨ y = ⟨x.k, x.w⟩ → y ∈ st) → sz < fsum (heldF st) := by
  unfold aDo at h
  split at h
  · unfold aDrop at h
    split at h <;> simp at h
  · have ha := aAdmit_is (size := sz) hs x.k x.w
    generalize aAdmit sz l x.k x.w = r at ha h
    cases ha with
    | bad _ => simp at h
    | have_ _ _ => simp at h
    | full _ _ _ => simp at h
    | room h1 h2 h3 m h4 h5 h6 => exact ⟨h1, fun st hst => refused_ok hs h2 h4 h5 h6 hst⟩
    | ok h1 h2 h3 m h4 h5 h6 => simp at h
theorem accr_oneR {W : World} {x : Et} {g base : Nat} (h : Blk W g 63 (ent x)) (hb : base ≤ g) : AccR ent 10 W base 63 (some ⟨g, 0, none⟩) 1 [x] :=
  ⟨by simp [ent_length], .inr ⟨g, 1, (ent x).toArray, rfl, hb, h, by simp, by unfold maxLen; omega, by simp [ent_length], by
    rw [show ([x] : List Et).length * 10 = (ent x).length from rfl]
    simp⟩⟩
set_option maxHeartbeats 25600000 in
theorem refused14_walk {P : TabW} (K14 : Tk14 P) (sz : Nat) (hsz : sz < 18446744073709551616) (a : Option Addr) (n c : Nat) (w : World) (hn : n ≤ maxLen) (h : ∃ es, Row a14 w w.heap.size a n es ∧ ∀ x ∈ es, Ac14Ok x) : Calls Try.prog 7 #[.int .u64 (sz : Int), .slice a n c] w fun e w' => e = .returned (.bool true) ∧ Below w.heap.size w w' := by
  obtain ⟨es, hr, hok⟩ := h
  unfold maxLen at hn
  have HOK := Lib.hid hok
  have HA := Lib.hid (fun W => alive14_calls K14 W)
  have HNEW := Lib.hid (fun W => K14.new sz hsz W)
  have HR := Lib.hid hr
  have HEI := Lib.hid sizeEntR14
  have HEO := Lib.hid ent_one
  have HAI := Lib.hid (fun x : Ac14 => (show (Try.prog.info? 35).map (·.size) = some (a14 x).length from sizeActR14))
  have HAO := Lib.hid a14_one
  clear hok hr
  go_enter Try.func7, Try.ntmps7
  go_wp2_with fail
  ((with_reducible refine (HA.out _).mono ?_))
  rintro e w2 ⟨rfl, b1⟩
  have B1 := Lib.hid b1
  clear b1 HA
  go_wp2_with fail
  ((with_reducible refine (HNEW.out w2).mono ?_))
  intro e w3 hnew
  obtain ⟨q, S, rfl, st⟩ := St14.start B1.out hnew
  have ST := Lib.hid st
  clear st hnew HNEW B1
  go_wp2_with fail
  go_loopw [6] (fun t W => ∃ (i : Nat) (l : List Et) (S : List Nat), i ≤ n ∧ i ≤ 80 ∧ t = .int .i64 (i : Int) ∧ St14 P w W q sz l S) (fun t W => 80 - (intOf t).toNat)
  case atStart => exact ⟨0, [], S, by omega, by omega, rfl, ST.out⟩
  case round =>
    clear ST
    obtain ⟨i, l, S1, hin, hi80, rfl, hst⟩ := hrel
    have Pwr := Lib.hid hst
    clear hst
    by_cases hlt : i < n ∧ i < 80
    · obtain ⟨hl1, hl2⟩ := hlt
      have i1 : (i : Int) < (n : Int) := by omega
      have i2 : (i : Int) < 80 := by omega
      have i3 : IntKind.i64.wrap ((i : Int) + 1) = ((i + 1 : Nat) : Int) := by rw [IntWalk.i64_in _ (by omega)]; omega
      obtain ⟨b, o, x, rfl, hx, hb, hc⟩ := row_cells a14_length HR.out hl1
      have hxo := HOK.out x (List.mem_of_getElem? hx)
      have HX := Lib.hid (show wr.rangeAt b (o + i * 12) (a14 x) from fun j v hv => hc wr Pwr.out.bel j v hv)
      have HXO := Lib.hid hxo
      have HI := Lib.hid (And.intro hl1 hl2)
      clear hx hb hc hxo hl1 hl2
      have bz := bel_new (Below.refl wr.heap.size wr) (.cells #[.bool false, .bool false, .int .i64 0, .int .i64 0, .int .i64 0, .int .i64 0, .int .u64 0, .int .i64 0, .int .i64 0, .int .u32 0, .int .u32 0, .int .u32 0] 35)
      have BZ := Lib.hid (show BlkT (wr.alloc (.cells #[.bool false, .bool false, .int .i64 0, .int .i64 0, .int .i64 0, .int .i64 0, .int .u64 0, .int .i64 0, .int .i64 0, .int .u32 0, .int .u32 0, .int .u32 0] 35)) _ wr.heap.size 35 [.bool false, .bool false, .int .i64 0, .int .i64 0, .int .i64 0, .int .i64 0, .int .u64 0, .int .i64 0, .int .i64 0, .int .u32 0, .int .u32 0, .int .u32 0] from Pwr.out.newb K14 35 [.bool false, .bool false, .int .i64 0, .int .i64 0, .int .i64 0, .int .i64 0, .int .u64 0, .int .i64 0, .int .i64 0, .int .u32 0, .int .u32 0, .int .u32 0])
      have Pz := Lib.hid (Pwr.out.below K14 bz)
      have BGE := Lib.hid (Pwr.out.bel.size)
      clear bz Pwr
      go_upto_region 10 with (first | (refine step_load_at (o := ⟨some 38, _, _, _, _, _⟩) rfl rfl rfl HX.out Try.underlying35 rfl (HAI.out _) ?_) | ((with_reducible refine step_store (o := ⟨none, _, _, _, _, _⟩) (vs := a14 x) (ty := 35) (x := .tmp 7) (y := .tmp 38) ?_ ?_ ?_ ?_ BZ.out.blk (HAI.out _) rfl (HAO.out _) ?_); (rfl); (rfl); (rfl); (rfl); intro v1 hbs hgs hss))
      have Pv1 := Lib.hid (Pz.out.stored K14 hgs BZ.out.off BGE.out)
      have Qv1 := Lib.hid (BlkT.mk hbs BZ.out.off)
      clear hbs hgs hss BZ BGE Pz
      generalize wr.heap.size = qQ at *
      clear HX
      go_wp2_with fail
      ((with_reducible refine ((K14.entries Pv1.out.p)).mono ?_))
      rintro e v2 ⟨S3, A3, c3, rfl, p, m, r⟩
      have Pv2 := Lib.hid (Pv1.out.mv p m)
      have Qv2 := Lib.hid (Qv1.out.mv m)
      clear Pv1 Qv1
      have Uv2 := Lib.hid r
      clear p m r
      have TB := Lib.hid (K14.tbl Pv2.out.p)
      have BWS := Lib.hid (K14.bw Pv2.out.p)
      obtain ⟨m, hm⟩ : ∃ m, l.length = m := ⟨_, rfl⟩
      have HM := Lib.hid hm
      have hm64 : m ≤ 64 := by rw [← hm]; exact TB.out.len
      have HM64 := Lib.hid hm64
      rw [hm] at Uv2 ⊢
      clear hm hm64
      have hd := does14_calls K14 Pv2.out.p x HXO.out
      have hdo := fun h => ref_ok (sz := sz) TB.out.srt x h
      obtain ⟨r, hr⟩ : ∃ r, aDo sz l x = r := ⟨_, rfl⟩
      rw [hr] at hd
      simp only [hr] at hdo
      obtain ⟨l2, gs, E⟩ := r
      unfold Adt14 at hd
      simp only at hd hdo
      have HD := Lib.hid hd
      have HDO := Lib.hid hdo
      clear hd hdo hr
      go_wp2_with ((with_reducible refine step_load (o := ⟨some 43, _, _, _, _, _⟩) (x := .tmp 7) ?_ ?_ ?_ Qv2.out.blk Try.underlying35 ?_ (HAI.out _) ?_); (rfl); (rfl); (rfl); (rfl))
      ((with_reducible refine (HD.out).mono ?_))
      rintro e v3 ⟨S4, A4, c4, rfl, p, m, r⟩
      have Pv3 := Lib.hid (Pv2.out.mv p m)
      have Qv3 := Lib.hid (Qv2.out.mv m)
      have Uv3 := Lib.hid (Uv2.out.mv m)
      clear Pv2 Qv2 Uv2
      clear p m r
      clear HD
      by_cases hE : E = 14
      · obtain ⟨hrt, hst⟩ := HDO.out hE
        have HRT := Lib.hid hrt
        have HST := Lib.hid hst
        have g1 : (E != 14) = false := by simp [hE]
        have HE := Lib.hid hE
        clear hrt hst hE
        have q2 : v3.cell? ⟨qQ, 2, none⟩ = some (.int .i64 x.k.tail) := Qv3.out.blk.cell 2
        have q3 : v3.cell? ⟨qQ, 3, none⟩ = some (.int .i64 x.k.tun) := Qv3.out.blk.cell 3
        have q4 : v3.cell? ⟨qQ, 4, none⟩ = some (.int .i64 x.k.head) := Qv3.out.blk.cell 4
        have q5 : v3.cell? ⟨qQ, 5, none⟩ = some (.int .i64 x.k.lsp) := Qv3.out.blk.cell 5
        have q6 : v3.cell? ⟨qQ, 6, none⟩ = some (.int .u64 (x.w.bw : Int)) := Qv3.out.blk.cell 6
        have q7 : v3.cell? ⟨qQ, 7, none⟩ = some (.int .i64 x.w.su) := Qv3.out.blk.cell 7
        have q8 : v3.cell? ⟨qQ, 8, none⟩ = some (.int .i64 x.w.ho) := Qv3.out.blk.cell 8
        have q9 : v3.cell? ⟨qQ, 9, none⟩ = some (.int .u32 (x.w.an : Int)) := Qv3.out.blk.cell 9
        have q10 : v3.cell? ⟨qQ, 10, none⟩ = some (.int .u32 (x.w.al : Int)) := Qv3.out.blk.cell 10
        have q11 : v3.cell? ⟨qQ, 11, none⟩ = some (.int .u32 (x.w.no : Int)) := Qv3.out.blk.cell 11
        have BN := Lib.hid (show Blk (v3.alloc (.cells #[.int .i64 x.k.tail, .int .i64 x.k.tun, .int .i64 x.k.head, .int .i64 x.k.lsp, .int .u64 (x.w.bw : Int), .int .i64 x.w.su, .int .i64 x.w.ho, .int .u32 (x.w.an : Int), .int .u32 (x.w.al : Int), .int .u32 (x.w.no : Int)] 63)) v3.heap.size 63 (ent ⟨x.k, x.w⟩) from Blk.new v3 _ _)
        have SN := Lib.hid (bel_new (Below.refl v3.heap.size v3) (.cells #[.int .i64 x.k.tail, .int .i64 x.k.tun, .int .i64 x.k.head, .int .i64 x.k.lsp, .int .u64 (x.w.bw : Int), .int .i64 x.w.su, .int .i64 x.w.ho, .int .u32 (x.w.an : Int), .int .u32 (x.w.al : Int), .int .u32 (x.w.no : Int)] 63))
        go_upto_region 14 with fail
        have SN2 := Lib.hid (show Below v3.heap.size v3 (v3.alloc (.cells #[.int .i64 x.k.tail, .int .i64 x.k.tun, .int .i64 x.k.head, .int .i64 x.k.lsp, .int .u64 (x.w.bw : Int), .int .i64 x.w.su, .int .i64 x.w.ho, .int .u32 (x.w.an : Int), .int .u32 (x.w.al : Int), .int .u32 (x.w.no : Int)] 63)) from SN.out)
        clear SN
        generalize (v3.alloc (.cells #[.int .i64 x.k.tail, .int .i64 x.k.tun, .int .i64 x.k.head, .int .i64 x.k.lsp, .int .u64 (x.w.bw : Int), .int .i64 x.w.su, .int .i64 x.w.ho, .int .u32 (x.w.an : Int), .int .u32 (x.w.al : Int), .int .u32 (x.w.no : Int)] 63)) = y1 at *
        have AC0 := Lib.hid (accr_oneR BN.out (Nat.le_refl _))
        clear q2 q3 q4 q5 q6 q7 q8 q9 q10 q11
        go_wp2_with fail
        go_loopw [11, 57] (fun s t W => ∃ (j : Nat) (st : List Et) (A9 : Option Addr) (c9 sn : Nat), j ≤ m ∧ s = .slice A9 sn c9 ∧ t = .int .i64 (j : Int) ∧ AccR ent 10 W v3.heap.size 63 A9 c9 st ∧ Below v3.heap.size v3 W ∧ st.length = sn ∧ sn ≤ j + 1 ∧ (∀ y ∈ st, y.w.bw < 18446744073709551616) ∧ (∀ y, (y ∈ l.take j ∧ stays14 l x.k x.w.su y) ∨ y = ⟨x.k, x.w⟩ → y ∈ st)) (fun s t W => m - (intOf t).toNat)
        case atStart => exact ⟨0, [⟨x.k, x.w⟩], _, 1, 1, by omega, rfl, rfl, AC0.out, SN2.out, rfl, by omega, fun y hy => (by simp at hy; rw [hy]; exact HXO.out.2.1), fun y hy => (by simpa using hy)⟩
        case round =>
          clear AC0 SN2 BN
          obtain ⟨j, st, A9, c9, sn, hj, rfl, rfl, hacc, hbl, hsn, hsj, hbs, hin2⟩ := hrel
          have AC := Lib.hid hacc
          have SB := Lib.hid hbl
          have HSN := Lib.hid (And.intro hsn hsj)
          have HBS := Lib.hid hbs
          have HIN := Lib.hid hin2
          clear hacc hbl hsn hsj hbs hin2
          by_cases hlt : j < m
          · obtain ⟨b3, o3, xx, rfl, hxx, hb3, hc3⟩ := row_cells ent_length Uv3.out.row hlt
            have hxl : xx ∈ l := List.mem_of_getElem? hxx
            have htk : l.take (j + 1) = l.take j ++ [xx] := take_snoc14 hxx
            have HXX := Lib.hid (show wr.rangeAt b3 (o3 + j * 10) (ent xx) from fun i9 v9 hv9 => hc3 wr (SB.out) i9 v9 hv9)
            have HXL := Lib.hid (And.intro hxl htk)
            have HC3 := Lib.hid (And.intro hb3 hc3)
            have j1 : (j : Int) < (m : Int) := by omega
            have j2 : IntKind.i64.wrap ((j : Int) + 1) = ((j + 1 : Nat) : Int) := by have := HM64.out; rw [IntWalk.i64_in _ (by omega)]; omega
            have HJ := Lib.hid hlt
            clear hxx hb3 hc3 hxl htk hj hlt
            have BZ := Lib.hid (show Blk (wr.alloc (.cells #[.int .i64 0, .int .i64 0, .int .i64 0, .int .i64 0, .int .u64 0, .int .i64 0, .int .i64 0, .int .u32 0, .int .u32 0, .int .u32 0] 63)) wr.heap.size 63 [.int .i64 0, .int .i64 0, .int .i64 0, .int .i64 0, .int .u64 0, .int .i64 0, .int .i64 0, .int .u32 0, .int .u32 0, .int .u32 0] from Blk.new wr _ _)
            have ACz := Lib.hid (AC.out.alloc (.cells #[.int .i64 0, .int .i64 0, .int .i64 0, .int .i64 0, .int .u64 0, .int .i64 0, .int .i64 0, .int .u32 0, .int .u32 0, .int .u32 0] 63))
            have SBz := Lib.hid (bel_alloc SB.out (Nat.le_refl _) (.cells #[.int .i64 0, .int .i64 0, .int .i64 0, .int .i64 0, .int .u64 0, .int .i64 0, .int .i64 0, .int .u32 0, .int .u32 0, .int .u32 0] 63))
            have HNE := Lib.hid (show ∀ z, blk A9 = some z → some wr.heap.size ≠ some z from fun z hz e => by have := (AC.out.ge hz).2; injection e with e; omega)
            have HGE := Lib.hid SB.out.size
            go_upto_region 17 with (first | (refine step_load_at (o := ⟨some 60, _, _, _, _, _⟩) rfl rfl rfl HXX.out Try.underlying63 rfl (HEI.out _) ?_) | ((with_reducible refine step_store (o := ⟨none, _, _, _, _, _⟩) (vs := ent xx) (ty := 63) (x := .tmp 13) (y := .tmp 60) ?_ ?_ ?_ ?_ BZ.out (HEI.out _) rfl (HEO.out _) ?_); (rfl); (rfl); (rfl); (rfl); intro y2 hbs hgs hss))
            have ACy := Lib.hid (ACz.out.kept hgs (fun z hz => HNE.out z hz))
            have SBy := Lib.hid (SBz.out.grown hgs SBz.out.size (fun z hz => by cases hz; exact HGE.out))
            have XB := Lib.hid hbs
            have HGX := Lib.hid HGE.out
            clear hbs hgs hss BZ ACz SBz HNE HGE HXX AC SB
            generalize wr.heap.size = qX at *
            have y6 : y2.cell? ⟨qX, 6, none⟩ = some (.int .i64 xx.w.ho) := XB.out.cell 6
            go_wp2_with fail
            clear y6
            go_loopw [14, 66] (fun s t W => ∃ (p : Nat) (L : Int), p ≤ m ∧ s = .int .i64 L ∧ t = .int .i64 (p : Int) ∧ Below y2.heap.size y2 W ∧ (∀ z ∈ l.take p, kap z.k = kap xx.k → L ≤ z.w.ho)) (fun s t W => m - (intOf t).toNat)
            case atStart => exact ⟨0, xx.w.ho, by omega, rfl, rfl, Below.refl _ _, fun z hz => by simp at hz⟩
            case round =>
              obtain ⟨p, L, hp, rfl, rfl, hbl, hmin⟩ := hrel
              have SV := Lib.hid hbl
              have HMI := Lib.hid hmin
              clear hbl hmin
              by_cases hlt : p < m
              · obtain ⟨b4, o4, yy, e4, hyy, hb4, hc4⟩ := row_cells ent_length Uv3.out.row hlt
                injection e4 with e4
                injection e4 with e5 e6 _
                subst e5 e6
                have htk : l.take (p + 1) = l.take p ++ [yy] := take_snoc14 hyy
                have HYY := Lib.hid (show wr.rangeAt b3 (o3 + p * 10) (ent yy) from fun i9 v9 hv9 => hc4 wr (SBy.out.trans (SV.out.mono SBy.out.size)) i9 v9 hv9)
                have HTK := Lib.hid htk
                have p1 : (p : Int) < (m : Int) := by omega
                have p2 : IntKind.i64.wrap ((p : Int) + 1) = ((p + 1 : Nat) : Int) := by have := HM64.out; rw [IntWalk.i64_in _ (by omega)]; omega
                have HPP := Lib.hid hlt
                clear hyy hb4 hc4 htk hp hlt
                have BZ := Lib.hid (show Blk (wr.alloc (.cells #[.int .i64 0, .int .i64 0, .int .i64 0, .int .i64 0, .int .u64 0, .int .i64 0, .int .i64 0, .int .u32 0, .int .u32 0, .int .u32 0] 63)) wr.heap.size 63 [.int .i64 0, .int .i64 0, .int .i64 0, .int .i64 0, .int .u64 0, .int .i64 0, .int .i64 0, .int .u32 0, .int .u32 0, .int .u32 0] from Blk.new wr _ _)
                have SVz := Lib.hid (bel_alloc SV.out (Nat.le_refl _) (.cells #[.int .i64 0, .int .i64 0, .int .i64 0, .int .i64 0, .int .u64 0, .int .i64 0, .int .i64 0, .int .u32 0, .int .u32 0, .int .u32 0] 63))
                have HGE := Lib.hid SV.out.size
                go_upto_region 21 with (first | (refine step_load_at (o := ⟨some 69, _, _, _, _, _⟩) rfl rfl rfl HYY.out Try.underlying63 rfl (HEI.out _) ?_) | ((with_reducible refine step_store (o := ⟨none, _, _, _, _, _⟩) (vs := ent yy) (ty := 63) (x := .tmp 16) (y := .tmp 69) ?_ ?_ ?_ ?_ BZ.out (HEI.out _) rfl (HEO.out _) ?_); (rfl); (rfl); (rfl); (rfl); intro y3 hbs hgs hss))
                have SVy := Lib.hid (SVz.out.grown hgs SVz.out.size (fun z hz => by cases hz; exact HGE.out))
                have YB := Lib.hid hbs
                clear hbs hgs hss BZ SVz HGE HYY SV
                generalize wr.heap.size = qY at *
                have XC := Lib.hid (XB.out.below SVy.out)
                have x0 : y3.cell? ⟨qX, 0, none⟩ = some (.int .i64 xx.k.tail) := XC.out.cell 0
                have x1 : y3.cell? ⟨qX, 1, none⟩ = some (.int .i64 xx.k.tun) := XC.out.cell 1
                have x2 : y3.cell? ⟨qX, 2, none⟩ = some (.int .i64 xx.k.head) := XC.out.cell 2
                have x3 : y3.cell? ⟨qX, 3, none⟩ = some (.int .i64 xx.k.lsp) := XC.out.cell 3
                have z0 : y3.cell? ⟨qY, 0, none⟩ = some (.int .i64 yy.k.tail) := YB.out.cell 0
                have z1 : y3.cell? ⟨qY, 1, none⟩ = some (.int .i64 yy.k.tun) := YB.out.cell 1
                have z2 : y3.cell? ⟨qY, 2, none⟩ = some (.int .i64 yy.k.head) := YB.out.cell 2
                have z3 : y3.cell? ⟨qY, 3, none⟩ = some (.int .i64 yy.k.lsp) := YB.out.cell 3
                have hkn := fun W => rkin14_calls xx.k yy.k W
                unfold Yes14 at hkn
                obtain ⟨kb, hkb⟩ : ∃ kb, kKin xx.k yy.k = kb := ⟨_, rfl⟩
                rw [hkb] at hkn
                have HKB := Lib.hid hkb
                have HKN := Lib.hid hkn
                clear hkn hkb
                go_wp2_with fail
                ((with_reducible refine (HKN.out _).mono ?_))
                rintro e y4 ⟨rfl, hb⟩
                have SV4 := Lib.hid (SVy.out.trans (hb.mono SVy.out.size))
                have YB4 := Lib.hid (YB.out.below hb)
                clear hb HKN x0 x1 x2 x3 z0 z1 z2 z3 SVy YB XC
                cases kb with
                | true =>
                  have z6 : y4.cell? ⟨qY, 6, none⟩ = some (.int .i64 yy.w.ho) := YB4.out.cell 6
                  go_wp2_with fail
                  go_roundw
                  case rel => exact ⟨p + 1, min L yy.w.ho, by have := HPP.out; omega, by first | rfl | (congr 1; omega), by first | rfl | (simp; omega), SV4.out, fun z hz hkz => by
                    rw [HTK.out, List.mem_append, List.mem_singleton] at hz
                    rcases hz with hz | hz
                    · have := HMI.out z hz hkz; omega
                    · rw [hz]; omega⟩
                  case measure => have := HPP.out; simp [intOf]; omega
                | false =>
                  go_wp2_with fail
                  go_roundw
                  case rel => exact ⟨p + 1, L, by have := HPP.out; omega, rfl, by first | rfl | (simp; omega), SV4.out, fun z hz hkz => by
                    rw [HTK.out, List.mem_append, List.mem_singleton] at hz
                    rcases hz with hz | hz
                    · exact HMI.out z hz hkz
                    · rw [hz] at hkz
                      exact absurd hkz.symm (kKin_false.1 HKB.out)⟩
                  case measure => have := HPP.out; simp [intOf]; omega
              · have p1 : ¬ (p : Int) < (m : Int) := by omega
                have hpl : l.take p = l := by rw [show p = m by omega, ← HM.out]; exact List.take_length
                have HML := Lib.hid (show ∀ z ∈ l, kap z.k = kap xx.k → L ≤ z.w.ho from fun z hz => HMI.out z (by rw [hpl]; exact hz))
                have SW := Lib.hid (SBy.out.trans (SV.out.mono SBy.out.size))
                have ACw := Lib.hid (ACy.out.bel SV.out)
                have XC := Lib.hid (XB.out.below SV.out)
                clear hpl hp hlt SV HMI SBy ACy XB
                have QW := Lib.hid (Qv3.out.blk.below SW.out)
                have x0 : wr.cell? ⟨qX, 0, none⟩ = some (.int .i64 xx.k.tail) := XC.out.cell 0
                have x1 : wr.cell? ⟨qX, 1, none⟩ = some (.int .i64 xx.k.tun) := XC.out.cell 1
                have x2 : wr.cell? ⟨qX, 2, none⟩ = some (.int .i64 xx.k.head) := XC.out.cell 2
                have x3 : wr.cell? ⟨qX, 3, none⟩ = some (.int .i64 xx.k.lsp) := XC.out.cell 3
                have z0 : wr.cell? ⟨qQ, 2, none⟩ = some (.int .i64 x.k.tail) := QW.out.cell 2
                have z1 : wr.cell? ⟨qQ, 3, none⟩ = some (.int .i64 x.k.tun) := QW.out.cell 3
                have z2 : wr.cell? ⟨qQ, 4, none⟩ = some (.int .i64 x.k.head) := QW.out.cell 4
                have z3 : wr.cell? ⟨qQ, 5, none⟩ = some (.int .i64 x.k.lsp) := QW.out.cell 5
                have hkn := fun W => rkin14_calls xx.k x.k W
                unfold Yes14 at hkn
                obtain ⟨kb, hkb⟩ : ∃ kb, kKin xx.k x.k = kb := ⟨_, rfl⟩
                rw [hkb] at hkn
                have HKB := Lib.hid hkb
                have HKN := Lib.hid hkn
                clear hkn hkb
                go_wp2_with fail
                ((with_reducible refine (HKN.out _).mono ?_))
                rintro e y4 ⟨rfl, hb⟩
                have SW4 := Lib.hid (SW.out.trans (hb.mono SW.out.size))
                have AC4 := Lib.hid (ACw.out.bel hb)
                have XB4 := Lib.hid (XC.out.below hb)
                have QB4 := Lib.hid (QW.out.below hb)
                clear hb HKN x0 x1 x2 x3 z0 z1 z2 z3 SW ACw XC QW
                have z7 : y4.cell? ⟨qQ, 7, none⟩ = some (.int .i64 x.w.su) := QB4.out.cell 7
                obtain ⟨lb, hlb⟩ : ∃ lb, decide (L ≤ x.w.su) = lb := ⟨_, rfl⟩
                have HLB := Lib.hid hlb
                cases kb with
                | true =>
                  clear hlb
                  obtain ⟨A6, c6, y6, hrun, hacc, hgr⟩ := accr_push (P := Try.prog) (ty := 55) ent_length ent_one (by omega) AC4.out xx Try.underlying55 infoEntR14 rfl SW4.out.size (by have := HSN.out; have := HM64.out; have := HJ.out; omega) (by have := HSN.out; have := HM64.out; have := HJ.out; omega)
                  rw [HSN.out.1] at hrun
                  have HRUN := Lib.hid (show (Builtin.append_ #[55, 55] 55 #[.slice A9 sn c9, .slice (some ⟨y4.heap.size, 0, none⟩) 1 1]).run Try.prog (y4.alloc (.cells #[.int .i64 xx.k.tail, .int .i64 xx.k.tun, .int .i64 xx.k.head, .int .i64 xx.k.lsp, .int .u64 (xx.w.bw : Int), .int .i64 xx.w.su, .int .i64 xx.w.ho, .int .u32 (xx.w.an : Int), .int .u32 (xx.w.al : Int), .int .u32 (xx.w.no : Int)] 63)) = .ok (.slice A6 (sn + 1) c6) y6 from hrun)
                  have AC6 := Lib.hid hacc
                  have SW6 := Lib.hid (SW4.out.grown hgr SW4.out.size (fun z hz => (AC4.out.ge hz).1))
                  have XE := Lib.hid (show Blk y4 qX 63 [.int .i64 xx.k.tail, .int .i64 xx.k.tun, .int .i64 xx.k.head, .int .i64 xx.k.lsp, .int .u64 (xx.w.bw : Int), .int .i64 xx.w.su, .int .i64 xx.w.ho, .int .u32 (xx.w.an : Int), .int .u32 (xx.w.al : Int), .int .u32 (xx.w.no : Int)] from XB4.out)
                  have HEX := Lib.hid (show (Try.prog.info? 63).map (·.size) = some ([.int .i64 xx.k.tail, .int .i64 xx.k.tun, .int .i64 xx.k.head, .int .i64 xx.k.lsp, .int .u64 (xx.w.bw : Int), .int .i64 xx.w.su, .int .i64 xx.w.ho, .int .u32 (xx.w.an : Int), .int .u32 (xx.w.al : Int), .int .u32 (xx.w.no : Int)] : List Value).length from sizeEntR14 xx)
                  clear hrun hacc hgr
                  go_wp2_with (first | ((with_reducible refine step_load (o := ⟨some 94, _, _, _, _, _⟩) (x := .tmp 13) ?_ ?_ ?_ XE.out Try.underlying63 ?_ HEX.out ?_); (rfl); (rfl); (rfl); (rfl)) | (at_builtin; refine step_append (o := ⟨some 96, _, _, _, _, _⟩) rfl rfl rfl rfl HRUN.out ?_))
                  go_roundw
                  case rel => exact ⟨j + 1, st ++ [xx], A6, c6, sn + 1, by have := HJ.out; omega, rfl, by first | rfl | (simp; omega), AC6.out, SW6.out, by rw [List.length_append, HSN.out.1]; rfl, by have := HSN.out; omega, fun y hy => by
                    rcases List.mem_append.1 hy with h1 | h1
                    · exact HBS.out y h1
                    · simp at h1; rw [h1]; exact (BWS.out xx HXL.out.1).2.1, fun y hy => by
                    rw [HXL.out.2, List.mem_append, List.mem_singleton] at hy
                    rcases hy with ⟨h1 | h1, h2⟩ | h1
                    · exact List.mem_append_left _ (HIN.out y (.inl ⟨h1, h2⟩))
                    · exact List.mem_append_right _ (by rw [h1]; exact List.mem_singleton.2 rfl)
                    · exact List.mem_append_left _ (HIN.out y (.inr h1))⟩
                  case measure => have := HJ.out; simp [intOf]; omega
                | false =>
                  cases lb with
                  | true =>
                    obtain ⟨A6, c6, y6, hrun, hacc, hgr⟩ := accr_push (P := Try.prog) (ty := 55) ent_length ent_one (by omega) AC4.out xx Try.underlying55 infoEntR14 rfl SW4.out.size (by have := HSN.out; have := HM64.out; have := HJ.out; omega) (by have := HSN.out; have := HM64.out; have := HJ.out; omega)
                    rw [HSN.out.1] at hrun
                    have HRUN := Lib.hid (show (Builtin.append_ #[55, 55] 55 #[.slice A9 sn c9, .slice (some ⟨y4.heap.size, 0, none⟩) 1 1]).run Try.prog (y4.alloc (.cells #[.int .i64 xx.k.tail, .int .i64 xx.k.tun, .int .i64 xx.k.head, .int .i64 xx.k.lsp, .int .u64 (xx.w.bw : Int), .int .i64 xx.w.su, .int .i64 xx.w.ho, .int .u32 (xx.w.an : Int), .int .u32 (xx.w.al : Int), .int .u32 (xx.w.no : Int)] 63)) = .ok (.slice A6 (sn + 1) c6) y6 from hrun)
                    have AC6 := Lib.hid hacc
                    have SW6 := Lib.hid (SW4.out.grown hgr SW4.out.size (fun z hz => (AC4.out.ge hz).1))
                    have XE := Lib.hid (show Blk y4 qX 63 [.int .i64 xx.k.tail, .int .i64 xx.k.tun, .int .i64 xx.k.head, .int .i64 xx.k.lsp, .int .u64 (xx.w.bw : Int), .int .i64 xx.w.su, .int .i64 xx.w.ho, .int .u32 (xx.w.an : Int), .int .u32 (xx.w.al : Int), .int .u32 (xx.w.no : Int)] from XB4.out)
                    have HEX := Lib.hid (show (Try.prog.info? 63).map (·.size) = some ([.int .i64 xx.k.tail, .int .i64 xx.k.tun, .int .i64 xx.k.head, .int .i64 xx.k.lsp, .int .u64 (xx.w.bw : Int), .int .i64 xx.w.su, .int .i64 xx.w.ho, .int .u32 (xx.w.an : Int), .int .u32 (xx.w.al : Int), .int .u32 (xx.w.no : Int)] : List Value).length from sizeEntR14 xx)
                    clear hrun hacc hgr
                    go_wp2_with (first | ((with_reducible refine step_load (o := ⟨some 94, _, _, _, _, _⟩) (x := .tmp 13) ?_ ?_ ?_ XE.out Try.underlying63 ?_ HEX.out ?_); (rfl); (rfl); (rfl); (rfl)) | (at_builtin; refine step_append (o := ⟨some 96, _, _, _, _, _⟩) rfl rfl rfl rfl HRUN.out ?_))
                    go_roundw
                    case rel => exact ⟨j + 1, st ++ [xx], A6, c6, sn + 1, by have := HJ.out; omega, rfl, by first | rfl | (simp; omega), AC6.out, SW6.out, by rw [List.length_append, HSN.out.1]; rfl, by have := HSN.out; omega, fun y hy => by
                      rcases List.mem_append.1 hy with h1 | h1
                      · exact HBS.out y h1
                      · simp at h1; rw [h1]; exact (BWS.out xx HXL.out.1).2.1, fun y hy => by
                      rw [HXL.out.2, List.mem_append, List.mem_singleton] at hy
                      rcases hy with ⟨h1 | h1, h2⟩ | h1
                      · exact List.mem_append_left _ (HIN.out y (.inl ⟨h1, h2⟩))
                      · exact List.mem_append_right _ (by rw [h1]; exact List.mem_singleton.2 rfl)
                      · exact List.mem_append_left _ (HIN.out y (.inr h1))⟩
                    case measure => have := HJ.out; simp [intOf]; omega
                  | false =>
                    go_wp2_with fail
                    go_roundw
                    case rel => exact ⟨j + 1, st, A9, c9, sn, by have := HJ.out; omega, rfl, by first | rfl | (simp; omega), AC4.out, SW4.out, HSN.out.1, by have := HSN.out; omega, HBS.out, fun y hy => by
                      rw [HXL.out.2, List.mem_append, List.mem_singleton] at hy
                      rcases hy with ⟨h1 | h1, h2⟩ | h1
                      · exact HIN.out y (.inl ⟨h1, h2⟩)
                      · exfalso
                        rw [h1] at h2
                        rcases h2 with h2 | ⟨z, hz, hkz, hle⟩
                        · exact kKin_false.1 HKB.out h2
                        · have h3 := HML.out z hz hkz
                          have h4 : ¬ L ≤ x.w.su := of_decide_eq_false HLB.out
                          omega
                      · exact HIN.out y (.inr h1)⟩
                    case measure => have := HJ.out; simp [intOf]; omega
          · have j1 : ¬ (j : Int) < (m : Int) := by omega
            have htk : l.take j = l := by rw [show j = m by omega, ← HM.out]; exact List.take_length
            have hN := HST.out st (fun y hy => HIN.out y (by rw [htk]; exact hy))
            obtain ⟨N, hNN⟩ : ∃ N, fsum (heldF st) = N := ⟨_, rfl⟩
            rw [hNN] at hN
            have hh := held14_calls A9 sn c9 st HBS.out wr (by have := AC.out.row; rw [HSN.out.1] at this; exact this) (by have := HSN.out; have := HM64.out; omega)
            rw [hNN] at hh
            unfold Two13 aS at hh
            have Pw := Lib.hid (Pv3.out.below K14 SB.out)
            have QW := Lib.hid (Qv3.out.blk.below SB.out)
            have HRR := Lib.hid (fun W => rright12_calls x.w W)
            clear htk hNN hj hlt
            by_cases h9 : N < 18446744073709551616
            · skip
              rw [if_pos h9, decide_eq_true h9] at hh
              have g9 : decide ((N : Int) ≤ (sz : Int)) = false := decide_eq_false (by omega)
              have g8 : decide (N ≤ sz) = false := decide_eq_false (by omega)
              have HH := Lib.hid hh
              clear hh h9 hN
              go_wp2_with fail
              ((with_reducible refine HH.out.mono ?_))
              rintro e y4 ⟨rfl, hb⟩
              have P4 := Lib.hid (Pw.out.below K14 hb)
              have QB4 := Lib.hid (QW.out.below hb)
              clear hb HH Pw QW
              have z6 : y4.cell? ⟨qQ, 6, none⟩ = some (.int .u64 (x.w.bw : Int)) := QB4.out.cell 6
              have z7 : y4.cell? ⟨qQ, 7, none⟩ = some (.int .i64 x.w.su) := QB4.out.cell 7
              have z8 : y4.cell? ⟨qQ, 8, none⟩ = some (.int .i64 x.w.ho) := QB4.out.cell 8
              have z9 : y4.cell? ⟨qQ, 9, none⟩ = some (.int .u32 (x.w.an : Int)) := QB4.out.cell 9
              have z10 : y4.cell? ⟨qQ, 10, none⟩ = some (.int .u32 (x.w.al : Int)) := QB4.out.cell 10
              have z11 : y4.cell? ⟨qQ, 11, none⟩ = some (.int .u32 (x.w.no : Int)) := QB4.out.cell 11
              go_wp2_with fail
              ((with_reducible refine (HRR.out _).mono ?_))
              rintro e y5 ⟨rfl, hb⟩
              have P5 := Lib.hid (P4.out.below K14 hb)
              clear hb HRR P4 QB4
              rw [HRT.out]
              go_wp2_with fail
              go_roundw
              case rel => exact ⟨i + 1, l2, S4, by have := HI.out; omega, by have := HI.out; omega, by first | rfl | (simp; omega), P5.out⟩
              case measure => have := HI.out; simp [intOf]; omega
            · skip
              rw [if_neg h9, decide_eq_false h9] at hh
              have HH := Lib.hid hh
              clear hh h9 hN
              go_wp2_with fail
              ((with_reducible refine HH.out.mono ?_))
              rintro e y4 ⟨rfl, hb⟩
              have P4 := Lib.hid (Pw.out.below K14 hb)
              have QB4 := Lib.hid (QW.out.below hb)
              clear hb HH Pw QW
              have z6 : y4.cell? ⟨qQ, 6, none⟩ = some (.int .u64 (x.w.bw : Int)) := QB4.out.cell 6
              have z7 : y4.cell? ⟨qQ, 7, none⟩ = some (.int .i64 x.w.su) := QB4.out.cell 7
              have z8 : y4.cell? ⟨qQ, 8, none⟩ = some (.int .i64 x.w.ho) := QB4.out.cell 8
              have z9 : y4.cell? ⟨qQ, 9, none⟩ = some (.int .u32 (x.w.an : Int)) := QB4.out.cell 9
              have z10 : y4.cell? ⟨qQ, 10, none⟩ = some (.int .u32 (x.w.al : Int)) := QB4.out.cell 10
              have z11 : y4.cell? ⟨qQ, 11, none⟩ = some (.int .u32 (x.w.no : Int)) := QB4.out.cell 11
              go_wp2_with fail
              ((with_reducible refine (HRR.out _).mono ?_))
              rintro e y5 ⟨rfl, hb⟩
              have P5 := Lib.hid (P4.out.below K14 hb)
              clear hb HRR P4 QB4
              rw [HRT.out]
              go_wp2_with fail
              go_roundw
              case rel => exact ⟨i + 1, l2, S4, by have := HI.out; omega, by have := HI.out; omega, by first | rfl | (simp; omega), P5.out⟩
              case measure => have := HI.out; simp [intOf]; omega
      · have g1 : (E != 14) = true := by simpa using hE
        clear hE
        go_wp2_with fail
        go_roundw
        case rel => exact ⟨i + 1, l2, S4, by have := HI.out; omega, by have := HI.out; omega, by first | rfl | (simp; omega), Pv3.out⟩
        case measure => have := HI.out; simp [intOf]; omega
    · have HX := Lib.hid Pwr.out.bel
      by_cases h1 : i < n
      · have i2 : (i : Int) < (n : Int) := by omega
        have i3 : ¬ (i : Int) < 80 := by omega
        clear hlt
        go_wp2_with fail
        go_ret
        exact ⟨rfl, HX.out⟩
      · have i2 : ¬ (i : Int) < (n : Int) := by omega
        clear hlt
        go_wp2_with fail
        go_ret
        exact ⟨rfl, HX.out⟩
end Go.Proofs.Ytnkoiageoenfeaa
