/-
  The law AdmitGives, walked: for any size and any calls the answer is true, and nothing that was there has turned. Condition: what the code must keep (Tk14).
-/
import Derived.Test.YtnkoiageoenfeaaAdmTS
import Derived.Test.YtnkoiageoenfeaaLedgT
import Derived.Deep.CutBlock
namespace Go.Proofs.Ytnkoiageoenfeaa
set_option maxRecDepth 100000
set_option linter.unusedVariables false
open Go.RowKit

theorem infoEntG14 : (Try.prog.info? 63).map (fun i => (i.zero, i.size, i.bytes)) = some (some (.agg #[.int .i64 0, .int .i64 0, .int .i64 0, .int .i64 0, .int .u64 0, .int .i64 0, .int .i64 0, .int .u32 0, .int .u32 0, .int .u32 0]), 10, 72) := by kernel_rfl
theorem infoActG14 : (Try.prog.info? 35).map (·.size) = some 12 := by kernel_rfl
/-- What a call's answer always is. -/
structure DoOk (sz : Nat) (l : List Et) (x : Ac14) (r : List Et × List Ky × Int) : Prop where
  bad : r.2.2 ≠ 0 → r.2.1 = [] ∧ r.1 = l
  went : ∀ q ∈ r.2.1, ∃ y ∈ l, y.k = q ∧ has14 r.1 q = false ∧ kap q ≠ kap x.k ∧ x.w.su < y.w.ho
  len : r.2.1.length ≤ l.length
  adm : x.dr = false → r.2.2 = 0 → r.1.length + r.2.1.length = l.length + 1 ∧ has14 l x.k = false ∧ (r.2.1 = [] ↔ fsum (heldF (l ++ [⟨x.k, x.w⟩])) ≤ sz) ∧ r.2.1.length ≤ l.length
theorem do_ok {sz : Nat} {l : List Et} (hs : Srt14 l) (x : Ac14) : DoOk sz l x (aDo sz l x) := by
  unfold aDo
  split
  · rename_i hd
    unfold aDrop
    split
    · exact ⟨fun h => absurd rfl h, fun q hq => by simp at hq, by simp, fun h => by rw [hd] at h; cases h⟩
    · exact ⟨fun _ => ⟨rfl, rfl⟩, fun q hq => by simp at hq, by simp, fun h => by rw [hd] at h; cases h⟩
  · have ha := aAdmit_is (size := sz) hs x.k x.w
    generalize aAdmit sz l x.k x.w = r at ha
    cases ha with
    | bad _ => exact ⟨fun _ => ⟨rfl, rfl⟩, fun q hq => by simp at hq, by simp, fun _ h => by simp at h⟩
    | have_ _ _ => exact ⟨fun _ => ⟨rfl, rfl⟩, fun q hq => by simp at hq, by simp, fun _ h => by simp at h⟩
    | full _ _ _ => exact ⟨fun _ => ⟨rfl, rfl⟩, fun q hq => by simp at hq, by simp, fun _ h => by simp at h⟩
    | room _ _ _ _ _ _ _ => exact ⟨fun _ => ⟨rfl, rfl⟩, fun q hq => by simp at hq, by simp, fun _ h => by simp at h⟩
    | ok h1 h2 h3 m h4 h5 h6 =>
      refine ⟨fun h => absurd rfl h, fun q hq => gone_ok hs h4 hq, by have := gone_length hs h4.sub; simp only; omega, fun _ _ => ⟨?_, h2, ?_, ?_⟩⟩
      · have := gone_length hs h4.sub
        simp only [wIns_length]
        omega
      · rw [held_more hs (x := ⟨x.k, x.w⟩) h2]
        constructor
        · intro hg
          have := gone_nil hs h4.sub hg
          subst this
          exact of_decide_eq_true h5
        · intro hf
          rcases h6 with rfl | h6
          · exact gone_refl _
          · exact absurd hf (of_decide_eq_false h6)
      · have := gone_length hs h4.sub
        simp only
        omega
set_option maxHeartbeats 25600000 in
theorem gives14_walk {P : TabW} (K14 : Tk14 P) (sz : Nat) (hsz : sz < 18446744073709551616) (a : Option Addr) (n c : Nat) (w : World) (hn : n ≤ maxLen) (h : ∃ es, Row a14 w w.heap.size a n es ∧ ∀ x ∈ es, Ac14Ok x) : Calls Try.prog 6 #[.int .u64 (sz : Int), .slice a n c] w fun e w' => e = .returned (.bool true) ∧ Below w.heap.size w w' := by
  obtain ⟨es, hr, hok⟩ := h
  unfold maxLen at hn
  have HOK := Lib.hid hok
  have HA := Lib.hid (fun W => alive14_calls K14 W)
  have HNEW := Lib.hid (fun W => K14.new sz hsz W)
  have HR := Lib.hid hr
  have HWI := Lib.hid (fun v : Wn => (show (Try.prog.info? 33).map (·.size) = some (wnc v).length from sizeWant14))
  have HWO := Lib.hid wnc_one
  have HAI := Lib.hid (fun x : Ac14 => (show (Try.prog.info? 35).map (·.size) = some (a14 x).length from infoActG14))
  have HAO := Lib.hid a14_one
  clear hok hr
  go_enter Try.func6, Try.ntmps6
  go_wp2_with fail
  ((with_reducible refine (HA.out _).mono ?_))
  rintro e w2 ⟨rfl, b1⟩
  have B1 := Lib.hid b1
  clear b1 HA
  go_wp2_with fail
  ((with_reducible refine (HNEW.out w2).mono ?_))
  intro e w3 hnew
  obtain ⟨q, S, rfl, st⟩ := St14.start B1.out hnew
  have ST := Lib.hid st
  clear st hnew HNEW B1
  go_wp2_with fail
  go_loopw [6] (fun t W => ∃ (i : Nat) (l : List Et) (S : List Nat), i ≤ n ∧ i ≤ 80 ∧ t = .int .i64 (i : Int) ∧ St14 P w W q sz l S) (fun t W => 80 - (intOf t).toNat)
  case atStart => exact ⟨0, [], S, by omega, by omega, rfl, ST.out⟩
  case round =>
    clear ST
    obtain ⟨i, l, S1, hin, hi80, rfl, hst⟩ := hrel
    have Pwr := Lib.hid hst
    clear hst
    by_cases hlt : i < n ∧ i < 80
    · obtain ⟨hl1, hl2⟩ := hlt
      have i1 : (i : Int) < (n : Int) := by omega
      have i2 : (i : Int) < 80 := by omega
      have i3 : IntKind.i64.wrap ((i : Int) + 1) = ((i + 1 : Nat) : Int) := by rw [IntWalk.i64_in _ (by omega)]; omega
      obtain ⟨b, o, x, rfl, hx, hb, hc⟩ := row_cells a14_length HR.out hl1
      have hxo := HOK.out x (List.mem_of_getElem? hx)
      have HX := Lib.hid (show wr.rangeAt b (o + i * 12) (a14 x) from fun j v hv => hc wr Pwr.out.bel j v hv)
      have HXO := Lib.hid hxo
      have HI := Lib.hid (And.intro hl1 hl2)
      clear hx hb hc hxo hl1 hl2
      have bz := bel_new (Below.refl wr.heap.size wr) (.cells #[.bool false, .bool false, .int .i64 0, .int .i64 0, .int .i64 0, .int .i64 0, .int .u64 0, .int .i64 0, .int .i64 0, .int .u32 0, .int .u32 0, .int .u32 0] 35)
      have BZ := Lib.hid (show BlkT (wr.alloc (.cells #[.bool false, .bool false, .int .i64 0, .int .i64 0, .int .i64 0, .int .i64 0, .int .u64 0, .int .i64 0, .int .i64 0, .int .u32 0, .int .u32 0, .int .u32 0] 35)) _ wr.heap.size 35 [.bool false, .bool false, .int .i64 0, .int .i64 0, .int .i64 0, .int .i64 0, .int .u64 0, .int .i64 0, .int .i64 0, .int .u32 0, .int .u32 0, .int .u32 0] from Pwr.out.newb K14 35 [.bool false, .bool false, .int .i64 0, .int .i64 0, .int .i64 0, .int .i64 0, .int .u64 0, .int .i64 0, .int .i64 0, .int .u32 0, .int .u32 0, .int .u32 0])
      have Pz := Lib.hid (Pwr.out.below K14 bz)
      have BGE := Lib.hid (Pwr.out.bel.size)
      clear bz Pwr
      go_upto_region 10 with (first | (refine step_load_at (o := ⟨some 39, _, _, _, _, _⟩) rfl rfl rfl HX.out Try.underlying35 rfl (HAI.out _) ?_) | ((with_reducible refine step_store (o := ⟨none, _, _, _, _, _⟩) (vs := a14 x) (ty := 35) (x := .tmp 7) (y := .tmp 39) ?_ ?_ ?_ ?_ BZ.out.blk (HAI.out _) rfl (HAO.out _) ?_); (rfl); (rfl); (rfl); (rfl); intro v1 hbs hgs hss))
      have Pv1 := Lib.hid (Pz.out.stored K14 hgs BZ.out.off BGE.out)
      have Qv1 := Lib.hid (BlkT.mk hbs BZ.out.off)
      clear hbs hgs hss BZ BGE Pz
      generalize wr.heap.size = qQ at *
      clear HX
      go_wp2_with fail
      ((with_reducible refine ((K14.entries Pv1.out.p)).mono ?_))
      rintro e v2 ⟨S3, A3, c3, rfl, p, m, r⟩
      have Pv2 := Lib.hid (Pv1.out.mv p m)
      have Qv2 := Lib.hid (Qv1.out.mv m)
      clear Pv1 Qv1
      have Uv2 := Lib.hid r
      clear p m r
      have TB := Lib.hid (K14.tbl Pv2.out.p)
      have BWS := Lib.hid (K14.bw Pv2.out.p)
      obtain ⟨m, hm⟩ : ∃ m, l.length = m := ⟨_, rfl⟩
      have HM := Lib.hid hm
      have hm64 : m ≤ 64 := by rw [← hm]; exact TB.out.len
      have HM64 := Lib.hid hm64
      rw [hm] at Uv2 ⊢
      clear hm hm64
      have hd := does14_calls K14 Pv2.out.p x HXO.out
      have hdo := do_ok (sz := sz) TB.out.srt x
      obtain ⟨r, hr⟩ : ∃ r, aDo sz l x = r := ⟨_, rfl⟩
      rw [hr] at hd hdo
      obtain ⟨l2, gs, E⟩ := r
      unfold Adt14 at hd
      simp only at hd
      have HD := Lib.hid hd
      have HDO := Lib.hid hdo
      clear hd hdo hr
      go_wp2_with ((with_reducible refine step_load (o := ⟨some 44, _, _, _, _, _⟩) (x := .tmp 7) ?_ ?_ ?_ Qv2.out.blk Try.underlying35 ?_ (HAI.out _) ?_); (rfl); (rfl); (rfl); (rfl))
      ((with_reducible refine (HD.out).mono ?_))
      rintro e v3 ⟨S4, A4, c4, rfl, p, m, r⟩
      have Pv3 := Lib.hid (Pv2.out.mv p m)
      have Qv3 := Lib.hid (Qv2.out.mv m)
      have Uv3 := Lib.hid (Uv2.out.mv m)
      clear Pv2 Qv2 Uv2
      have Gv3 := Lib.hid r
      clear p m r
      clear HD
      obtain ⟨gN, hgN⟩ : ∃ gN, gs.length = gN := ⟨_, rfl⟩
      have HGN := Lib.hid hgN
      have HJ64 := Lib.hid (show gN ≤ 64 by rw [← hgN]; have := HDO.out.len; simp only at this; have := HM.out; have := HM64.out; omega)
      rw [hgN] at Gv3 ⊢
      clear hgN
      go_wp2_with fail
      ((with_reducible refine ((K14.entries Pv3.out.p)).mono ?_))
      rintro e v4 ⟨S5, A5, c5, rfl, p, m, r⟩
      have Pv4 := Lib.hid (Pv3.out.mv p m)
      have Qv4 := Lib.hid (Qv3.out.mv m)
      have Uv4 := Lib.hid (Uv3.out.mv m)
      have Gv4 := Lib.hid (Gv3.out.mv m)
      clear Pv3 Qv3 Uv3 Gv3
      have Vv4 := Lib.hid r
      clear p m r
      have TB2 := Lib.hid (K14.tbl Pv4.out.p)
      obtain ⟨m2, hm2⟩ : ∃ m2, l2.length = m2 := ⟨_, rfl⟩
      have HM2 := Lib.hid hm2
      have hm264 : m2 ≤ 64 := by rw [← hm2]; exact TB2.out.len
      have HM264 := Lib.hid hm264
      rw [hm2] at Vv4 ⊢
      clear hm2 hm264
      go_upto_region 13 with fail
      go_cut [64] from 26 to 140 (fun s W => s = .bool false ∧ St14 P w W q sz l2 S5 ∧ BlkT W S5 qQ 35 (a14 x) ∧ RowT ent W S5 A3 m l ∧ RowT kyc W S5 A4 gN gs ∧ RowT ent W S5 A5 m2 l2)
      case first =>
        by_cases hE : E = 0
        · have g1 : (E != 0) = false := by simp [hE]
          have HE := Lib.hid hE
          clear hE
          go_wp2_with fail
          go_meet
          exact ⟨rfl, ⟨Pv4.out, Qv4.out, Uv4.out, Gv4.out, Vv4.out⟩⟩
        · have g1 : (E != 0) = true := by simpa using hE
          obtain ⟨hg0, hl0⟩ := HDO.out.bad hE
          simp only at hg0 hl0
          subst hg0 hl0
          have hgn : gN = 0 := by rw [← HGN.out]; rfl
          subst hgn
          have hmm : m2 = m := by rw [← HM2.out, HM.out]
          subst hmm
          clear hE
          have ho := ours14_calls A3 m2 c3 l2 v4 Uv4.out.row (by have := HM64.out; omega)
          unfold OurP14 at ho
          rw [HM2.out] at ho
          have HO := Lib.hid ho
          clear ho
          go_wp2_with fail
          ((with_reducible refine HO.out.mono ?_))
          rintro e v5 ⟨AY, cY, rfl, hacc, hb⟩
          have Pv5 := Lib.hid (Pv4.out.below K14 hb)
          have Qv5 := Lib.hid (Qv4.out.below hb)
          have Uv5 := Lib.hid (Uv4.out.below hb)
          have Gv5 := Lib.hid (Gv4.out.below hb)
          have Vv5 := Lib.hid (Vv4.out.below hb)
          clear Pv4 Qv4 Uv4 Gv4 Vv4
          have Yv5 := Lib.hid (show Row ent v5 v5.heap.size AY m2 l2 by have := hacc.row; rw [HM2.out] at this; exact this)
          clear hacc hb HO
          have ho := ours14_calls A5 m2 c5 l2 v5 Vv5.out.row (by have := HM64.out; omega)
          unfold OurP14 at ho
          rw [HM2.out] at ho
          have HO := Lib.hid ho
          clear ho
          go_wp2_with fail
          ((with_reducible refine HO.out.mono ?_))
          rintro e v6 ⟨AZ, cZ, rfl, hacc, hb⟩
          have Pv6 := Lib.hid (Pv5.out.below K14 hb)
          have Qv6 := Lib.hid (Qv5.out.below hb)
          have Uv6 := Lib.hid (Uv5.out.below hb)
          have Gv6 := Lib.hid (Gv5.out.below hb)
          have Vv6 := Lib.hid (Vv5.out.below hb)
          have Yv6 := Lib.hid ((Yv5.out.below hb).more hb.size)
          clear Pv5 Qv5 Uv5 Gv5 Vv5 Yv5
          have Zv6 := Lib.hid (show Row ent v6 v6.heap.size AZ m2 l2 by have := hacc.row; rw [HM2.out] at this; exact this)
          clear hacc hb HO
          have hs := same14_calls AY AZ m2 cY cZ l2 v6 Yv6.out Zv6.out (by have := HM64.out; omega)
          unfold Yes14 at hs
          have HSA := Lib.hid hs
          clear hs
          go_wp2_with fail
          ((with_reducible refine (HSA.out).mono ?_))
          rintro e v7 ⟨rfl, hb⟩
          have Pv7 := Lib.hid (Pv6.out.below K14 hb)
          have Qv7 := Lib.hid (Qv6.out.below hb)
          have Uv7 := Lib.hid (Uv6.out.below hb)
          have Gv7 := Lib.hid (Gv6.out.below hb)
          have Vv7 := Lib.hid (Vv6.out.below hb)
          clear Pv6 Qv6 Uv6 Gv6 Vv6
          clear hb
          go_wp2_with fail
          go_meet
          exact ⟨rfl, ⟨Pv7.out, Qv7.out, Uv7.out, Gv7.out, Vv7.out⟩⟩
      case rest =>
        obtain ⟨rfl, hp, hq, hu, hg, hv⟩ := hcut
        have Pwc := Lib.hid hp
        have Qwc := Lib.hid hq
        have Uwc := Lib.hid hu
        have Gwc := Lib.hid hg
        have Vwc := Lib.hid hv
        clear hp hq hu hg hv Pv4 Qv4 Uv4 Gv4 Vv4
        go_wp2_with fail
        go_loopw [67] (fun t W => ∃ j : Nat, j ≤ gN ∧ t = .int .i64 (j : Int) ∧ St14 P w W q sz l2 S5 ∧ BlkT W S5 qQ 35 (a14 x) ∧ RowT ent W S5 A3 m l ∧ RowT kyc W S5 A4 gN gs ∧ RowT ent W S5 A5 m2 l2) (fun t W => gN - (intOf t).toNat)
        case atStart => exact ⟨0, by omega, rfl, ⟨Pwc.out, Qwc.out, Uwc.out, Gwc.out, Vwc.out⟩⟩
        case round =>
          clear Pwc Qwc Uwc Gwc Vwc
          obtain ⟨j, hj, rfl, hp, hq, hu, hg, hv⟩ := hrel
          have Pwr := Lib.hid hp
          have Qwr := Lib.hid hq
          have Uwr := Lib.hid hu
          have Gwr := Lib.hid hg
          have Vwr := Lib.hid hv
          clear hp hq hu hg hv
          by_cases hlt : j < gN
          · obtain ⟨b7, o7, kq, rfl, hkq, hb7, hc7⟩ := row_cells kyc_length Gwr.out.row hlt
            have hce := hc7 wr (Below.refl _ _)
            have y0 : wr.cell? ⟨b7, o7 + j * 4, none⟩ = some (.int .i64 kq.tail) := hce 0 _ rfl
            have y1 : wr.cell? ⟨b7, o7 + j * 4 + 1, none⟩ = some (.int .i64 kq.tun) := hce 1 _ rfl
            have y2 : wr.cell? ⟨b7, o7 + j * 4 + 2, none⟩ = some (.int .i64 kq.head) := hce 2 _ rfl
            have y3 : wr.cell? ⟨b7, o7 + j * 4 + 3, none⟩ = some (.int .i64 kq.lsp) := hce 3 _ rfl
            obtain ⟨yy, hyl, hyk, hyn, hyp, hyh⟩ := HDO.out.went kq (List.mem_of_getElem? hkq)
            simp only at hyn
            have j1 : (j : Int) < (gN : Int) := by omega
            have j2 : IntKind.i64.wrap ((j : Int) + 1) = ((j + 1 : Nat) : Int) := by have := HGN.out; have := HI.out; have := HJ64.out; rw [IntWalk.i64_in _ (by omega)]; omega
            have HJ := Lib.hid hlt
            have HYK := Lib.hid (And.intro hyl (And.intro hyk (And.intro hyn (And.intro hyp hyh))))
            clear hce hkq hb7 hc7 hj hlt hyl hyk hyn hyp hyh
            have bz := bel_new (Below.refl wr.heap.size wr) (.cells #[.int .i64 kq.tail, .int .i64 kq.tun, .int .i64 kq.head, .int .i64 kq.lsp] 23)
            have BZ := Lib.hid (show BlkT (wr.alloc (.cells #[.int .i64 kq.tail, .int .i64 kq.tun, .int .i64 kq.head, .int .i64 kq.lsp] 23)) S5 wr.heap.size 23 (kyc kq) from Pwr.out.newb K14 23 (kyc kq))
            go_upto_region 18 with fail
            have Pz := Lib.hid (Pwr.out.below K14 bz)
            have Qz := Lib.hid (Qwr.out.below bz)
            have Uz := Lib.hid (Uwr.out.below bz)
            have Gz := Lib.hid (Gwr.out.below bz)
            have Vz := Lib.hid (Vwr.out.below bz)
            clear bz y0 y1 y2 y3 Pwr Qwr Uwr Gwr Vwr
            generalize (wr.alloc (.cells #[.int .i64 kq.tail, .int .i64 kq.tun, .int .i64 kq.head, .int .i64 kq.lsp] 23)) = v8 at *
            generalize wr.heap.size = qK at *
            have Pv8 := Lib.hid Pz.out
            have Qv8 := Lib.hid Qz.out
            have Uv8 := Lib.hid Uz.out
            have Gv8 := Lib.hid Gz.out
            have Vv8 := Lib.hid Vz.out
            have Kv8 := Lib.hid BZ.out
            clear BZ Pz Qz Uz Gz Vz
            have hf := find14_calls A3 m c3 l kq v8 Uv8.out.row (by have := HM64.out; omega)
            rw [show (l.find? fun y => decide (y.k = kq)) = some yy by rw [← HYK.out.2.1]; exact find_one TB.out.srt HYK.out.1] at hf
            unfold FindP14 at hf
            simp only [Option.elim, Option.isSome_some] at hf
            have HF := Lib.hid hf
            clear hf
            have x0 : v8.cell? ⟨qK, 0, none⟩ = some (.int .i64 kq.tail) := Kv8.out.blk.cell 0
            have x1 : v8.cell? ⟨qK, 1, none⟩ = some (.int .i64 kq.tun) := Kv8.out.blk.cell 1
            have x2 : v8.cell? ⟨qK, 2, none⟩ = some (.int .i64 kq.head) := Kv8.out.blk.cell 2
            have x3 : v8.cell? ⟨qK, 3, none⟩ = some (.int .i64 kq.lsp) := Kv8.out.blk.cell 3
            go_wp2_with fail
            ((with_reducible refine (HF.out).mono ?_))
            rintro e v9 ⟨rfl, hb⟩
            have Pv9 := Lib.hid (Pv8.out.below K14 hb)
            have Qv9 := Lib.hid (Qv8.out.below hb)
            have Uv9 := Lib.hid (Uv8.out.below hb)
            have Gv9 := Lib.hid (Gv8.out.below hb)
            have Vv9 := Lib.hid (Vv8.out.below hb)
            have Kv9 := Lib.hid (Kv8.out.below hb)
            clear Pv8 Qv8 Uv8 Gv8 Vv8 Kv8
            clear hb
            clear HF x0 x1 x2 x3
            have bz := bel_new (Below.refl v9.heap.size v9) (.cells #[.int .u64 0, .int .i64 0, .int .i64 0, .int .u32 0, .int .u32 0, .int .u32 0] 33)
            have BZ := Lib.hid (show BlkT (v9.alloc (.cells #[.int .u64 0, .int .i64 0, .int .i64 0, .int .u32 0, .int .u32 0, .int .u32 0] 33)) _ v9.heap.size 33 [.int .u64 0, .int .i64 0, .int .i64 0, .int .u32 0, .int .u32 0, .int .u32 0] from Pv9.out.newb K14 33 [.int .u64 0, .int .i64 0, .int .i64 0, .int .u32 0, .int .u32 0, .int .u32 0])
            have Qap := Lib.hid Qv9.out.apart
            have Uap := Lib.hid Uv9.out.apart
            have Gap := Lib.hid Gv9.out.apart
            have Vap := Lib.hid Vv9.out.apart
            have Kap := Lib.hid Kv9.out.apart
            have Pz := Lib.hid (Pv9.out.below K14 bz)
            have Qz := Lib.hid (Qv9.out.below bz)
            have Uz := Lib.hid (Uv9.out.below bz)
            have Gz := Lib.hid (Gv9.out.below bz)
            have Vz := Lib.hid (Vv9.out.below bz)
            have Kz := Lib.hid (Kv9.out.below bz)
            have BGE := Lib.hid (Pv9.out.bel.size)
            clear bz Pv9 Qv9 Uv9 Gv9 Vv9 Kv9
            go_upto_region 19 with ((with_reducible refine step_store (o := ⟨none, _, _, _, _, _⟩) (vs := wnc yy.w) (ty := 33) (x := .tmp 14) (y := .tmp 75) ?_ ?_ ?_ ?_ BZ.out.blk (HWI.out _) rfl (HWO.out _) ?_); (rfl); (rfl); (rfl); (rfl); intro v10 hbs hgs hss)
            have Pv10 := Lib.hid (Pz.out.stored K14 hgs BZ.out.off BGE.out)
            have Qv10 := Lib.hid (Qz.out.stored hgs Qap.out)
            have Uv10 := Lib.hid (Uz.out.stored hgs Uap.out)
            have Gv10 := Lib.hid (Gz.out.stored hgs Gap.out)
            have Vv10 := Lib.hid (Vz.out.stored hgs Vap.out)
            have Kv10 := Lib.hid (Kz.out.stored hgs Kap.out)
            have Fv10 := Lib.hid (BlkT.mk hbs BZ.out.off)
            clear hbs hgs hss BZ BGE Pz Qz Uz Gz Vz Kz Qap Uap Gap Vap Kap
            generalize v9.heap.size = qF at *
            have hf := find14_calls A5 m2 c5 l2 kq v10 Vv10.out.row (by have := HM264.out; omega)
            rw [show (l2.find? fun y => decide (y.k = kq)) = none by rw [List.find?_eq_none]; intro y hy; have := has14_false.1 HYK.out.2.2.1 y hy; simpa using this] at hf
            unfold FindP14 at hf
            simp only [Option.elim, Option.isSome_none] at hf
            have HF := Lib.hid hf
            clear hf
            have x0 : v10.cell? ⟨qK, 0, none⟩ = some (.int .i64 kq.tail) := Kv10.out.blk.cell 0
            have x1 : v10.cell? ⟨qK, 1, none⟩ = some (.int .i64 kq.tun) := Kv10.out.blk.cell 1
            have x2 : v10.cell? ⟨qK, 2, none⟩ = some (.int .i64 kq.head) := Kv10.out.blk.cell 2
            have x3 : v10.cell? ⟨qK, 3, none⟩ = some (.int .i64 kq.lsp) := Kv10.out.blk.cell 3
            go_wp2_with fail
            ((with_reducible refine (HF.out).mono ?_))
            rintro e v11 ⟨rfl, hb⟩
            have Pv11 := Lib.hid (Pv10.out.below K14 hb)
            have Qv11 := Lib.hid (Qv10.out.below hb)
            have Uv11 := Lib.hid (Uv10.out.below hb)
            have Gv11 := Lib.hid (Gv10.out.below hb)
            have Vv11 := Lib.hid (Vv10.out.below hb)
            have Kv11 := Lib.hid (Kv10.out.below hb)
            have Fv11 := Lib.hid (Fv10.out.below hb)
            clear Pv10 Qv10 Uv10 Gv10 Vv10 Kv10 Fv10
            clear hb
            clear HF x0 x1 x2 x3
            have bz := bel_new (Below.refl v11.heap.size v11) (.cells #[.int .u64 0, .int .i64 0, .int .i64 0, .int .u32 0, .int .u32 0, .int .u32 0] 33)
            have BZ := Lib.hid (show BlkT (v11.alloc (.cells #[.int .u64 0, .int .i64 0, .int .i64 0, .int .u32 0, .int .u32 0, .int .u32 0] 33)) _ v11.heap.size 33 [.int .u64 0, .int .i64 0, .int .i64 0, .int .u32 0, .int .u32 0, .int .u32 0] from Pv11.out.newb K14 33 [.int .u64 0, .int .i64 0, .int .i64 0, .int .u32 0, .int .u32 0, .int .u32 0])
            have Qap := Lib.hid Qv11.out.apart
            have Uap := Lib.hid Uv11.out.apart
            have Gap := Lib.hid Gv11.out.apart
            have Vap := Lib.hid Vv11.out.apart
            have Kap := Lib.hid Kv11.out.apart
            have Fap := Lib.hid Fv11.out.apart
            have Pz := Lib.hid (Pv11.out.below K14 bz)
            have Qz := Lib.hid (Qv11.out.below bz)
            have Uz := Lib.hid (Uv11.out.below bz)
            have Gz := Lib.hid (Gv11.out.below bz)
            have Vz := Lib.hid (Vv11.out.below bz)
            have Kz := Lib.hid (Kv11.out.below bz)
            have Fz := Lib.hid (Fv11.out.below bz)
            have BGE := Lib.hid (Pv11.out.bel.size)
            clear bz Pv11 Qv11 Uv11 Gv11 Vv11 Kv11 Fv11
            go_upto_region 20 with ((with_reducible refine step_store (o := ⟨none, _, _, _, _, _⟩) (vs := wnc zw14) (ty := 33) (x := .tmp 16) (y := .tmp 81) ?_ ?_ ?_ ?_ BZ.out.blk (HWI.out _) rfl (HWO.out _) ?_); (rfl); (rfl); (rfl); (rfl); intro v12 hbs hgs hss)
            have Pv12 := Lib.hid (Pz.out.stored K14 hgs BZ.out.off BGE.out)
            have Qv12 := Lib.hid (Qz.out.stored hgs Qap.out)
            have Uv12 := Lib.hid (Uz.out.stored hgs Uap.out)
            have Gv12 := Lib.hid (Gz.out.stored hgs Gap.out)
            have Vv12 := Lib.hid (Vz.out.stored hgs Vap.out)
            have Kv12 := Lib.hid (Kz.out.stored hgs Kap.out)
            have Fv12 := Lib.hid (Fz.out.stored hgs Fap.out)
            have Ev12 := Lib.hid (BlkT.mk hbs BZ.out.off)
            clear hbs hgs hss BZ BGE Pz Qz Uz Gz Vz Kz Fz Qap Uap Gap Vap Kap Fap
            generalize v11.heap.size = qE at *
            have x0 : v12.cell? ⟨qK, 0, none⟩ = some (.int .i64 kq.tail) := Kv12.out.blk.cell 0
            have x1 : v12.cell? ⟨qK, 1, none⟩ = some (.int .i64 kq.tun) := Kv12.out.blk.cell 1
            have x2 : v12.cell? ⟨qK, 2, none⟩ = some (.int .i64 kq.head) := Kv12.out.blk.cell 2
            have x3 : v12.cell? ⟨qK, 3, none⟩ = some (.int .i64 kq.lsp) := Kv12.out.blk.cell 3
            have q2 : v12.cell? ⟨qQ, 2, none⟩ = some (.int .i64 x.k.tail) := Qv12.out.blk.cell 2
            have q3 : v12.cell? ⟨qQ, 3, none⟩ = some (.int .i64 x.k.tun) := Qv12.out.blk.cell 3
            have q4 : v12.cell? ⟨qQ, 4, none⟩ = some (.int .i64 x.k.head) := Qv12.out.blk.cell 4
            have q5 : v12.cell? ⟨qQ, 5, none⟩ = some (.int .i64 x.k.lsp) := Qv12.out.blk.cell 5
            have hkn := fun W => rkin14_calls kq x.k W
            unfold Yes14 at hkn
            rw [kKin_false.2 HYK.out.2.2.2.1] at hkn
            have HKN := Lib.hid hkn
            clear hkn
            go_wp2_with fail
            ((with_reducible refine (HKN.out _).mono ?_))
            rintro e v13 ⟨rfl, hb⟩
            have Pv13 := Lib.hid (Pv12.out.below K14 hb)
            have Qv13 := Lib.hid (Qv12.out.below hb)
            have Uv13 := Lib.hid (Uv12.out.below hb)
            have Gv13 := Lib.hid (Gv12.out.below hb)
            have Vv13 := Lib.hid (Vv12.out.below hb)
            have Kv13 := Lib.hid (Kv12.out.below hb)
            have Fv13 := Lib.hid (Fv12.out.below hb)
            have Ev13 := Lib.hid (Ev12.out.below hb)
            clear Pv12 Qv12 Uv12 Gv12 Vv12 Kv12 Fv12 Ev12
            clear hb
            clear HKN x0 x1 x2 x3 q2 q3 q4 q5
            have q7 : v13.cell? ⟨qQ, 7, none⟩ = some (.int .i64 x.w.su) := Qv13.out.blk.cell 7
            have f2 : v13.cell? ⟨qF, 2, none⟩ = some (.int .i64 yy.w.ho) := Fv13.out.blk.cell 2
            have g5 : decide (yy.w.ho ≤ x.w.su) = false := decide_eq_false (by have := HYK.out.2.2.2.2; omega)
            go_wp2_with fail
            go_roundw
            case rel => exact ⟨j + 1, by have := HJ.out; omega, by first | rfl | (simp; omega), ⟨Pv13.out, Qv13.out, Uv13.out, Gv13.out, Vv13.out⟩⟩
            case measure => have := HJ.out; simp [intOf]; omega
          · have j1 : ¬ (j : Int) < (gN : Int) := by omega
            clear hj hlt
            have q0 : wr.cell? ⟨qQ, 0, none⟩ = some (.bool x.dr) := Qwr.out.blk.cell 0
            obtain ⟨d, hd⟩ : ∃ d, x.dr = d := ⟨_, rfl⟩
            rw [hd] at q0
            have HD0 := Lib.hid hd
            clear hd
            cases d with
            | true =>
              go_wp2_with fail
              go_roundw
              case rel => exact ⟨i + 1, l2, S5, by have := HI.out; omega, by have := HI.out; omega, by first | rfl | (simp; omega), Pwr.out⟩
              case measure => have := HI.out; simp [intOf]; omega
            | false =>
              by_cases hE : E = 0
              · have g1 : (E != 0) = false := by simp [hE]
                obtain ⟨hn1, hn2, hn3, hn4⟩ := HDO.out.adm HD0.out hE
                simp only at hn1 hn3 hn4
                rw [HGN.out, HM.out, HM2.out] at hn1
                rw [HGN.out, HM.out] at hn4
                have HN3 := Lib.hid hn3
                have HE := Lib.hid hE
                have k1 : IntKind.i64.wrap ((m : Int) + 1) = ((m + 1 : Nat) : Int) := by have := HM64.out; rw [IntWalk.i64_in _ (by omega)]; omega
                have k2 : IntKind.i64.wrap (((m + 1 : Nat) : Int) - (gN : Int)) = (m2 : Int) := by have := HM64.out; rw [IntWalk.i64_in _ (by omega)]; omega
                obtain ⟨m1, hm1⟩ : ∃ m1, m + 1 = m1 := ⟨_, rfl⟩
                rw [hm1] at k1 k2
                have k3 : ((m2 : Int) != (m2 : Int)) = false := by simp
                clear hE hn1 hn2 hn3 hn4 hm1
                go_upto_region 26 with fail
                obtain ⟨N, hN⟩ : ∃ N, fsum (heldF (l ++ [⟨x.k, x.w⟩])) = N := ⟨_, rfl⟩
                rw [hN] at HN3
                obtain ⟨V0, hV0⟩ : ∃ V0 : Int, (if N < 18446744073709551616 then (N : Int) else 0) = V0 := ⟨_, rfl⟩
                have HHH : Hid (∀ (A9 : Option Addr) (c9 : Nat) (W : World), Row ent W W.heap.size A9 (m + 1) (l ++ [⟨x.k, x.w⟩]) → Calls Try.prog 28 #[.slice A9 (m + 1) c9] W fun e w' => e = .returned (.tuple #[.int .u64 V0, .bool (decide (N < 18446744073709551616))]) ∧ Below W.heap.size W w') := by
                  intro A9 c9 W hR
                  have hh := held14_calls A9 (m + 1) c9 (l ++ [⟨x.k, x.w⟩]) (fun y hy => by
                    rcases List.mem_append.1 hy with h1 | h1
                    · exact (BWS.out y h1).2.1
                    · simp at h1; rw [h1]; exact HXO.out.2.1) W hR (by have := HM64.out; omega)
                  rw [hN] at hh
                  unfold Two13 aS at hh
                  rw [← hV0]
                  by_cases h9 : N < 18446744073709551616
                  · rw [if_pos h9] at hh ⊢; exact hh
                  · rw [if_neg h9] at hh ⊢; exact hh
                obtain ⟨ob, hob⟩ : ∃ ob, decide (N < 18446744073709551616) = ob := ⟨_, rfl⟩
                rw [hob] at HHH
                have HV := Lib.hid (And.intro hV0 hob)
                clear hN hV0 hob
                go_cut [18, 19] from 26 to 140 (fun s t W => s = .int .u64 V0 ∧ t = .bool ob ∧ St14 P w W q sz l2 S5)
                case first =>
                  have BQ := Lib.hid (fun W (hW : Below wr.heap.size wr W) => Qwr.out.blk.below hW)
                  have BU := Lib.hid (fun W (hW : Below wr.heap.size wr W) => (Uwr.out.row.below hW).more hW.size)
                  refine region_way (fun W => Below wr.heap.size wr W) (.step 0 true (.step 2 true (.step 3 true (.step 4 true (.step 5 true (.step 6 true (.both 1 7 (.step 7 false (.step 8 false (.step 9 false (.step 10 true (.step 11 true (.step 12 true (.step 13 true (.step 14 true .done)))))))) (.step 1 false (.step 8 false (.step 9 false (.step 10 true (.step 11 true (.step 12 true (.step 13 true (.step 14 true .done)))))))))))))))
                    (by kernel_rfl) (by kernel_rfl) (by kernel_rfl) (by kernel_rfl) (fun _ _ _ _ _ h => h) (Below.refl _ _).drew ?_
                  repeat first
                    | refine way_pure (v := ?_) rfl (by rfl) (fun W hW => ?_) ?_
                      rotate_left
                      · have hq := BQ.out W hW
                        have q2 : W.cell? ⟨qQ, 2, none⟩ = some (.int .i64 x.k.tail) := hq.cell 2
                        have q3 : W.cell? ⟨qQ, 3, none⟩ = some (.int .i64 x.k.tun) := hq.cell 3
                        have q4 : W.cell? ⟨qQ, 4, none⟩ = some (.int .i64 x.k.head) := hq.cell 4
                        have q5 : W.cell? ⟨qQ, 5, none⟩ = some (.int .i64 x.k.lsp) := hq.cell 5
                        have q6 : W.cell? ⟨qQ, 6, none⟩ = some (.int .u64 (x.w.bw : Int)) := hq.cell 6
                        have q7 : W.cell? ⟨qQ, 7, none⟩ = some (.int .i64 x.w.su) := hq.cell 7
                        have q8 : W.cell? ⟨qQ, 8, none⟩ = some (.int .i64 x.w.ho) := hq.cell 8
                        have q9 : W.cell? ⟨qQ, 9, none⟩ = some (.int .u32 (x.w.an : Int)) := hq.cell 9
                        have q10 : W.cell? ⟨qQ, 10, none⟩ = some (.int .u32 (x.w.al : Int)) := hq.cell 10
                        have q11 : W.cell? ⟨qQ, 11, none⟩ = some (.int .u32 (x.w.no : Int)) := hq.cell 11
                        clear hW hq
                        go_simp
                        with_reducible rfl
                      simp only [Act.put, List.setIfInBounds_toArray, List.set_cons_zero, List.set_cons_succ]
                  have hbd : Below wr.heap.size wr wr.drew := (Below.refl _ _).drew
                  generalize wr.drew = z0 at hbd ⊢
                  have SBz0 := Lib.hid hbd
                  clear hbd
                  refine way_both rfl (by rfl) rfl (by rfl) (fun K hK => ?_) (fun K hK => ?_)
                  · skip
                    obtain ⟨AC, cC, z1, hrun, hacc, hgr, _⟩ := accr_append (P := Try.prog) (ty := 55) (cc := c3) ent_length ent_one (by omega) (AccR.nil (enc := ent) z0 wr.heap.size 63) (BU.out z0 SBz0.out) Try.underlying55 infoEntG14 rfl SBz0.out.size (by have := HM64.out; simp; omega) (by have := HM64.out; simp; omega)
                    rw [show ([] : List Et).length + m = m by simp] at hrun
                    rw [List.nil_append] at hacc
                    have SBz1 := Lib.hid (show Below wr.heap.size wr z1 from SBz0.out.grown hgr SBz0.out.size (fun j hj => by cases hj))
                    have HRUN := Lib.hid hrun
                    have Cz1 := Lib.hid hacc
                    clear hrun hacc hgr
                    refine op_append rfl rfl rfl HRUN.out ?_
                    refine hK _ _ (fun W => Below wr.heap.size wr W) (fun W h => h) SBz1.out ?_
                    clear hK K HRUN
                    refine way_make rfl (by rfl) (fun K hK => ?_)
                    go_simp
                    have hbn : Below z1.heap.size z1 (z1.alloc (.cells #[.int .i64 x.k.tail, .int .i64 x.k.tun, .int .i64 x.k.head, .int .i64 x.k.lsp, .int .u64 (x.w.bw : Int), .int .i64 x.w.su, .int .i64 x.w.ho, .int .u32 (x.w.an : Int), .int .u32 (x.w.al : Int), .int .u32 (x.w.no : Int)] 63)) := bel_new (Below.refl _ _) _
                    have hpn : Blk (z1.alloc (.cells #[.int .i64 x.k.tail, .int .i64 x.k.tun, .int .i64 x.k.head, .int .i64 x.k.lsp, .int .u64 (x.w.bw : Int), .int .i64 x.w.su, .int .i64 x.w.ho, .int .u32 (x.w.an : Int), .int .u32 (x.w.al : Int), .int .u32 (x.w.no : Int)] 63)) z1.heap.size 63 (ent ⟨x.k, x.w⟩) := Blk.new _ _ _
                    have hcn := Cz1.out.alloc (.cells #[.int .i64 x.k.tail, .int .i64 x.k.tun, .int .i64 x.k.head, .int .i64 x.k.lsp, .int .u64 (x.w.bw : Int), .int .i64 x.w.su, .int .i64 x.w.ho, .int .u32 (x.w.an : Int), .int .u32 (x.w.al : Int), .int .u32 (x.w.no : Int)] 63)
                    have hne : ∀ g, blk AC = some g → g ≠ z1.heap.size := fun g hg => by have := (Cz1.out.ge hg).2; omega
                    have hge := SBz1.out.size
                    generalize z1.alloc (.cells #[.int .i64 x.k.tail, .int .i64 x.k.tun, .int .i64 x.k.head, .int .i64 x.k.lsp, .int .u64 (x.w.bw : Int), .int .i64 x.w.su, .int .i64 x.w.ho, .int .u32 (x.w.an : Int), .int .u32 (x.w.al : Int), .int .u32 (x.w.no : Int)] 63) = z2 at *
                    have SBz2 := Lib.hid (show Below wr.heap.size wr z2 from SBz1.out.trans (hbn.mono SBz1.out.size))
                    generalize z1.heap.size = qD at *
                    have Dz2 := Lib.hid hpn
                    have QD := Lib.hid hge
                    have Cz2 := Lib.hid hcn
                    clear hcn hne
                    clear hbn hpn hge
                    refine hK _ _ (fun W => Below wr.heap.size wr W) (fun W h => h) SBz2.out ?_
                    clear hK K
                    refine way_make rfl (by rfl) (fun K hK => ?_)
                    have hrd : Row ent z2 (qD + 1) (some ⟨qD, 0, none⟩) 1 [(⟨x.k, x.w⟩ : Et)] := by
                      refine ⟨rfl, fun _ => ⟨qD, 0, rfl, by omega, fun i hi => ?_⟩⟩
                      rw [Nat.zero_add, Dz2.out.cell i]
                      exact List.getElem?_eq_getElem _
                    obtain ⟨AE, cE, z3, hrun, hacc, hgr, _⟩ := accr_append (P := Try.prog) (ty := 55) (cc := 1) ent_length ent_one (by omega) Cz2.out hrd Try.underlying55 infoEntG14 rfl SBz2.out.size (by have := HM64.out; have := HM.out; omega) (by have := HM64.out; have := HM.out; omega)
                    rw [HM.out] at hrun
                    have SBz3 := Lib.hid (show Below wr.heap.size wr z3 from SBz2.out.grown hgr SBz2.out.size (fun j hj => (Cz2.out.ge hj).1))
                    have HRUN := Lib.hid hrun
                    have Xz3 := Lib.hid (show Row ent z3 z3.heap.size AE (m + 1) (l ++ [⟨x.k, x.w⟩]) by have := hacc.row; rw [List.length_append, HM.out] at this; exact this)
                    clear hrun hacc hgr hrd
                    refine op_append rfl rfl rfl HRUN.out ?_
                    refine hK _ _ (fun W => Below wr.heap.size wr W) (fun W h => h) SBz3.out ?_
                    clear hK K HRUN
                    refine way_make rfl (by rfl) (fun K hK => ?_)
                    go_simp
                    ((with_reducible refine (HHH.out AE cE _ Xz3.out).mono ?_))
                    rintro e z4 ⟨rfl, hb⟩
                    have SBz4 := Lib.hid (show Below wr.heap.size wr z4 from SBz3.out.trans (hb.mono SBz3.out.size))
                    clear hb
                    go_simp
                    refine hK _ _ (fun W => Below wr.heap.size wr W) (fun W h => h) SBz4.out ?_
                    clear hK K
                    repeat first
                      | refine way_pure (v := ?_) rfl (by rfl) (fun W hW => ?_) ?_
                        rotate_left
                        · have hq := BQ.out W hW
                          have q2 : W.cell? ⟨qQ, 2, none⟩ = some (.int .i64 x.k.tail) := hq.cell 2
                          have q3 : W.cell? ⟨qQ, 3, none⟩ = some (.int .i64 x.k.tun) := hq.cell 3
                          have q4 : W.cell? ⟨qQ, 4, none⟩ = some (.int .i64 x.k.head) := hq.cell 4
                          have q5 : W.cell? ⟨qQ, 5, none⟩ = some (.int .i64 x.k.lsp) := hq.cell 5
                          have q6 : W.cell? ⟨qQ, 6, none⟩ = some (.int .u64 (x.w.bw : Int)) := hq.cell 6
                          have q7 : W.cell? ⟨qQ, 7, none⟩ = some (.int .i64 x.w.su) := hq.cell 7
                          have q8 : W.cell? ⟨qQ, 8, none⟩ = some (.int .i64 x.w.ho) := hq.cell 8
                          have q9 : W.cell? ⟨qQ, 9, none⟩ = some (.int .u32 (x.w.an : Int)) := hq.cell 9
                          have q10 : W.cell? ⟨qQ, 10, none⟩ = some (.int .u32 (x.w.al : Int)) := hq.cell 10
                          have q11 : W.cell? ⟨qQ, 11, none⟩ = some (.int .u32 (x.w.no : Int)) := hq.cell 11
                          clear hW hq
                          go_simp
                          with_reducible rfl
                        simp only [Act.put, List.setIfInBounds_toArray, List.set_cons_zero, List.set_cons_succ]
                    refine way_done ?_
                    go_wp2_with fail
                    go_meet
                    exact ⟨rfl, rfl, Pwr.out.below K14 SBz4.out⟩
                  · skip
                    go_simp
                    have hbn : Below z0.heap.size z0 (z0.alloc (.cells #[.int .i64 x.k.tail, .int .i64 x.k.tun, .int .i64 x.k.head, .int .i64 x.k.lsp, .int .u64 (x.w.bw : Int), .int .i64 x.w.su, .int .i64 x.w.ho, .int .u32 (x.w.an : Int), .int .u32 (x.w.al : Int), .int .u32 (x.w.no : Int)] 63)) := bel_new (Below.refl _ _) _
                    have hpn : Blk (z0.alloc (.cells #[.int .i64 x.k.tail, .int .i64 x.k.tun, .int .i64 x.k.head, .int .i64 x.k.lsp, .int .u64 (x.w.bw : Int), .int .i64 x.w.su, .int .i64 x.w.ho, .int .u32 (x.w.an : Int), .int .u32 (x.w.al : Int), .int .u32 (x.w.no : Int)] 63)) z0.heap.size 63 (ent ⟨x.k, x.w⟩) := Blk.new _ _ _
                    have hge := SBz0.out.size
                    generalize z0.alloc (.cells #[.int .i64 x.k.tail, .int .i64 x.k.tun, .int .i64 x.k.head, .int .i64 x.k.lsp, .int .u64 (x.w.bw : Int), .int .i64 x.w.su, .int .i64 x.w.ho, .int .u32 (x.w.an : Int), .int .u32 (x.w.al : Int), .int .u32 (x.w.no : Int)] 63) = z5 at *
                    have SBz5 := Lib.hid (show Below wr.heap.size wr z5 from SBz0.out.trans (hbn.mono SBz0.out.size))
                    generalize z0.heap.size = qD at *
                    have Dz5 := Lib.hid hpn
                    have QD := Lib.hid hge
                    clear hbn hpn hge
                    refine hK _ _ (fun W => Below wr.heap.size wr W) (fun W h => h) SBz5.out ?_
                    clear hK K
                    refine way_make rfl (by rfl) (fun K hK => ?_)
                    obtain ⟨AC, cC, z6, hrun, hacc, hgr, _⟩ := accr_append (P := Try.prog) (ty := 55) (cc := c3) ent_length ent_one (by omega) (AccR.nil (enc := ent) z5 wr.heap.size 63) (BU.out z5 SBz5.out) Try.underlying55 infoEntG14 rfl SBz5.out.size (by have := HM64.out; simp; omega) (by have := HM64.out; simp; omega)
                    rw [show ([] : List Et).length + m = m by simp] at hrun
                    rw [List.nil_append] at hacc
                    have SBz6 := Lib.hid (show Below wr.heap.size wr z6 from SBz5.out.grown hgr SBz5.out.size (fun j hj => by cases hj))
                    have Dz6 := Lib.hid (Dz5.out.same (hgr.block _ Dz5.out.lt (by simp [blk])))
                    have HRUN := Lib.hid hrun
                    have Cz6 := Lib.hid hacc
                    clear hrun hacc hgr
                    refine op_append rfl rfl rfl HRUN.out ?_
                    refine hK _ _ (fun W => Below wr.heap.size wr W) (fun W h => h) SBz6.out ?_
                    clear hK K HRUN
                    refine way_make rfl (by rfl) (fun K hK => ?_)
                    have hrd : Row ent z6 (qD + 1) (some ⟨qD, 0, none⟩) 1 [(⟨x.k, x.w⟩ : Et)] := by
                      refine ⟨rfl, fun _ => ⟨qD, 0, rfl, by omega, fun i hi => ?_⟩⟩
                      rw [Nat.zero_add, Dz6.out.cell i]
                      exact List.getElem?_eq_getElem _
                    obtain ⟨AE, cE, z7, hrun, hacc, hgr, _⟩ := accr_append (P := Try.prog) (ty := 55) (cc := 1) ent_length ent_one (by omega) Cz6.out hrd Try.underlying55 infoEntG14 rfl SBz6.out.size (by have := HM64.out; have := HM.out; omega) (by have := HM64.out; have := HM.out; omega)
                    rw [HM.out] at hrun
                    have SBz7 := Lib.hid (show Below wr.heap.size wr z7 from SBz6.out.grown hgr SBz6.out.size (fun j hj => (Cz6.out.ge hj).1))
                    have HRUN := Lib.hid hrun
                    have Xz7 := Lib.hid (show Row ent z7 z7.heap.size AE (m + 1) (l ++ [⟨x.k, x.w⟩]) by have := hacc.row; rw [List.length_append, HM.out] at this; exact this)
                    clear hrun hacc hgr hrd
                    refine op_append rfl rfl rfl HRUN.out ?_
                    refine hK _ _ (fun W => Below wr.heap.size wr W) (fun W h => h) SBz7.out ?_
                    clear hK K HRUN
                    refine way_make rfl (by rfl) (fun K hK => ?_)
                    go_simp
                    ((with_reducible refine (HHH.out AE cE _ Xz7.out).mono ?_))
                    rintro e z8 ⟨rfl, hb⟩
                    have SBz8 := Lib.hid (show Below wr.heap.size wr z8 from SBz7.out.trans (hb.mono SBz7.out.size))
                    clear hb
                    go_simp
                    refine hK _ _ (fun W => Below wr.heap.size wr W) (fun W h => h) SBz8.out ?_
                    clear hK K
                    repeat first
                      | refine way_pure (v := ?_) rfl (by rfl) (fun W hW => ?_) ?_
                        rotate_left
                        · have hq := BQ.out W hW
                          have q2 : W.cell? ⟨qQ, 2, none⟩ = some (.int .i64 x.k.tail) := hq.cell 2
                          have q3 : W.cell? ⟨qQ, 3, none⟩ = some (.int .i64 x.k.tun) := hq.cell 3
                          have q4 : W.cell? ⟨qQ, 4, none⟩ = some (.int .i64 x.k.head) := hq.cell 4
                          have q5 : W.cell? ⟨qQ, 5, none⟩ = some (.int .i64 x.k.lsp) := hq.cell 5
                          have q6 : W.cell? ⟨qQ, 6, none⟩ = some (.int .u64 (x.w.bw : Int)) := hq.cell 6
                          have q7 : W.cell? ⟨qQ, 7, none⟩ = some (.int .i64 x.w.su) := hq.cell 7
                          have q8 : W.cell? ⟨qQ, 8, none⟩ = some (.int .i64 x.w.ho) := hq.cell 8
                          have q9 : W.cell? ⟨qQ, 9, none⟩ = some (.int .u32 (x.w.an : Int)) := hq.cell 9
                          have q10 : W.cell? ⟨qQ, 10, none⟩ = some (.int .u32 (x.w.al : Int)) := hq.cell 10
                          have q11 : W.cell? ⟨qQ, 11, none⟩ = some (.int .u32 (x.w.no : Int)) := hq.cell 11
                          clear hW hq
                          go_simp
                          with_reducible rfl
                        simp only [Act.put, List.setIfInBounds_toArray, List.set_cons_zero, List.set_cons_succ]
                    refine way_done ?_
                    go_wp2_with fail
                    go_meet
                    exact ⟨rfl, rfl, Pwr.out.below K14 SBz8.out⟩
                case rest =>
                  obtain ⟨rfl, rfl, hp⟩ := hcut
                  have Pwd := Lib.hid hp
                  clear hp Pwr Qwr Uwr Gwr Vwr q0
                  have hsz2 := hsz
                  by_cases hg : gs = []
                  · have hgn : gN = 0 := by rw [← HGN.out, hg]; rfl
                    have hf := HN3.out.1 hg
                    have hob : ob = true := by rw [← HV.out.2]; exact decide_eq_true (by omega)
                    have hv0 : V0 = (N : Int) := by rw [← HV.out.1, if_pos (by omega)]
                    subst hgn
                    subst hob
                    have g9 : decide (V0 ≤ (sz : Int)) = true := decide_eq_true (by omega)
                    have HG := Lib.hid hg
                    clear hg hf hv0 hsz2
                    go_wp2_with fail
                    go_roundw
                    case rel => exact ⟨i + 1, l2, S5, by have := HI.out; omega, by have := HI.out; omega, by first | rfl | (simp; omega), Pwd.out⟩
                    case measure => have := HI.out; simp [intOf]; omega
                  · have hgn : (0 : Int) < (gN : Int) := by have := HGN.out; have : gs.length ≠ 0 := fun e => hg (List.eq_nil_of_length_eq_zero e); omega
                    have hgb : decide ((0 : Int) < (gN : Int)) = true := decide_eq_true hgn
                    have hgc : decide ((gN : Int) ≤ 0) = false := decide_eq_false (by omega)
                    have hgd : ¬ (gN : Int) ≤ 0 := by omega
                    have hge : ¬ gN = 0 := by omega
                    have hgf : decide (gN = 0) = false := decide_eq_false hge
                    have hgg : decide (0 < gN) = true := decide_eq_true (by omega)
                    have hgh : 0 < gN := by omega
                    have hf : ¬ N ≤ sz := fun h9 => hg (HN3.out.2 h9)
                    have HG := Lib.hid hg
                    clear hg
                    cases ob with
                    | true =>
                      have hN9 : N < 18446744073709551616 := of_decide_eq_true HV.out.2
                      have hv0 : V0 = (N : Int) := by rw [← HV.out.1, if_pos hN9]
                      have g9 : decide (V0 ≤ (sz : Int)) = false := decide_eq_false (by omega)
                      clear hf hv0 hN9 hsz2
                      go_wp2_with fail
                      go_roundw
                      case rel => exact ⟨i + 1, l2, S5, by have := HI.out; omega, by have := HI.out; omega, by first | rfl | (simp; omega), Pwd.out⟩
                      case measure => have := HI.out; simp [intOf]; omega
                    | false =>
                      clear hf hsz2
                      go_wp2_with fail
                      go_roundw
                      case rel => exact ⟨i + 1, l2, S5, by have := HI.out; omega, by have := HI.out; omega, by first | rfl | (simp; omega), Pwd.out⟩
                      case measure => have := HI.out; simp [intOf]; omega
              · have g1 : (E != 0) = true := by simpa using hE
                clear hE
                go_wp2_with fail
                go_roundw
                case rel => exact ⟨i + 1, l2, S5, by have := HI.out; omega, by have := HI.out; omega, by first | rfl | (simp; omega), Pwr.out⟩
                case measure => have := HI.out; simp [intOf]; omega
    · have HX := Lib.hid Pwr.out.bel
      by_cases h1 : i < n
      · have i2 : (i : Int) < (n : Int) := by omega
        have i3 : ¬ (i : Int) < 80 := by omega
        clear hlt
        go_wp2_with fail
        go_ret
        exact ⟨rfl, HX.out⟩
      · have i2 : ¬ (i : Int) < (n : Int) := by omega
        clear hlt
        go_wp2_with fail
        go_ret
        exact ⟨rfl, HX.out⟩
end Go.Proofs.Ytnkoiageoenfeaa
