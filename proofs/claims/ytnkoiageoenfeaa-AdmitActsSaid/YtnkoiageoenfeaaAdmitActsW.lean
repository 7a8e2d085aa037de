/-
  The law AdmitActs, walked: for any size and any calls the answer is true, and nothing that was there has turned. Condition: what the code must keep (Tk14).
-/
import Derived.Test.YtnkoiageoenfeaaAdmTS
import Derived.Test.YtnkoiageoenfeaaLedgT
import Derived.Deep.CutBlock
namespace Go.Proofs.Ytnkoiageoenfeaa
set_option maxRecDepth 100000
set_option linter.unusedVariables false
open Go.RowKit

theorem sizeActA14 : (Try.prog.info? 35).map (·.size) = some 12 := by kernel_rfl
theorem adm_errA {sz : Nat} {l : List Et} (hs : Srt14 l) (k : Ky) (v : Wn) (h : (aAdmit sz l k v).2.2 ≠ 0) : aAdmit sz l k v = (l, [], (aAdmit sz l k v).2.2) := by
  have ha := aAdmit_is (size := sz) hs k v
  generalize aAdmit sz l k v = r at ha h
  cases ha with
  | bad _ => rfl
  | have_ _ _ => rfl
  | full _ _ _ => rfl
  | room _ _ _ _ _ _ _ => rfl
  | ok _ _ _ _ _ _ _ => simp at h
theorem adm_lenA {sz : Nat} {l : List Et} (hs : Srt14 l) (k : Ky) (v : Wn) : (aAdmit sz l k v).2.1.length ≤ l.length := by
  have ha := aAdmit_is (size := sz) hs k v
  generalize aAdmit sz l k v = r at ha
  cases ha with
  | bad _ => simp
  | have_ _ _ => simp
  | full _ _ _ => simp
  | room _ _ _ _ _ _ _ => simp
  | ok h1 h2 h3 m h4 h5 h6 => have := gone_length hs h4.sub; simp only; omega
theorem ne_hlA (a1 a2 a3 a4 a5 a6 a7 a8 : Nat) (w : World) : (Op.equalIn 10000 46 (.agg #[.int .u64 (a1 : Int), .int .u64 (a2 : Int), .int .u64 (a3 : Int), .int .u64 (a4 : Int), .int .u64 (a5 : Int), .int .u64 (a6 : Int), .int .u64 (a7 : Int), .int .u64 (a8 : Int)]) (.agg #[.int .u64 (a1 : Int), .int .u64 (a2 : Int), .int .u64 (a3 : Int), .int .u64 (a4 : Int), .int .u64 (a5 : Int), .int .u64 (a6 : Int), .int .u64 (a7 : Int), .int .u64 (a8 : Int)])).run Try.prog w = .ok true w := by
  obtain ⟨r, hr, hiff⟩ := equal_E (P := Try.prog) 9995 5 46 (by kernel_rfl) w 5 5 (.agg (hlc [a1, a2, a3, a4, a5, a6, a7, a8]).toArray) (.agg (hlc [a1, a2, a3, a4, a5, a6, a7, a8]).toArray) (hlc [a1, a2, a3, a4, a5, a6, a7, a8]) (hlc [a1, a2, a3, a4, a5, a6, a7, a8]) (by rfl) (by rfl) (by rfl) (by rfl)
  rw [hiff.2 rfl] at hr
  exact hr
set_option maxHeartbeats 25600000 in
theorem acts14_walk {P : TabW} (K14 : Tk14 P) (sz : Nat) (hsz : sz < 18446744073709551616) (a : Option Addr) (n c : Nat) (w : World) (hn : n ≤ maxLen) (h : ∃ es, Row a14 w w.heap.size a n es ∧ ∀ x ∈ es, Ac14Ok x) : Calls Try.prog 4 #[.int .u64 (sz : Int), .slice a n c] w fun e w' => e = .returned (.bool true) ∧ Below w.heap.size w w' := by
  obtain ⟨es, hr, hok⟩ := h
  unfold maxLen at hn
  have HOK := Lib.hid hok
  have HA := Lib.hid (fun W => alive14_calls K14 W)
  have HNEW := Lib.hid (fun W => K14.new sz hsz W)
  have HR := Lib.hid hr
  have HAI := Lib.hid (fun x : Ac14 => (show (Try.prog.info? 35).map (·.size) = some (a14 x).length from sizeActA14))
  have HAO := Lib.hid a14_one
  clear hok hr
  go_enter Try.func4, Try.ntmps4
  go_wp2_with fail
  ((with_reducible refine (HA.out _).mono ?_))
  rintro e w2 ⟨rfl, b1⟩
  have B1 := Lib.hid b1
  clear b1 HA
  go_wp2_with fail
  ((with_reducible refine (HNEW.out w2).mono ?_))
  intro e w3 hnew
  obtain ⟨q, S, rfl, st⟩ := St14.start B1.out hnew
  have ST := Lib.hid st
  clear st hnew HNEW B1
  go_wp2_with fail
  go_loopw [6, 7] (fun s t W => ∃ (i : Nat) (l : List Et) (S : List Nat) (A6 : Option Addr) (c6 m6 : Nat), i ≤ n ∧ i ≤ 80 ∧ s = .slice A6 m6 c6 ∧ t = .int .i64 (i : Int) ∧ St14 P w W q sz l S ∧ RowT ent W S A6 m6 l) (fun s t W => 80 - (intOf t).toNat)
  case atStart => exact ⟨0, [], S, none, 0, 0, by omega, by omega, rfl, rfl, ST.out, RowT.nil⟩
  case round =>
    clear ST
    obtain ⟨i, l, S1, A6, c6, m6, hin, hi80, rfl, rfl, hst, hrow⟩ := hrel
    have Pwr := Lib.hid hst
    have Dwr := Lib.hid hrow
    clear hst hrow
    by_cases hlt : i < n ∧ i < 80
    · obtain ⟨hl1, hl2⟩ := hlt
      have i1 : (i : Int) < (n : Int) := by omega
      have i2 : (i : Int) < 80 := by omega
      have i3 : IntKind.i64.wrap ((i : Int) + 1) = ((i + 1 : Nat) : Int) := by rw [IntWalk.i64_in _ (by omega)]; omega
      obtain ⟨b, o, x, rfl, hx, hb, hc⟩ := row_cells a14_length HR.out hl1
      have hxo := HOK.out x (List.mem_of_getElem? hx)
      have HX := Lib.hid (show wr.rangeAt b (o + i * 12) (a14 x) from fun j v hv => hc wr Pwr.out.bel j v hv)
      have HXO := Lib.hid hxo
      have HI := Lib.hid (And.intro hl1 hl2)
      clear hx hb hc hxo hl1 hl2
      have bz := bel_new (Below.refl wr.heap.size wr) (.cells #[.bool false, .bool false, .int .i64 0, .int .i64 0, .int .i64 0, .int .i64 0, .int .u64 0, .int .i64 0, .int .i64 0, .int .u32 0, .int .u32 0, .int .u32 0] 35)
      have BZ := Lib.hid (show BlkT (wr.alloc (.cells #[.bool false, .bool false, .int .i64 0, .int .i64 0, .int .i64 0, .int .i64 0, .int .u64 0, .int .i64 0, .int .i64 0, .int .u32 0, .int .u32 0, .int .u32 0] 35)) _ wr.heap.size 35 [.bool false, .bool false, .int .i64 0, .int .i64 0, .int .i64 0, .int .i64 0, .int .u64 0, .int .i64 0, .int .i64 0, .int .u32 0, .int .u32 0, .int .u32 0] from Pwr.out.newb K14 35 [.bool false, .bool false, .int .i64 0, .int .i64 0, .int .i64 0, .int .i64 0, .int .u64 0, .int .i64 0, .int .i64 0, .int .u32 0, .int .u32 0, .int .u32 0])
      have Dap := Lib.hid Dwr.out.apart
      have Pz := Lib.hid (Pwr.out.below K14 bz)
      have Dz := Lib.hid (Dwr.out.below bz)
      have BGE := Lib.hid (Pwr.out.bel.size)
      clear bz Pwr Dwr
      go_upto_region 11 with (first | (refine step_load_at (o := ⟨some 38, _, _, _, _, _⟩) rfl rfl rfl HX.out Try.underlying35 rfl (HAI.out _) ?_) | ((with_reducible refine step_store (o := ⟨none, _, _, _, _, _⟩) (vs := a14 x) (ty := 35) (x := .tmp 8) (y := .tmp 38) ?_ ?_ ?_ ?_ BZ.out.blk (HAI.out _) rfl (HAO.out _) ?_); (rfl); (rfl); (rfl); (rfl); intro v1 hbs hgs hss))
      have Pv1 := Lib.hid (Pz.out.stored K14 hgs BZ.out.off BGE.out)
      have Dv1 := Lib.hid (Dz.out.stored hgs Dap.out)
      have Qv1 := Lib.hid (BlkT.mk hbs BZ.out.off)
      clear hbs hgs hss BZ BGE Pz Dz Dap
      generalize wr.heap.size = qQ at *
      clear HX
      have TB := Lib.hid (K14.tbl Pv1.out.p)
      have BWS := Lib.hid (K14.bw Pv1.out.p)
      have HM := Lib.hid Dv1.out.row.1
      have HM64 := Lib.hid (show m6 ≤ 64 by rw [← HM.out]; exact TB.out.len)
      have HLT := Lib.hid (K14.lt Pv1.out.p)
      obtain ⟨d, hd⟩ : ∃ d, x.dr = d := ⟨_, rfl⟩
      have q0 : v1.cell? ⟨qQ, 0, none⟩ = some (.bool d) := by rw [← hd]; exact Qv1.out.blk.cell 0
      have HDR := Lib.hid hd
      clear hd
      go_upto_if 40 with fail
      go_cut [6, 9, 10, 11, 12, 13, 14, 15] from 25 to 116 (fun s _ _ _ _ _ _ _ W => ∃ (l : List Et) (S : List Nat) (A6 : Option Addr) (c6 m6 : Nat), s = .slice A6 m6 c6 ∧ St14 P w W q sz l S ∧ RowT ent W S A6 m6 l)
      case first =>
        cases d with
        | true =>
          have x2 : v1.cell? ⟨qQ, 2, none⟩ = some (.int .i64 x.k.tail) := Qv1.out.blk.cell 2
          have x3 : v1.cell? ⟨qQ, 3, none⟩ = some (.int .i64 x.k.tun) := Qv1.out.blk.cell 3
          have x4 : v1.cell? ⟨qQ, 4, none⟩ = some (.int .i64 x.k.head) := Qv1.out.blk.cell 4
          have x5 : v1.cell? ⟨qQ, 5, none⟩ = some (.int .i64 x.k.lsp) := Qv1.out.blk.cell 5
          have hdp := rdrop14_calls A6 m6 c6 l x.k v1 Dv1.out.row (by have := HM64.out; omega)
          unfold DropP14 at hdp
          have HDP := Lib.hid hdp
          clear hdp q0
          go_wp2_with fail
          ((with_reducible refine HDP.out.mono ?_))
          rintro e v2 ⟨hb, hcase⟩
          have Pv2 := Lib.hid (Pv1.out.below K14 hb)
          have Dv2 := Lib.hid (Dv1.out.below hb)
          have Qv2 := Lib.hid (Qv1.out.below hb)
          clear Pv1 Dv1 Qv1
          have HBB := Lib.hid hb
          clear hb HDP x2 x3 x4 x5
          rcases hcase with ⟨hno, rfl⟩ | ⟨hyes, A7, c7, rfl, hacc⟩
          · have hdr : aDrop l x.k = (l, 8) := by unfold aDrop; rw [if_neg (by rw [hno]; simp)]
            clear hno
            have x2 : v2.cell? ⟨qQ, 2, none⟩ = some (.int .i64 x.k.tail) := Qv2.out.blk.cell 2
            have x3 : v2.cell? ⟨qQ, 3, none⟩ = some (.int .i64 x.k.tun) := Qv2.out.blk.cell 3
            have x4 : v2.cell? ⟨qQ, 4, none⟩ = some (.int .i64 x.k.head) := Qv2.out.blk.cell 4
            have x5 : v2.cell? ⟨qQ, 5, none⟩ = some (.int .i64 x.k.lsp) := Qv2.out.blk.cell 5
            have hdc := K14.drop Pv2.out.p x.k HXO.out.1
            rw [hdr] at hdc
            unfold Drt14 at hdc
            have HDC := Lib.hid (show Calls Try.prog 18 #[.pointer (some ⟨q, 0, none⟩), .agg #[.int .i64 x.k.tail, .int .i64 x.k.tun, .int .i64 x.k.head, .int .i64 x.k.lsp]] v2 _ from hdc)
            clear hdc hdr
            go_wp2_with fail
            ((with_reducible refine (HDC.out).mono ?_))
            rintro e v3 ⟨S5, rfl, p, m⟩
            have Pv3 := Lib.hid (Pv2.out.mv p m)
            have Dv3 := Lib.hid (Dv2.out.mv m)
            have Qv3 := Lib.hid (Qv2.out.mv m)
            clear Pv2 Dv2 Qv2
            clear p m
            clear HDC x2 x3 x4 x5
            have g2 : ((8 : Int) != 8) = false := by simp
            go_wp2_with fail
            go_meet
            exact ⟨l, S5, _, _, _, rfl, Pv3.out, Dv3.out⟩
          · have hdr : aDrop l x.k = (l.filter (fun y => decide (y.k ≠ x.k)), 0) := by unfold aDrop; rw [if_pos hyes]
            obtain ⟨l2, hl2⟩ : ∃ l2, l.filter (fun y => decide (y.k ≠ x.k)) = l2 := ⟨_, rfl⟩
            rw [hl2] at hacc hdr
            have Dn := Lib.hid (RowT.of_acc (S := S1) (base := v1.heap.size) (fun b hb => HLT.out b hb) hacc hacc.row)
            obtain ⟨m7, hm7⟩ : ∃ m7, l2.length = m7 := ⟨_, rfl⟩
            rw [hm7] at Dn
            rw [hl2]
            rw [hm7]
            clear hyes hacc hl2 hm7 Dv2
            have Dv2 := Lib.hid Dn.out
            clear Dn
            have x2 : v2.cell? ⟨qQ, 2, none⟩ = some (.int .i64 x.k.tail) := Qv2.out.blk.cell 2
            have x3 : v2.cell? ⟨qQ, 3, none⟩ = some (.int .i64 x.k.tun) := Qv2.out.blk.cell 3
            have x4 : v2.cell? ⟨qQ, 4, none⟩ = some (.int .i64 x.k.head) := Qv2.out.blk.cell 4
            have x5 : v2.cell? ⟨qQ, 5, none⟩ = some (.int .i64 x.k.lsp) := Qv2.out.blk.cell 5
            have hdc := K14.drop Pv2.out.p x.k HXO.out.1
            rw [hdr] at hdc
            unfold Drt14 at hdc
            have HDC := Lib.hid (show Calls Try.prog 18 #[.pointer (some ⟨q, 0, none⟩), .agg #[.int .i64 x.k.tail, .int .i64 x.k.tun, .int .i64 x.k.head, .int .i64 x.k.lsp]] v2 _ from hdc)
            clear hdc hdr
            go_wp2_with fail
            ((with_reducible refine (HDC.out).mono ?_))
            rintro e v4 ⟨S5, rfl, p, m⟩
            have Pv4 := Lib.hid (Pv2.out.mv p m)
            have Dv4 := Lib.hid (Dv2.out.mv m)
            have Qv4 := Lib.hid (Qv2.out.mv m)
            clear Pv2 Dv2 Qv2
            clear p m
            clear HDC x2 x3 x4 x5
            have g2 : ((0 : Int) != 0) = false := by simp
            go_wp2_with fail
            go_meet
            exact ⟨l2, S5, _, _, _, rfl, Pv4.out, Dv4.out⟩
        | false =>
          have x2 : v1.cell? ⟨qQ, 2, none⟩ = some (.int .i64 x.k.tail) := Qv1.out.blk.cell 2
          have x3 : v1.cell? ⟨qQ, 3, none⟩ = some (.int .i64 x.k.tun) := Qv1.out.blk.cell 3
          have x4 : v1.cell? ⟨qQ, 4, none⟩ = some (.int .i64 x.k.head) := Qv1.out.blk.cell 4
          have x5 : v1.cell? ⟨qQ, 5, none⟩ = some (.int .i64 x.k.lsp) := Qv1.out.blk.cell 5
          have x6 : v1.cell? ⟨qQ, 6, none⟩ = some (.int .u64 (x.w.bw : Int)) := Qv1.out.blk.cell 6
          have x7 : v1.cell? ⟨qQ, 7, none⟩ = some (.int .i64 x.w.su) := Qv1.out.blk.cell 7
          have x8 : v1.cell? ⟨qQ, 8, none⟩ = some (.int .i64 x.w.ho) := Qv1.out.blk.cell 8
          have x9 : v1.cell? ⟨qQ, 9, none⟩ = some (.int .u32 (x.w.an : Int)) := Qv1.out.blk.cell 9
          have x10 : v1.cell? ⟨qQ, 10, none⟩ = some (.int .u32 (x.w.al : Int)) := Qv1.out.blk.cell 10
          have x11 : v1.cell? ⟨qQ, 11, none⟩ = some (.int .u32 (x.w.no : Int)) := Qv1.out.blk.cell 11
          have hca := K14.adm Pv1.out.p x.k x.w HXO.out.1 HXO.out.2
          have hra := fun A6 (W : World) (hR : Row ent W W.heap.size A6 m6 l) => radmit14_calls sz hsz A6 m6 c6 l ⟨x.k, x.w⟩ TB.out.srt (fun y hy => ⟨TB.out.rgt y hy, (BWS.out y hy).2.1⟩) HXO.out.2.1 W hR (by have := HM64.out; omega)
          have her := adm_errA (sz := sz) TB.out.srt x.k x.w
          have hgl := adm_lenA (sz := sz) TB.out.srt x.k x.w
          obtain ⟨r, hr⟩ : ∃ r, aAdmit sz l x.k x.w = r := ⟨_, rfl⟩
          simp only [hr] at hca hra her hgl
          obtain ⟨l2, gs, E⟩ := r
          unfold Adt14 at hca
          unfold AdmP14 at hra
          simp only at hca hra her hgl
          have HGL := Lib.hid (show gs.length ≤ 1073741824 by have := HM.out; have := HM64.out; omega)
          have HCA := Lib.hid (show Calls Try.prog 19 #[.pointer (some ⟨q, 0, none⟩), .agg #[.int .i64 x.k.tail, .int .i64 x.k.tun, .int .i64 x.k.head, .int .i64 x.k.lsp], .agg #[.int .u64 (x.w.bw : Int), .int .i64 x.w.su, .int .i64 x.w.ho, .int .u32 (x.w.an : Int), .int .u32 (x.w.al : Int), .int .u32 (x.w.no : Int)]] v1 _ from hca)
          have HRA := Lib.hid hra
          have HER := Lib.hid her
          clear hca hra her hr hgl q0
          go_wp2_with fail
          ((with_reducible refine (HCA.out).mono ?_))
          rintro e v5 ⟨S4, A4, c4, rfl, p, m, r⟩
          have Pv5 := Lib.hid (Pv1.out.mv p m)
          have Dv5 := Lib.hid (Dv1.out.mv m)
          have Qv5 := Lib.hid (Qv1.out.mv m)
          clear Pv1 Dv1 Qv1
          have Gv5 := Lib.hid r
          clear p m r
          clear HCA x2 x3 x4 x5 x6 x7 x8 x9 x10 x11
          obtain ⟨gN, hgN⟩ : ∃ gN, gs.length = gN := ⟨_, rfl⟩
          have HGN := Lib.hid hgN
          rw [hgN] at Gv5 ⊢
          clear hgN
          have x2 : v5.cell? ⟨qQ, 2, none⟩ = some (.int .i64 x.k.tail) := Qv5.out.blk.cell 2
          have x3 : v5.cell? ⟨qQ, 3, none⟩ = some (.int .i64 x.k.tun) := Qv5.out.blk.cell 3
          have x4 : v5.cell? ⟨qQ, 4, none⟩ = some (.int .i64 x.k.head) := Qv5.out.blk.cell 4
          have x5 : v5.cell? ⟨qQ, 5, none⟩ = some (.int .i64 x.k.lsp) := Qv5.out.blk.cell 5
          have x6 : v5.cell? ⟨qQ, 6, none⟩ = some (.int .u64 (x.w.bw : Int)) := Qv5.out.blk.cell 6
          have x7 : v5.cell? ⟨qQ, 7, none⟩ = some (.int .i64 x.w.su) := Qv5.out.blk.cell 7
          have x8 : v5.cell? ⟨qQ, 8, none⟩ = some (.int .i64 x.w.ho) := Qv5.out.blk.cell 8
          have x9 : v5.cell? ⟨qQ, 9, none⟩ = some (.int .u32 (x.w.an : Int)) := Qv5.out.blk.cell 9
          have x10 : v5.cell? ⟨qQ, 10, none⟩ = some (.int .u32 (x.w.al : Int)) := Qv5.out.blk.cell 10
          have x11 : v5.cell? ⟨qQ, 11, none⟩ = some (.int .u32 (x.w.no : Int)) := Qv5.out.blk.cell 11
          have HLT2 := Lib.hid (K14.lt Pv5.out.p)
          have HRA2 := Lib.hid (HRA.out A6 v5 Dv5.out.row)
          go_wp2_with fail
          ((with_reducible refine HRA2.out.mono ?_))
          rintro e v6 ⟨hb, hcase⟩
          have Pv6 := Lib.hid (Pv5.out.below K14 hb)
          have Dv6 := Lib.hid (Dv5.out.below hb)
          have Qv6 := Lib.hid (Qv5.out.below hb)
          have Gv6 := Lib.hid (Gv5.out.below hb)
          clear Pv5 Dv5 Qv5 Gv5
          clear hb HRA HRA2 x2 x3 x4 x5 x6 x7 x8 x9 x10 x11
          rcases hcase with ⟨hE, rfl⟩ | ⟨hE, A7, c7, A8, c8, rfl, hacc, hacck⟩
          · have he := HER.out hE
            injection he with he1 he2
            injection he2 with he2 _
            subst he1 he2
            have hg0 : gN = 0 := by rw [← HGN.out]; rfl
            subst hg0
            have g2 : (E != E) = false := by simp
            clear hE
            have hk := keys14_calls A4 none 0 c4 0 [] v6 Gv6.out.row Row.nil (by omega)
            unfold Yes14 at hk
            have HK := Lib.hid hk
            clear hk
            clear Gv6
            go_wp2_with fail
            ((with_reducible refine (HK.out).mono ?_))
            rintro e v7 ⟨rfl, hb⟩
            have Pv7 := Lib.hid (Pv6.out.below K14 hb)
            have Dv7 := Lib.hid (Dv6.out.below hb)
            have Qv7 := Lib.hid (Qv6.out.below hb)
            clear Pv6 Dv6 Qv6
            clear hb
            clear HK
            go_wp2_with fail
            go_meet
            exact ⟨l2, S4, _, _, _, rfl, Pv7.out, Dv7.out⟩
          · have hE0 : E = 0 := hE
            subst hE0
            have Dn := Lib.hid (RowT.of_acc (S := S4) (base := v5.heap.size) (fun b hb => HLT2.out b hb) hacc hacc.row)
            have Kn := Lib.hid hacck.row
            obtain ⟨m7, hm7⟩ : ∃ m7, l2.length = m7 := ⟨_, rfl⟩
            rw [hm7] at Dn
            rw [hm7]
            rw [HGN.out] at Kn
            rw [HGN.out]
            clear hE hacc hacck hm7 Dv6
            have Dv6 := Lib.hid Dn.out
            clear Dn
            have hgl : gN ≤ 1073741824 := by rw [← HGN.out]; exact HGL.out
            have hk := keys14_calls A4 A8 gN c4 c8 gs v6 Gv6.out.row Kn.out hgl
            unfold Yes14 at hk
            have HK := Lib.hid hk
            clear hk hgl
            have g2 : ((0 : Int) != 0) = false := by simp
            clear Gv6
            go_wp2_with fail
            ((with_reducible refine (HK.out).mono ?_))
            rintro e v8 ⟨rfl, hb⟩
            have Pv8 := Lib.hid (Pv6.out.below K14 hb)
            have Dv8 := Lib.hid (Dv6.out.below hb)
            have Qv8 := Lib.hid (Qv6.out.below hb)
            clear Pv6 Dv6 Qv6
            clear hb
            clear HK
            go_wp2_with fail
            go_meet
            exact ⟨l2, S4, _, _, _, rfl, Pv8.out, Dv8.out⟩
      case rest =>
        obtain ⟨l9, S9, A9, c9, m9, rfl, hp, hd9⟩ := hcut
        have Pwc := Lib.hid hp
        have Dwc := Lib.hid hd9
        clear hp hd9 Qv1 Pv1 Dv1 TB BWS HM HM64 q0
        have TB := Lib.hid (K14.tbl Pwc.out.p)
        have BWS := Lib.hid (K14.bw Pwc.out.p)
        have HM := Lib.hid Dwc.out.row.1
        have HM64 := Lib.hid (show m9 ≤ 64 by rw [← HM.out]; exact TB.out.len)
        have hho := fams_ho TB.out.srt TB.out.rgt
        have hfs : fsum (fams l9) ≤ sz := TB.out.fit
        have hlk := ledgOf_ok hho hsz (by omega)
        have hlg := fun W (h : P W q sz l9 S9) => K14.ledger h
        unfold Lgt14 at hlg
        have hrl := fun (A : Option Addr) (c : Nat) (W : World) (hR : Row ent W W.heap.size A m9 l9) => rledger14_calls sz hsz A m9 c l9 TB.out.srt TB.out.rgt (fun y hy => (BWS.out y hy).2.1) W hR (by have := HM64.out; omega)
        unfold LedPost14 led14 at hrl
        simp only [if_pos (show fsum (fams l9) < 18446744073709551616 by omega), decide_eq_true (show fsum (fams l9) < 18446744073709551616 by omega)] at hrl
        obtain ⟨Lx, hL⟩ : ∃ Lx, ledgOf sz (fams l9) = Lx := ⟨_, rfl⟩
        simp only [hL] at hlg hrl hlk
        obtain ⟨cp, hdl⟩ := Lx
        obtain ⟨h0, h1, h2, h3, h4, h5, h6, h7, rfl⟩ := held_eight hlk.1
        have HLG := Lib.hid (show ∀ W (h : P W q sz l9 S9), Calls Try.prog 22 #[.pointer (some ⟨q, 0, none⟩)] W fun e w' => ∃ S', e = .returned (.agg #[.int .u64 (cp : Int), .int .u64 (h0 : Int), .int .u64 (h1 : Int), .int .u64 (h2 : Int), .int .u64 (h3 : Int), .int .u64 (h4 : Int), .int .u64 (h5 : Int), .int .u64 (h6 : Int), .int .u64 (h7 : Int)]) ∧ P w' q sz l9 S' ∧ Mv14 S9 W S' w' from hlg)
        have HRL := Lib.hid (show ∀ (A : Option Addr) (c : Nat) (W : World) (hR : Row ent W W.heap.size A m9 l9), Calls Try.prog 23 #[.int .u64 (sz : Int), .slice A m9 c] W fun e w' => e = .returned (.tuple #[.agg #[.int .u64 (cp : Int), .int .u64 (h0 : Int), .int .u64 (h1 : Int), .int .u64 (h2 : Int), .int .u64 (h3 : Int), .int .u64 (h4 : Int), .int .u64 (h5 : Int), .int .u64 (h6 : Int), .int .u64 (h7 : Int)], .bool true]) ∧ Below W.heap.size W w' from hrl)
        clear hho hfs hlk hlg hrl hL
        go_wp2_with fail
        ((with_reducible refine ((HLG.out wc Pwc.out.p)).mono ?_))
        rintro e v9 ⟨SA, rfl, p, m⟩
        have Pv9 := Lib.hid (Pwc.out.mv p m)
        have Dv9 := Lib.hid (Dwc.out.mv m)
        clear Pwc Dwc
        clear p m
        clear HLG
        have bz := bel_new (Below.refl v9.heap.size v9) (.cells #[.int .u64 (cp : Int), .int .u64 (h0 : Int), .int .u64 (h1 : Int), .int .u64 (h2 : Int), .int .u64 (h3 : Int), .int .u64 (h4 : Int), .int .u64 (h5 : Int), .int .u64 (h6 : Int), .int .u64 (h7 : Int)] 48)
        have BZ := Lib.hid (show BlkT (v9.alloc (.cells #[.int .u64 (cp : Int), .int .u64 (h0 : Int), .int .u64 (h1 : Int), .int .u64 (h2 : Int), .int .u64 (h3 : Int), .int .u64 (h4 : Int), .int .u64 (h5 : Int), .int .u64 (h6 : Int), .int .u64 (h7 : Int)] 48)) _ v9.heap.size 48 [.int .u64 (cp : Int), .int .u64 (h0 : Int), .int .u64 (h1 : Int), .int .u64 (h2 : Int), .int .u64 (h3 : Int), .int .u64 (h4 : Int), .int .u64 (h5 : Int), .int .u64 (h6 : Int), .int .u64 (h7 : Int)] from Pv9.out.newb K14 48 [.int .u64 (cp : Int), .int .u64 (h0 : Int), .int .u64 (h1 : Int), .int .u64 (h2 : Int), .int .u64 (h3 : Int), .int .u64 (h4 : Int), .int .u64 (h5 : Int), .int .u64 (h6 : Int), .int .u64 (h7 : Int)])
        go_upto_region 22 with fail
        have Pz := Lib.hid (Pv9.out.below K14 bz)
        have Dz := Lib.hid (Dv9.out.below bz)
        clear bz Pv9 Dv9
        generalize (v9.alloc (.cells #[.int .u64 (cp : Int), .int .u64 (h0 : Int), .int .u64 (h1 : Int), .int .u64 (h2 : Int), .int .u64 (h3 : Int), .int .u64 (h4 : Int), .int .u64 (h5 : Int), .int .u64 (h6 : Int), .int .u64 (h7 : Int)] 48)) = v10 at *
        generalize v9.heap.size = qX at *
        have Pv10 := Lib.hid Pz.out
        have Dv10 := Lib.hid Dz.out
        have Xv10 := Lib.hid BZ.out
        clear BZ Pz Dz
        go_wp2_with fail
        ((with_reducible refine (HRL.out _ _ _ Dv10.out.row).mono ?_))
        rintro e v11 ⟨rfl, hb⟩
        have Pv11 := Lib.hid (Pv10.out.below K14 hb)
        have Dv11 := Lib.hid (Dv10.out.below hb)
        have Xv11 := Lib.hid (Xv10.out.below hb)
        clear Pv10 Dv10 Xv10
        clear hb
        clear HRL
        have bz := bel_new (Below.refl v11.heap.size v11) (.cells #[.int .u64 (cp : Int), .int .u64 (h0 : Int), .int .u64 (h1 : Int), .int .u64 (h2 : Int), .int .u64 (h3 : Int), .int .u64 (h4 : Int), .int .u64 (h5 : Int), .int .u64 (h6 : Int), .int .u64 (h7 : Int)] 50)
        have BZ := Lib.hid (show BlkT (v11.alloc (.cells #[.int .u64 (cp : Int), .int .u64 (h0 : Int), .int .u64 (h1 : Int), .int .u64 (h2 : Int), .int .u64 (h3 : Int), .int .u64 (h4 : Int), .int .u64 (h5 : Int), .int .u64 (h6 : Int), .int .u64 (h7 : Int)] 50)) _ v11.heap.size 50 [.int .u64 (cp : Int), .int .u64 (h0 : Int), .int .u64 (h1 : Int), .int .u64 (h2 : Int), .int .u64 (h3 : Int), .int .u64 (h4 : Int), .int .u64 (h5 : Int), .int .u64 (h6 : Int), .int .u64 (h7 : Int)] from Pv11.out.newb K14 50 [.int .u64 (cp : Int), .int .u64 (h0 : Int), .int .u64 (h1 : Int), .int .u64 (h2 : Int), .int .u64 (h3 : Int), .int .u64 (h4 : Int), .int .u64 (h5 : Int), .int .u64 (h6 : Int), .int .u64 (h7 : Int)])
        go_upto_region 23 with fail
        have Pz := Lib.hid (Pv11.out.below K14 bz)
        have Dz := Lib.hid (Dv11.out.below bz)
        have Xz := Lib.hid (Xv11.out.below bz)
        clear bz Pv11 Dv11 Xv11
        generalize (v11.alloc (.cells #[.int .u64 (cp : Int), .int .u64 (h0 : Int), .int .u64 (h1 : Int), .int .u64 (h2 : Int), .int .u64 (h3 : Int), .int .u64 (h4 : Int), .int .u64 (h5 : Int), .int .u64 (h6 : Int), .int .u64 (h7 : Int)] 50)) = v12 at *
        generalize v11.heap.size = qY at *
        have Pv12 := Lib.hid Pz.out
        have Dv12 := Lib.hid Dz.out
        have Xv12 := Lib.hid Xz.out
        have Yv12 := Lib.hid BZ.out
        clear BZ Pz Dz Xz
        have hen := fun W (S : List Nat) (h : P W q sz l9 S) => K14.entries h
        unfold Ent14 at hen
        rw [HM.out] at hen
        have HEN := Lib.hid hen
        have HNE := Lib.hid (fun W => ne_hlA h0 h1 h2 h3 h4 h5 h6 h7 W)
        have HLEN := Lib.hid (show ∀ (A : Option Addr) (c : Nat) (W : World), Row ent W W.heap.size A m9 l9 → Calls Try.prog 25 #[.slice A m9 c] W (OurP14 l9 W) from fun A c W hR => ours14_calls A m9 c l9 W hR (by have := HM64.out; omega))
        clear hen
        go_wp2_with fail
        ((with_reducible refine ((HEN.out _ _ Pv12.out.p)).mono ?_))
        rintro e v13 ⟨SB, AB, cB, rfl, p, m, r⟩
        have Pv13 := Lib.hid (Pv12.out.mv p m)
        have Dv13 := Lib.hid (Dv12.out.mv m)
        have Xv13 := Lib.hid (Xv12.out.mv m)
        have Yv13 := Lib.hid (Yv12.out.mv m)
        clear Pv12 Dv12 Xv12 Yv12
        have Rv13 := Lib.hid r
        clear p m r
        have ho := HLEN.out AB cB _ Rv13.out.row
        unfold OurP14 at ho
        rw [HM.out] at ho
        have HO := Lib.hid ho
        clear ho HEN
        go_wp2_with fail
        ((with_reducible refine HO.out.mono ?_))
        rintro e v14 ⟨AO, cO, rfl, hacc, hb⟩
        have Pv14 := Lib.hid (Pv13.out.below K14 hb)
        have Dv14 := Lib.hid (Dv13.out.below hb)
        have Xv14 := Lib.hid (Xv13.out.below hb)
        have Yv14 := Lib.hid (Yv13.out.below hb)
        have Rv14 := Lib.hid (Rv13.out.below hb)
        clear Pv13 Dv13 Xv13 Yv13 Rv13
        have Ov14 := Lib.hid (show Row ent v14 v14.heap.size AO m9 l9 by have := hacc.row; rw [HM.out] at this; exact this)
        clear hacc hb HO HLEN
        have hs := same14_calls AO A9 m9 cO c9 l9 _ Ov14.out Dv14.out.row (by have := HM64.out; omega)
        unfold Yes14 at hs
        have HS := Lib.hid hs
        clear hs
        go_wp2_with fail
        ((with_reducible refine (HS.out).mono ?_))
        rintro e v15 ⟨rfl, hb⟩
        have Pv15 := Lib.hid (Pv14.out.below K14 hb)
        have Dv15 := Lib.hid (Dv14.out.below hb)
        have Xv15 := Lib.hid (Xv14.out.below hb)
        have Yv15 := Lib.hid (Yv14.out.below hb)
        have Rv15 := Lib.hid (Rv14.out.below hb)
        clear Pv14 Dv14 Xv14 Yv14 Rv14
        clear hb
        clear HS Ov14
        have x0 : v15.cell? ⟨qX, 0, none⟩ = some (.int .u64 (cp : Int)) := Xv15.out.blk.cell 0
        have y0 : v15.cell? ⟨qY, 0, none⟩ = some (.int .u64 (cp : Int)) := Yv15.out.blk.cell 0
        have x1 : v15.cell? ⟨qX, 1, none⟩ = some (.int .u64 (h0 : Int)) := Xv15.out.blk.cell 1
        have y1 : v15.cell? ⟨qY, 1, none⟩ = some (.int .u64 (h0 : Int)) := Yv15.out.blk.cell 1
        have x2 : v15.cell? ⟨qX, 2, none⟩ = some (.int .u64 (h1 : Int)) := Xv15.out.blk.cell 2
        have y2 : v15.cell? ⟨qY, 2, none⟩ = some (.int .u64 (h1 : Int)) := Yv15.out.blk.cell 2
        have x3 : v15.cell? ⟨qX, 3, none⟩ = some (.int .u64 (h2 : Int)) := Xv15.out.blk.cell 3
        have y3 : v15.cell? ⟨qY, 3, none⟩ = some (.int .u64 (h2 : Int)) := Yv15.out.blk.cell 3
        have x4 : v15.cell? ⟨qX, 4, none⟩ = some (.int .u64 (h3 : Int)) := Xv15.out.blk.cell 4
        have y4 : v15.cell? ⟨qY, 4, none⟩ = some (.int .u64 (h3 : Int)) := Yv15.out.blk.cell 4
        have x5 : v15.cell? ⟨qX, 5, none⟩ = some (.int .u64 (h4 : Int)) := Xv15.out.blk.cell 5
        have y5 : v15.cell? ⟨qY, 5, none⟩ = some (.int .u64 (h4 : Int)) := Yv15.out.blk.cell 5
        have x6 : v15.cell? ⟨qX, 6, none⟩ = some (.int .u64 (h5 : Int)) := Xv15.out.blk.cell 6
        have y6 : v15.cell? ⟨qY, 6, none⟩ = some (.int .u64 (h5 : Int)) := Yv15.out.blk.cell 6
        have x7 : v15.cell? ⟨qX, 7, none⟩ = some (.int .u64 (h6 : Int)) := Xv15.out.blk.cell 7
        have y7 : v15.cell? ⟨qY, 7, none⟩ = some (.int .u64 (h6 : Int)) := Yv15.out.blk.cell 7
        have x8 : v15.cell? ⟨qX, 8, none⟩ = some (.int .u64 (h7 : Int)) := Xv15.out.blk.cell 8
        have y8 : v15.cell? ⟨qY, 8, none⟩ = some (.int .u64 (h7 : Int)) := Yv15.out.blk.cell 8
        have hne := HNE.out v15
        have hcc : ((cp : Int) != (cp : Int)) = false := by simp
        go_wp2_with fail
        go_roundw
        case rel => first | exact ⟨i + 1, l9, SB, A9, c9, m9, by have := HI.out; omega, by have := HI.out; omega, rfl, by first | rfl | (simp; omega), Pv15.out, Dv15.out⟩ | ((repeat apply Exists.intro); exact ⟨⟨i + 1, l9, SB, A9, c9, m9, by have := HI.out; omega, by have := HI.out; omega, rfl, by first | rfl | (simp; omega), Pv15.out, Dv15.out⟩, rfl⟩)
        case measure => have := HI.out; simp [intOf]; omega
    · have HX := Lib.hid Pwr.out.bel
      by_cases h1 : i < n
      · have i2 : (i : Int) < (n : Int) := by omega
        have i3 : ¬ (i : Int) < 80 := by omega
        clear hlt
        go_wp2_with fail
        go_ret
        exact ⟨rfl, HX.out⟩
      · have i2 : ¬ (i : Int) < (n : Int) := by omega
        clear hlt
        go_wp2_with fail
        go_ret
        exact ⟨rfl, HX.out⟩
end Go.Proofs.Ytnkoiageoenfeaa
