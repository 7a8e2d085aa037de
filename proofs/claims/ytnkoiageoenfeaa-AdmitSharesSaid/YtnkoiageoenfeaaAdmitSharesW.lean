/-
  The law AdmitShares, walked: for any size, any calls and any key the answer is true, and nothing that was there has turned. Condition: what the code must keep (Tk14).
-/
import Derived.Test.YtnkoiageoenfeaaAdmTS
import Derived.Deep.CutBlock
namespace Go.Proofs.Ytnkoiageoenfeaa
set_option maxRecDepth 100000
set_option linter.unusedVariables false
open Go.RowKit

theorem infoEntL14 : (Try.prog.info? 63).map (·.size) = some 10 := by kernel_rfl
theorem row_rangeT {w : World} {B n : Nat} {a : Option Addr} {l : List Et} (h : Row ent w B a n l) (hn : 0 < n) : ∃ b o, a = some ⟨b, o, none⟩ ∧ b < B ∧ ∀ (i : Nat) (hi : i < l.length) (W : World), W.heap[b]? = w.heap[b]? → W.rangeAt b (o + i * 10) (ent l[i]) := by
  obtain ⟨b, o, e, hb, hc⟩ := h.cells ent_length hn
  refine ⟨b, o, e, hb, fun i hi W hW j v hv => ?_⟩
  have hj : j < 10 := by
    have := (List.getElem?_eq_some_iff.1 hv).1
    rwa [ent_length] at this
  rw [World.cell?_of_block (w := w) (a := ⟨b, o + i * 10 + j, none⟩) hW, hc i hi j hj, hv]
set_option maxHeartbeats 12800000 in
theorem shares14_walk {P : TabW} (K14 : Tk14 P) (sz : Nat) (hsz : sz < 18446744073709551616) (a : Option Addr) (n c : Nat) (k : Ky) (hk : KyB k) (w : World) (hn : n ≤ maxLen) (h : ∃ es, Row a14 w w.heap.size a n es ∧ ∀ x ∈ es, Ac14Ok x) : Calls Try.prog 8 #[.int .u64 (sz : Int), .slice a n c, .agg #[.int .i64 k.tail, .int .i64 k.tun, .int .i64 k.head, .int .i64 k.lsp]] w fun e w' => e = .returned (.bool true) ∧ Below w.heap.size w w' := by
  obtain ⟨es, hr, hok⟩ := h
  unfold maxLen at hn
  have HOK := Lib.hid hok
  have HA := Lib.hid (fun W => alive14_calls K14 W)
  have HNEW := Lib.hid (fun W => K14.new sz hsz W)
  clear hok
  have HL0 := Lib.hid (bel_new (Below.refl w.heap.size w) (.cells #[.int .i64 k.tail, .int .i64 k.tun, .int .i64 k.head, .int .i64 k.lsp] 23))
  have BX0 := Lib.hid (show Blk (w.alloc (.cells #[.int .i64 k.tail, .int .i64 k.tun, .int .i64 k.head, .int .i64 k.lsp] 23)) w.heap.size 23 (kyc k) from Blk.new w 23 (kyc k))
  have HRW := Lib.hid (show Row a14 (w.alloc (.cells #[.int .i64 k.tail, .int .i64 k.tun, .int .i64 k.head, .int .i64 k.lsp] 23)) (w.alloc (.cells #[.int .i64 k.tail, .int .i64 k.tun, .int .i64 k.head, .int .i64 k.lsp] 23)).heap.size a n es from (hr.below HL0.out).more HL0.out.size)
  clear hr
  go_enter Try.func8, Try.ntmps8
  go_upto_region 1 with fail
  generalize (w.alloc (.cells #[.int .i64 k.tail, .int .i64 k.tun, .int .i64 k.head, .int .i64 k.lsp] 23)) = w1 at *
  have HR := HRW
  go_wp2_with fail
  ((with_reducible refine (HA.out _).mono ?_))
  rintro e w2 ⟨rfl, b1⟩
  have B1 := Lib.hid b1
  clear b1 HA
  go_wp2_with fail
  ((with_reducible refine (HNEW.out w2).mono ?_))
  intro e w3 hnew
  obtain ⟨q, S, rfl, st⟩ := St14.start B1.out hnew
  have ST := Lib.hid st
  clear st hnew HNEW B1
  go_upto_block 0 with fail
  go_cut [8] from 26 to 41 (fun t W => ∃ (i : Nat) (l : List Et) (S : List Nat), i ≤ n ∧ i ≤ 80 ∧ t = .int .i64 (i : Int) ∧ St14 P w1 W q sz l S)
  case first =>
    go_wp2_with fail
    go_loopw [8] (fun t W => ∃ (i : Nat) (l : List Et) (S : List Nat), i ≤ n ∧ i ≤ 80 ∧ t = .int .i64 (i : Int) ∧ St14 P w1 W q sz l S) (fun t W => 80 - (intOf t).toNat)
    case atStart => exact ⟨0, [], S, by omega, by omega, rfl, ST.out⟩
    case round =>
      clear ST
      obtain ⟨i, l, S1, hin, hi80, rfl, hst⟩ := hrel
      have S1' := Lib.hid hst
      clear hst
      by_cases hlt : i < n ∧ i < 80
      · obtain ⟨hl1, hl2⟩ := hlt
        have i1 : (i : Int) < (n : Int) := by omega
        have i2 : (i : Int) < 80 := by omega
        obtain ⟨b, o, x, rfl, hx, hb, hc⟩ := row_cells a14_length HR.out hl1
        have hxo := HOK.out x (List.mem_of_getElem? hx)
        have hce := hc wr S1'.out.bel
        have y0 : wr.cell? ⟨b, o + i * 12, none⟩ = some (.bool x.dr) := hce 0 _ rfl
        have y1 : wr.cell? ⟨b, o + i * 12 + 1, none⟩ = some (.bool x.fk) := hce 1 _ rfl
        have y2 : wr.cell? ⟨b, o + i * 12 + 2, none⟩ = some (.int .i64 x.k.tail) := hce 2 _ rfl
        have y3 : wr.cell? ⟨b, o + i * 12 + 3, none⟩ = some (.int .i64 x.k.tun) := hce 3 _ rfl
        have y4 : wr.cell? ⟨b, o + i * 12 + 4, none⟩ = some (.int .i64 x.k.head) := hce 4 _ rfl
        have y5 : wr.cell? ⟨b, o + i * 12 + 5, none⟩ = some (.int .i64 x.k.lsp) := hce 5 _ rfl
        have y6 : wr.cell? ⟨b, o + i * 12 + 6, none⟩ = some (.int .u64 (x.w.bw : Int)) := hce 6 _ rfl
        have y7 : wr.cell? ⟨b, o + i * 12 + 7, none⟩ = some (.int .i64 x.w.su) := hce 7 _ rfl
        have y8 : wr.cell? ⟨b, o + i * 12 + 8, none⟩ = some (.int .i64 x.w.ho) := hce 8 _ rfl
        have y9 : wr.cell? ⟨b, o + i * 12 + 9, none⟩ = some (.int .u32 (x.w.an : Int)) := hce 9 _ rfl
        have y10 : wr.cell? ⟨b, o + i * 12 + 10, none⟩ = some (.int .u32 (x.w.al : Int)) := hce 10 _ rfl
        have y11 : wr.cell? ⟨b, o + i * 12 + 11, none⟩ = some (.int .u32 (x.w.no : Int)) := hce 11 _ rfl
        have hd : Calls Try.prog 27 #[.pointer (some ⟨q, 0, none⟩), .agg #[.bool x.dr, .bool x.fk, .int .i64 x.k.tail, .int .i64 x.k.tun, .int .i64 x.k.head, .int .i64 x.k.lsp, .int .u64 (x.w.bw : Int), .int .i64 x.w.su, .int .i64 x.w.ho, .int .u32 (x.w.an : Int), .int .u32 (x.w.al : Int), .int .u32 (x.w.no : Int)]] wr (Adt14 P S1 q sz (aDo sz l x) wr) := does14_calls K14 S1'.out.p x hxo
        have HD := Lib.hid hd
        have HI := Lib.hid (And.intro hl1 hl2)
        clear hd hx hb hc hce hxo hl1 hl2
        go_wp2_with fail
        ((with_reducible refine HD.out.mono ?_))
        rintro e v1 ⟨S2, A2, c2, rfl, p2, m2, r2⟩
        have P2 := Lib.hid (S1'.out.mv p2 m2)
        clear p2 m2 r2 HD S1' y0 y1 y2 y3 y4 y5 y6 y7 y8 y9 y10 y11
        go_wp2_with fail
        go_roundw
        case rel => exact ⟨i + 1, _, S2, by have := HI.out; omega, by have := HI.out; omega, by first | rfl | (simp; omega), P2.out⟩
        case measure => have := HI.out; simp [intOf]; omega
      · by_cases h1 : i < n
        · have i2 : (i : Int) < (n : Int) := by omega
          have i3 : ¬ (i : Int) < 80 := by omega
          clear hlt
          go_wp2_with fail
          go_meet
          exact ⟨i, l, S1, hin, hi80, rfl, S1'.out⟩
        · have i2 : ¬ (i : Int) < (n : Int) := by omega
          clear hlt
          go_wp2_with fail
          go_meet
          exact ⟨i, l, S1, hin, hi80, rfl, S1'.out⟩
  case rest =>
    obtain ⟨i9, l, S1, _, _, rfl, hst⟩ := hcut
    have Pwc := Lib.hid hst
    clear hst ST
    have BX := Lib.hid (fun W (hW : Below w1.heap.size w1 W) => BX0.out.below hW)
    have HE := Lib.hid (K14.entries Pwc.out.p)
    go_wp2_with fail
    ((with_reducible refine (HE.out).mono ?_))
    rintro e v1 ⟨S3, A3, c3, rfl, p, m, r⟩
    have Pv1 := Lib.hid (Pwc.out.mv p m)
    clear Pwc
    have Rv1 := Lib.hid r
    clear p m r
    clear HE
    have TB := Lib.hid (K14.tbl Pv1.out.p)
    have BWS := Lib.hid (K14.bw Pv1.out.p)
    obtain ⟨m, hm⟩ : ∃ m, l.length = m := ⟨_, rfl⟩
    have HM := Lib.hid hm
    have hm64 : m ≤ 64 := by rw [← hm]; exact TB.out.len
    rw [hm] at Rv1 ⊢
    have HM64 := Lib.hid hm64
    clear hm
    have HWI := Lib.hid (fun v : Wn => (show (Try.prog.info? 33).map (·.size) = some (wnc v).length from sizeWant14))
    have HWO := Lib.hid wnc_one
    have HEI := Lib.hid (fun x : Et => (show (Try.prog.info? 63).map (·.size) = some (ent x).length from infoEntL14))
    have HEO := Lib.hid ent_one
    have hf := find14_calls A3 m c3 l k v1 Rv1.out.row (by omega)
    unfold FindP14 at hf
    obtain ⟨r, hr⟩ : ∃ r, (l.find? fun y => decide (y.k = k)) = r := ⟨_, rfl⟩
    rw [hr] at hf
    obtain ⟨v9, hv9⟩ : ∃ v9, r.elim zw14 (·.w) = v9 := ⟨_, rfl⟩
    rw [hv9] at hf
    have HFD := Lib.hid hr
    have HF := Lib.hid hf
    clear hf hr hv9 hm64
    have KXv1 : v1.cell? ⟨w.heap.size, 0, none⟩ = some (.int .i64 k.tail) ∧ v1.cell? ⟨w.heap.size, 1, none⟩ = some (.int .i64 k.tun) ∧ v1.cell? ⟨w.heap.size, 2, none⟩ = some (.int .i64 k.head) ∧ v1.cell? ⟨w.heap.size, 3, none⟩ = some (.int .i64 k.lsp) := ⟨(BX.out v1 Pv1.out.bel).cell 0, (BX.out v1 Pv1.out.bel).cell 1, (BX.out v1 Pv1.out.bel).cell 2, (BX.out v1 Pv1.out.bel).cell 3⟩
    obtain ⟨x0, x1, x2, x3⟩ := KXv1
    go_wp2_with fail
    ((with_reducible refine (HF.out).mono ?_))
    rintro e v2 ⟨rfl, hb⟩
    have Pv2 := Lib.hid (Pv1.out.below K14 hb)
    have Rv2 := Lib.hid (Rv1.out.below hb)
    clear Pv1 Rv1
    clear hb
    clear HF x0 x1 x2 x3
    have bz := bel_new (Below.refl v2.heap.size v2) (.cells #[.int .u64 0, .int .i64 0, .int .i64 0, .int .u32 0, .int .u32 0, .int .u32 0] 33)
    have BZ := Lib.hid (show BlkT (v2.alloc (.cells #[.int .u64 0, .int .i64 0, .int .i64 0, .int .u32 0, .int .u32 0, .int .u32 0] 33)) _ v2.heap.size 33 [.int .u64 0, .int .i64 0, .int .i64 0, .int .u32 0, .int .u32 0, .int .u32 0] from Pv2.out.newb K14 33 [.int .u64 0, .int .i64 0, .int .i64 0, .int .u32 0, .int .u32 0, .int .u32 0])
    have Rap := Lib.hid Rv2.out.apart
    have Pz := Lib.hid (Pv2.out.below K14 bz)
    have Rz := Lib.hid (Rv2.out.below bz)
    have BGE := Lib.hid (Pv2.out.bel.size)
    clear bz Pv2 Rv2
    go_upto_region 12 with ((with_reducible refine step_store (o := ⟨none, _, _, _, _, _⟩) (vs := wnc v9) (ty := 33) (x := .tmp 10) (y := .tmp 48) ?_ ?_ ?_ ?_ BZ.out.blk (HWI.out _) rfl (HWO.out _) ?_); (rfl); (rfl); (rfl); (rfl); intro v3 hbs hgs hss)
    have Pv3 := Lib.hid (Pz.out.stored K14 hgs BZ.out.off BGE.out)
    have Rv3 := Lib.hid (Rz.out.stored hgs Rap.out)
    have Fv3 := Lib.hid (BlkT.mk hbs BZ.out.off)
    clear hbs hgs hss BZ BGE Pz Rz Rap
    generalize v2.heap.size = qF at *
    cases r with
    | some y =>
      go_wp2_with fail
      go_ret
      exact ⟨rfl, HL0.out.trans (Pv3.out.bel.mono HL0.out.size)⟩
    | none =>
      clear Fv3
      by_cases hfull : 64 ≤ m
      · have g1 : (64 : Int) ≤ (m : Int) := by omega
        go_wp2_with fail
        go_ret
        exact ⟨rfl, HL0.out.trans (Pv3.out.bel.mono HL0.out.size)⟩
      · have g1 : ¬ (64 : Int) ≤ (m : Int) := by omega
        have HNO := Lib.hid (show has14 l k = false by rw [has14_false]; intro y hy e; have := List.find?_eq_none.1 HFD.out y hy; simp [e] at this)
        have HLT := Lib.hid (show m < 64 by omega)
        clear hfull
        go_wp2_with fail
        go_loopw [58] (fun t W => ∃ (i : Nat), i ≤ m ∧ t = .int .i64 (i : Int) ∧ St14 P w1 W q sz l S3 ∧ RowT ent W S3 A3 m l) (fun t W => m - (intOf t).toNat)
        case atStart => exact ⟨0, by omega, rfl, Pv3.out, Rv3.out⟩
        case round =>
          clear Pv3 Rv3 g1
          obtain ⟨i, hi, rfl, hst, hrow⟩ := hrel
          have Pwr := Lib.hid hst
          have Rwr := Lib.hid hrow
          clear hst hrow
          by_cases hlt : i < m
          · obtain ⟨b, o, rfl, hbw, hcell⟩ := row_rangeT Rwr.out.row (by omega)
            have hil : i < l.length := by have := HM.out; omega
            have HX := Lib.hid (hcell i hil wr rfl)
            have HXM := Lib.hid (List.getElem_mem hil)
            obtain ⟨x, hx⟩ : ∃ x, l[i] = x := ⟨_, rfl⟩
            rw [hx] at HX HXM
            have i1 : (i : Int) < (m : Int) := by omega
            have i2 : IntKind.i64.wrap ((i : Int) + 1) = ((i + 1 : Nat) : Int) := by have := HM64.out; rw [IntWalk.i64_in _ (by omega)]; omega
            have HI := Lib.hid hlt
            clear hcell hbw hx hi hlt hil
            have bz := bel_new (Below.refl wr.heap.size wr) (.cells #[.int .i64 0, .int .i64 0, .int .i64 0, .int .i64 0, .int .u64 0, .int .i64 0, .int .i64 0, .int .u32 0, .int .u32 0, .int .u32 0] 63)
            have BZ := Lib.hid (show BlkT (wr.alloc (.cells #[.int .i64 0, .int .i64 0, .int .i64 0, .int .i64 0, .int .u64 0, .int .i64 0, .int .i64 0, .int .u32 0, .int .u32 0, .int .u32 0] 63)) _ wr.heap.size 63 [.int .i64 0, .int .i64 0, .int .i64 0, .int .i64 0, .int .u64 0, .int .i64 0, .int .i64 0, .int .u32 0, .int .u32 0, .int .u32 0] from Pwr.out.newb K14 63 [.int .i64 0, .int .i64 0, .int .i64 0, .int .i64 0, .int .u64 0, .int .i64 0, .int .i64 0, .int .u32 0, .int .u32 0, .int .u32 0])
            have Rap := Lib.hid Rwr.out.apart
            have Pz := Lib.hid (Pwr.out.below K14 bz)
            have Rz := Lib.hid (Rwr.out.below bz)
            have BGE := Lib.hid (Pwr.out.bel.size)
            clear bz Pwr Rwr
            go_upto_region 17 with (first | (refine step_load_at (o := ⟨some 61, _, _, _, _, _⟩) rfl rfl rfl HX.out Try.underlying63 rfl (HEI.out _) ?_) | ((with_reducible refine step_store (o := ⟨none, _, _, _, _, _⟩) (vs := ent x) (ty := 63) (x := .tmp 13) (y := .tmp 61) ?_ ?_ ?_ ?_ BZ.out.blk (HEI.out _) rfl (HEO.out _) ?_); (rfl); (rfl); (rfl); (rfl); intro v4 hbs hgs hss))
            have Pv4 := Lib.hid (Pz.out.stored K14 hgs BZ.out.off BGE.out)
            have Rv4 := Lib.hid (Rz.out.stored hgs Rap.out)
            have Xv4 := Lib.hid (BlkT.mk hbs BZ.out.off)
            clear hbs hgs hss BZ BGE Pz Rz Rap
            generalize wr.heap.size = qX at *
            clear HX
            have y0 : v4.cell? ⟨qX, 0, none⟩ = some (.int .i64 x.k.tail) := Xv4.out.blk.cell 0
            have y1 : v4.cell? ⟨qX, 1, none⟩ = some (.int .i64 x.k.tun) := Xv4.out.blk.cell 1
            have y2 : v4.cell? ⟨qX, 2, none⟩ = some (.int .i64 x.k.head) := Xv4.out.blk.cell 2
            have y3 : v4.cell? ⟨qX, 3, none⟩ = some (.int .i64 x.k.lsp) := Xv4.out.blk.cell 3
            have x0 : v4.cell? ⟨w.heap.size, 0, none⟩ = some (.int .i64 k.tail) := (BX.out v4 Pv4.out.bel).cell 0
            have x1 : v4.cell? ⟨w.heap.size, 1, none⟩ = some (.int .i64 k.tun) := (BX.out v4 Pv4.out.bel).cell 1
            have x2 : v4.cell? ⟨w.heap.size, 2, none⟩ = some (.int .i64 k.head) := (BX.out v4 Pv4.out.bel).cell 2
            have x3 : v4.cell? ⟨w.heap.size, 3, none⟩ = some (.int .i64 k.lsp) := (BX.out v4 Pv4.out.bel).cell 3
            have hkin := fun W => rkin14_calls x.k k W
            unfold Yes14 at hkin
            obtain ⟨kb, hkb⟩ : ∃ kb, kKin x.k k = kb := ⟨_, rfl⟩
            rw [hkb] at hkin
            have HKB := Lib.hid hkb
            have HKN := Lib.hid hkin
            clear hkin hkb
            go_wp2_with fail
            ((with_reducible refine (HKN.out _).mono ?_))
            rintro e v5 ⟨rfl, hb⟩
            have Pv5 := Lib.hid (Pv4.out.below K14 hb)
            have Rv5 := Lib.hid (Rv4.out.below hb)
            have Xv5 := Lib.hid (Xv4.out.below hb)
            clear Pv4 Rv4 Xv4
            clear hb
            clear x0 x1 x2 x3 y0 y1 y2 y3 HKN
            cases kb with
            | false =>
              go_wp2_with fail
              go_roundw
              case rel => exact ⟨i + 1, by have := HI.out; omega, by first | rfl | (simp; omega), Pv5.out, Rv5.out⟩
              case measure => have := HI.out; simp [intOf]; omega
            | true =>
              have HKAP := Lib.hid (kKin_iff.1 HKB.out)
              have hbws : ∀ y ∈ l, y.w.bw < 18446744073709551616 := fun y hy => (BWS.out y hy).2.1
              have hfs : fsum (fams l) ≤ sz := TB.out.fit
              obtain ⟨N, hN⟩ : ∃ N, fsum (fams l) = N := ⟨_, rfl⟩
              have HN := Lib.hid hN
              rw [hN] at hfs
              have HFS := Lib.hid hfs
              have HHL : Hid (∀ (A9 : Option Addr) (c9 : Nat) (W : World), Row ent W W.heap.size A9 m l → Calls Try.prog 28 #[.slice A9 m c9] W fun e w' => e = .returned (.tuple #[.int .u64 (N : Int), .bool true]) ∧ Below W.heap.size W w') := by
                intro A9 c9 W hR
                have hh := held14_calls A9 m c9 l hbws W hR (by have := HM64.out; omega)
                rw [held_fams TB.out.srt, hN] at hh
                unfold Two13 aS at hh
                rw [if_pos (by omega), decide_eq_true (by omega)] at hh
                exact hh
              clear hbws hfs hN
              go_wp2_with fail
              ((with_reducible refine (HHL.out _ _ _ Rv5.out.row).mono ?_))
              rintro e v6 ⟨rfl, hb⟩
              have Pv6 := Lib.hid (Pv5.out.below K14 hb)
              have Rv6 := Lib.hid (Rv5.out.below hb)
              have Xv6 := Lib.hid (Xv5.out.below hb)
              clear Pv5 Rv5 Xv5
              clear hb
              have hv : WnB ⟨x.w.bw, 7, 7, 0, 0, 0⟩ := ⟨(BWS.out x HXM.out).2.1, by unfold I64; simp only; omega, by unfold I64; simp only; omega, by unfold WnOk; simp only; omega⟩
              have hsh := shares_fit (size := sz) TB.out.srt HNO.out HXM.out HKAP.out ⟨x.w.bw, 7, 7, 0, 0, 0⟩ rfl
              have had := admit_fit (size := sz) (w := ⟨x.w.bw, 7, 7, 0, 0, 0⟩) rfl HNO.out (by rw [HM.out]; exact HLT.out) (by unfold fit14; rw [hsh]; exact decide_eq_true TB.out.fit)
              have hca := K14.adm Pv6.out.p k ⟨x.w.bw, 7, 7, 0, 0, 0⟩ hk hv
              rw [had] at hca
              unfold Adt14 at hca
              obtain ⟨l2, hl2⟩ : ∃ l2, wIns l ⟨k, ⟨x.w.bw, 7, 7, 0, 0, 0⟩⟩ = l2 := ⟨_, rfl⟩
              rw [hl2] at hca hsh
              have HL2 := Lib.hid hl2
              have HSH := Lib.hid hsh
              have HCA := Lib.hid (show Calls Try.prog 19 #[.pointer (some ⟨q, 0, none⟩), .agg #[.int .i64 k.tail, .int .i64 k.tun, .int .i64 k.head, .int .i64 k.lsp], .agg #[.int .u64 (x.w.bw : Int), .int .i64 7, .int .i64 7, .int .u32 0, .int .u32 0, .int .u32 0]] v6 _ from hca)
              clear hca had hsh hv hl2
              have x0 : v6.cell? ⟨w.heap.size, 0, none⟩ = some (.int .i64 k.tail) := (BX.out v6 Pv6.out.bel).cell 0
              have x1 : v6.cell? ⟨w.heap.size, 1, none⟩ = some (.int .i64 k.tun) := (BX.out v6 Pv6.out.bel).cell 1
              have x2 : v6.cell? ⟨w.heap.size, 2, none⟩ = some (.int .i64 k.head) := (BX.out v6 Pv6.out.bel).cell 2
              have x3 : v6.cell? ⟨w.heap.size, 3, none⟩ = some (.int .i64 k.lsp) := (BX.out v6 Pv6.out.bel).cell 3
              have y4 : v6.cell? ⟨qX, 4, none⟩ = some (.int .u64 (x.w.bw : Int)) := Xv6.out.blk.cell 4
              go_wp2_with fail
              ((with_reducible refine (HCA.out).mono ?_))
              rintro e v7 ⟨S4, A4, c4, rfl, p, m, r⟩
              have Pv7 := Lib.hid (Pv6.out.mv p m)
              have Rv7 := Lib.hid (Rv6.out.mv m)
              have Xv7 := Lib.hid (Xv6.out.mv m)
              clear Pv6 Rv6 Xv6
              clear p m r
              clear HCA x0 x1 x2 x3 y4
              clear Xv7
              have TB2 := Lib.hid (K14.tbl Pv7.out.p)
              have BW2 := Lib.hid (K14.bw Pv7.out.p)
              go_wp2_with fail
              ((with_reducible refine ((K14.entries Pv7.out.p)).mono ?_))
              rintro e v8 ⟨S5, A5, c5, rfl, p, m, r⟩
              have Pv8 := Lib.hid (Pv7.out.mv p m)
              have Rv8 := Lib.hid (Rv7.out.mv m)
              clear Pv7 Rv7
              have Ev8 := Lib.hid r
              clear p m r
              have hl64 : l2.length ≤ 64 := TB2.out.len
              have HL64 := Lib.hid hl64
              obtain ⟨m2, hm2⟩ : ∃ m2, l2.length = m2 := ⟨_, rfl⟩
              rw [hm2] at Ev8 hl64 ⊢
              have hh := held14_calls A5 m2 c5 l2 (fun y hy => (BW2.out y hy).2.1) v8 Ev8.out.row (by omega)
              rw [held_fams TB2.out.srt, HSH.out, HN.out] at hh
              unfold Two13 aS at hh
              rw [if_pos (by have := HFS.out; omega), decide_eq_true (by have := HFS.out; omega)] at hh
              have HH := Lib.hid hh
              clear hh hl64 hm2
              go_wp2_with fail
              ((with_reducible refine (HH.out).mono ?_))
              rintro e v9 ⟨rfl, hb⟩
              have Pv9 := Lib.hid (Pv8.out.below K14 hb)
              have Rv9 := Lib.hid (Rv8.out.below hb)
              have Ev9 := Lib.hid (Ev8.out.below hb)
              clear Pv8 Rv8 Ev8
              clear hb
              clear HH Ev9
              have hcd := K14.drop Pv9.out.p k hk
              rw [show aDrop l2 k = (l, 0) by rw [← HL2.out]; exact drop_wIns (x := ⟨k, ⟨x.w.bw, 7, 7, 0, 0, 0⟩⟩) HNO.out] at hcd
              unfold Drt14 at hcd
              have HCD := Lib.hid (show Calls Try.prog 18 #[.pointer (some ⟨q, 0, none⟩), .agg #[.int .i64 k.tail, .int .i64 k.tun, .int .i64 k.head, .int .i64 k.lsp]] v9 _ from hcd)
              clear hcd
              have x0 : v9.cell? ⟨w.heap.size, 0, none⟩ = some (.int .i64 k.tail) := (BX.out v9 Pv9.out.bel).cell 0
              have x1 : v9.cell? ⟨w.heap.size, 1, none⟩ = some (.int .i64 k.tun) := (BX.out v9 Pv9.out.bel).cell 1
              have x2 : v9.cell? ⟨w.heap.size, 2, none⟩ = some (.int .i64 k.head) := (BX.out v9 Pv9.out.bel).cell 2
              have x3 : v9.cell? ⟨w.heap.size, 3, none⟩ = some (.int .i64 k.lsp) := (BX.out v9 Pv9.out.bel).cell 3
              go_wp2_with fail
              ((with_reducible refine (HCD.out).mono ?_))
              rintro e v10 ⟨S6, rfl, p, m⟩
              have Pv10 := Lib.hid (Pv9.out.mv p m)
              have Rv10 := Lib.hid (Rv9.out.mv m)
              clear Pv9 Rv9
              clear p m
              clear HCD x0 x1 x2 x3
              have hen := K14.entries Pv10.out.p
              unfold Ent14 at hen
              rw [HM.out] at hen
              have HEN := Lib.hid hen
              clear hen
              go_wp2_with fail
              ((with_reducible refine (HEN.out).mono ?_))
              rintro e v11 ⟨S7, A7, c7, rfl, p, m, r⟩
              have Pv11 := Lib.hid (Pv10.out.mv p m)
              have Rv11 := Lib.hid (Rv10.out.mv m)
              clear Pv10 Rv10
              have Ev11 := Lib.hid r
              clear p m r
              clear HEN
              have ho := ours14_calls A7 m c7 l v11 Ev11.out.row (by have := HM64.out; omega)
              unfold OurP14 at ho
              rw [HM.out] at ho
              have HO := Lib.hid ho
              clear ho
              go_wp2_with fail
              ((with_reducible refine HO.out.mono ?_))
              rintro e v12 ⟨AG, cG, rfl, hacc, hb⟩
              have Pv12 := Lib.hid (Pv11.out.below K14 hb)
              have Rv12 := Lib.hid (Rv11.out.below hb)
              have Ev12 := Lib.hid (Ev11.out.below hb)
              clear Pv11 Rv11 Ev11
              have Gv12 := Lib.hid (show Row ent v12 v12.heap.size AG m l by have := hacc.row; rw [HM.out] at this; exact this)
              clear hacc hb HO
              have ho := ours14_calls (some ⟨b, o, none⟩) m c3 l v12 Rv12.out.row (by have := HM64.out; omega)
              unfold OurP14 at ho
              rw [HM.out] at ho
              have HO := Lib.hid ho
              clear ho
              go_wp2_with fail
              ((with_reducible refine HO.out.mono ?_))
              rintro e v13 ⟨AH, cH, rfl, hacc, hb⟩
              have Pv13 := Lib.hid (Pv12.out.below K14 hb)
              have Rv13 := Lib.hid (Rv12.out.below hb)
              have Ev13 := Lib.hid (Ev12.out.below hb)
              have Gv13 := Lib.hid ((Gv12.out.below hb).more hb.size)
              clear Pv12 Rv12 Ev12 Gv12
              have Hv13 := Lib.hid (show Row ent v13 v13.heap.size AH m l by have := hacc.row; rw [HM.out] at this; exact this)
              clear hacc hb HO
              have hs := same14_calls AG AH m cG cH l v13 Gv13.out Hv13.out (by have := HM64.out; omega)
              unfold Yes14 at hs
              have HSA := Lib.hid hs
              clear hs
              go_wp2_with fail
              ((with_reducible refine (HSA.out).mono ?_))
              rintro e v14 ⟨rfl, hb⟩
              have Pv14 := Lib.hid (Pv13.out.below K14 hb)
              clear Pv13
              clear hb
              go_wp2_with fail
              go_ret
              exact ⟨rfl, HL0.out.trans (Pv14.out.bel.mono HL0.out.size)⟩
          · have i1 : ¬ (i : Int) < (m : Int) := by omega
            clear hi hlt
            go_wp2_with fail
            go_ret
            exact ⟨rfl, HL0.out.trans (Pwr.out.bel.mono HL0.out.size)⟩
end Go.Proofs.Ytnkoiageoenfeaa
