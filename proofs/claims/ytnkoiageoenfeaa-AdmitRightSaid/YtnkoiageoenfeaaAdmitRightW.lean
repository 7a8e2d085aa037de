/-
  The law AdmitRight, walked: for any size and any calls the answer is true, and nothing that was there has turned. Condition: what the code must keep (Tk14).
-/
import Derived.Test.YtnkoiageoenfeaaAdmTS
import Derived.Test.YtnkoiageoenfeaaLedgT
namespace Go.Proofs.Ytnkoiageoenfeaa
set_option maxRecDepth 100000
set_option linter.unusedVariables false
open Go.RowKit

set_option maxHeartbeats 6400000 in
theorem right14_walk {P : TabW} (K14 : Tk14 P) (sz : Nat) (hsz : sz < 18446744073709551616) (a : Option Addr) (n c : Nat) (w : World) (hn : n ≤ maxLen) (h : ∃ es, Row a14 w w.heap.size a n es ∧ ∀ x ∈ es, Ac14Ok x) : Calls Try.prog 5 #[.int .u64 (sz : Int), .slice a n c] w fun e w' => e = .returned (.bool true) ∧ Below w.heap.size w w' := by
  obtain ⟨es, hr, hok⟩ := h
  unfold maxLen at hn
  have HR := Lib.hid hr
  have HOK := Lib.hid hok
  have ha := alive14_calls K14 w
  have HNEW := Lib.hid (fun W => K14.new sz hsz W)
  clear hr hok
  go_enter Try.func5, Try.ntmps5
  go_wp2_with fail
  ((with_reducible refine ha.mono ?_))
  rintro e w1 ⟨rfl, b1⟩
  have B1 := Lib.hid b1
  clear b1 ha
  go_wp2_with fail
  ((with_reducible refine (HNEW.out w1).mono ?_))
  intro e w2 hnew
  obtain ⟨q, S, rfl, st⟩ := St14.start B1.out hnew
  have ST := Lib.hid st
  clear st hnew HNEW B1
  go_wp2_with fail
  go_loopw [6] (fun t W => ∃ (i : Nat) (l : List Et) (S : List Nat), i ≤ n ∧ i ≤ 80 ∧ t = .int .i64 (i : Int) ∧ St14 P w W q sz l S) (fun t W => 80 - (intOf t).toNat)
  case atStart => exact ⟨0, [], S, by omega, by omega, rfl, ST.out⟩
  case round =>
    clear ST
    obtain ⟨i, l, S1, hin, hi80, rfl, hst⟩ := hrel
    have S1' := Lib.hid hst
    clear hst
    by_cases hlt : i < n ∧ i < 80
    · obtain ⟨hl1, hl2⟩ := hlt
      have i1 : (i : Int) < (n : Int) := by omega
      have i2 : (i : Int) < 80 := by omega
      obtain ⟨b, o, x, rfl, hx, hb, hc⟩ := row_cells a14_length HR.out hl1
      have hxo := HOK.out x (List.mem_of_getElem? hx)
      have hce := hc wr S1'.out.bel
      have y0 : wr.cell? ⟨b, o + i * 12, none⟩ = some (.bool x.dr) := hce 0 _ rfl
      have y1 : wr.cell? ⟨b, o + i * 12 + 1, none⟩ = some (.bool x.fk) := hce 1 _ rfl
      have y2 : wr.cell? ⟨b, o + i * 12 + 2, none⟩ = some (.int .i64 x.k.tail) := hce 2 _ rfl
      have y3 : wr.cell? ⟨b, o + i * 12 + 3, none⟩ = some (.int .i64 x.k.tun) := hce 3 _ rfl
      have y4 : wr.cell? ⟨b, o + i * 12 + 4, none⟩ = some (.int .i64 x.k.head) := hce 4 _ rfl
      have y5 : wr.cell? ⟨b, o + i * 12 + 5, none⟩ = some (.int .i64 x.k.lsp) := hce 5 _ rfl
      have y6 : wr.cell? ⟨b, o + i * 12 + 6, none⟩ = some (.int .u64 (x.w.bw : Int)) := hce 6 _ rfl
      have y7 : wr.cell? ⟨b, o + i * 12 + 7, none⟩ = some (.int .i64 x.w.su) := hce 7 _ rfl
      have y8 : wr.cell? ⟨b, o + i * 12 + 8, none⟩ = some (.int .i64 x.w.ho) := hce 8 _ rfl
      have y9 : wr.cell? ⟨b, o + i * 12 + 9, none⟩ = some (.int .u32 (x.w.an : Int)) := hce 9 _ rfl
      have y10 : wr.cell? ⟨b, o + i * 12 + 10, none⟩ = some (.int .u32 (x.w.al : Int)) := hce 10 _ rfl
      have y11 : wr.cell? ⟨b, o + i * 12 + 11, none⟩ = some (.int .u32 (x.w.no : Int)) := hce 11 _ rfl
      have hd : Calls Try.prog 27 #[.pointer (some ⟨q, 0, none⟩), .agg #[.bool x.dr, .bool x.fk, .int .i64 x.k.tail, .int .i64 x.k.tun, .int .i64 x.k.head, .int .i64 x.k.lsp, .int .u64 (x.w.bw : Int), .int .i64 x.w.su, .int .i64 x.w.ho, .int .u32 (x.w.an : Int), .int .u32 (x.w.al : Int), .int .u32 (x.w.no : Int)]] wr (Adt14 P S1 q sz (aDo sz l x) wr) := does14_calls K14 S1'.out.p x hxo
      have HD := Lib.hid hd
      have HI := Lib.hid (And.intro hl1 hl2)
      clear hd hx hb hc hce hxo hl1 hl2
      go_wp2_with fail
      ((with_reducible refine HD.out.mono ?_))
      rintro e v1 ⟨S2, A2, c2, rfl, p2, m2, r2⟩
      have P2 := Lib.hid (S1'.out.mv p2 m2)
      clear p2 m2 r2 HD S1' y0 y1 y2 y3 y4 y5 y6 y7 y8 y9 y10 y11
      generalize aDo sz l x = r at *
      obtain ⟨l2, hl2⟩ : ∃ l2, r.1 = l2 := ⟨_, rfl⟩
      rw [hl2] at P2
      clear hl2
      have HE := Lib.hid (K14.entries P2.out.p)
      go_wp2_with fail
      ((with_reducible refine HE.out.mono ?_))
      rintro e v2 ⟨S3, A3, c3, rfl, p3, m3, r3⟩
      have P3 := Lib.hid (P2.out.mv p3 m3)
      have R3 := Lib.hid r3
      clear p3 m3 r3 HE P2
      have TB := Lib.hid (K14.tbl P3.out.p)
      have hbw : ∀ x ∈ l2, x.w.bw < 18446744073709551616 := fun x hx => (K14.bw P3.out.p x hx).2.1
      obtain ⟨m, hm⟩ : ∃ m, l2.length = m := ⟨_, rfl⟩
      have HM := Lib.hid hm
      have hm64 : m ≤ 64 := by rw [← hm]; exact TB.out.len
      rw [hm] at R3 ⊢
      have hh := held14_calls A3 m c3 l2 hbw v2 R3.out.row (by omega)
      rw [held_fams TB.out.srt] at hh
      have hfs : fsum (fams l2) ≤ sz := TB.out.fit
      obtain ⟨N, hN⟩ : ∃ N, fsum (fams l2) = N := ⟨_, rfl⟩
      rw [hN] at hh hfs
      unfold Two13 aS at hh
      rw [if_pos (by omega), decide_eq_true (by omega)] at hh
      have HH := Lib.hid hh
      have HNN := Lib.hid hN
      clear hh hN hm hbw
      go_wp2_with fail
      ((with_reducible refine HH.out.mono ?_))
      rintro e v3 ⟨rfl, hb⟩
      have P4 := Lib.hid (P3.out.below K14 hb)
      have R4 := Lib.hid (R3.out.below hb)
      clear hb HH P3 R3
      have hg := K14.ledger P4.out.p
      have HO := Lib.hid (fams_ho TB.out.srt TB.out.rgt)
      have hls := ledgOf_sum (size := sz) HO.out
      unfold Lgt14 at hg
      have hlk := ledgOf_ok HO.out hsz (by rw [HNN.out]; omega)
      obtain ⟨L, hL⟩ : ∃ L, ledgOf sz (fams l2) = L := ⟨_, rfl⟩
      rw [hL] at hg hls hlk
      rw [HNN.out] at hls
      obtain ⟨cp, hd⟩ := L
      have hl8 : hd.length = 8 := hls.2.1
      have hcp : cp = sz := hls.2.2
      subst hcp
      obtain ⟨h0, h1, h2, h3, h4, h5, h6, h7, rfl⟩ := held_eight hl8
      have hsm : ([h0, h1, h2, h3, h4, h5, h6, h7] : List Nat).sum = N := hls.1
      have hs9 := fun W => rsum13_calls _ hlk W
      unfold Two13 aS at hs9
      rw [show (⟨cp, [h0, h1, h2, h3, h4, h5, h6, h7]⟩ : Lg).held.sum = N from hsm, if_pos (by omega), decide_eq_true (by omega)] at hs9
      have HS := Lib.hid (show ∀ W, Calls Try.prog 29 #[.agg #[.int .u64 (cp : Int), .int .u64 (h0 : Int), .int .u64 (h1 : Int), .int .u64 (h2 : Int), .int .u64 (h3 : Int), .int .u64 (h4 : Int), .int .u64 (h5 : Int), .int .u64 (h6 : Int), .int .u64 (h7 : Int)]] W fun e w' => e = .returned (.tuple #[.int .u64 (N : Int), .bool true]) ∧ Below W.heap.size W w' from hs9)
      have HG := Lib.hid (show Calls Try.prog 22 #[.pointer (some ⟨q, 0, none⟩)] v3 fun e w' => ∃ S', e = .returned (.agg #[.int .u64 (cp : Int), .int .u64 (h0 : Int), .int .u64 (h1 : Int), .int .u64 (h2 : Int), .int .u64 (h3 : Int), .int .u64 (h4 : Int), .int .u64 (h5 : Int), .int .u64 (h6 : Int), .int .u64 (h7 : Int)]) ∧ P w' q cp l2 S' ∧ Mv14 S3 v3 S' w' from hg)
      clear hs9 hg hls hlk hL hl8 hsm
      go_wp2_with fail
      ((with_reducible refine HG.out.mono ?_))
      rintro e v4 ⟨S5, rfl, p5, m5⟩
      have P5 := Lib.hid (P4.out.mv p5 m5)
      have R5 := Lib.hid (R4.out.mv m5)
      clear p5 m5 HG P4 R4
      go_upto_region 13 with fail
      have XB := Lib.hid (P5.out.newb K14 48 [.int .u64 (cp : Int), .int .u64 (h0 : Int), .int .u64 (h1 : Int), .int .u64 (h2 : Int), .int .u64 (h3 : Int), .int .u64 (h4 : Int), .int .u64 (h5 : Int), .int .u64 (h6 : Int), .int .u64 (h7 : Int)])
      have hb6 : Below v4.heap.size v4 (v4.alloc (.cells #[.int .u64 (cp : Int), .int .u64 (h0 : Int), .int .u64 (h1 : Int), .int .u64 (h2 : Int), .int .u64 (h3 : Int), .int .u64 (h4 : Int), .int .u64 (h5 : Int), .int .u64 (h6 : Int), .int .u64 (h7 : Int)] 48)) := bel_new (Below.refl _ _) _
      have P6 := Lib.hid (P5.out.below K14 hb6)
      have R6 := Lib.hid (R5.out.below hb6)
      clear hb6 P5 R5
      have XB2 := Lib.hid (show BlkT (v4.alloc (.cells #[.int .u64 (cp : Int), .int .u64 (h0 : Int), .int .u64 (h1 : Int), .int .u64 (h2 : Int), .int .u64 (h3 : Int), .int .u64 (h4 : Int), .int .u64 (h5 : Int), .int .u64 (h6 : Int), .int .u64 (h7 : Int)] 48)) S5 v4.heap.size 48 [.int .u64 (cp : Int), .int .u64 (h0 : Int), .int .u64 (h1 : Int), .int .u64 (h2 : Int), .int .u64 (h3 : Int), .int .u64 (h4 : Int), .int .u64 (h5 : Int), .int .u64 (h6 : Int), .int .u64 (h7 : Int)] from XB.out)
      clear XB
      generalize v4.alloc (.cells #[.int .u64 (cp : Int), .int .u64 (h0 : Int), .int .u64 (h1 : Int), .int .u64 (h2 : Int), .int .u64 (h3 : Int), .int .u64 (h4 : Int), .int .u64 (h5 : Int), .int .u64 (h6 : Int), .int .u64 (h7 : Int)] 48) = v5 at *
      generalize v4.heap.size = xq at *
      have y0 : v5.cell? ⟨xq, 0, none⟩ = some (.int .u64 (cp : Int)) := XB2.out.blk.cell 0
      have y1 : v5.cell? ⟨xq, 1, none⟩ = some (.int .u64 (h0 : Int)) := XB2.out.blk.cell 1
      have y2 : v5.cell? ⟨xq, 2, none⟩ = some (.int .u64 (h1 : Int)) := XB2.out.blk.cell 2
      have y3 : v5.cell? ⟨xq, 3, none⟩ = some (.int .u64 (h2 : Int)) := XB2.out.blk.cell 3
      have y4 : v5.cell? ⟨xq, 4, none⟩ = some (.int .u64 (h3 : Int)) := XB2.out.blk.cell 4
      have y5 : v5.cell? ⟨xq, 5, none⟩ = some (.int .u64 (h4 : Int)) := XB2.out.blk.cell 5
      have y6 : v5.cell? ⟨xq, 6, none⟩ = some (.int .u64 (h5 : Int)) := XB2.out.blk.cell 6
      have y7 : v5.cell? ⟨xq, 7, none⟩ = some (.int .u64 (h6 : Int)) := XB2.out.blk.cell 7
      have y8 : v5.cell? ⟨xq, 8, none⟩ = some (.int .u64 (h7 : Int)) := XB2.out.blk.cell 8
      go_wp2_with fail
      ((with_reducible refine (HS.out v5).mono ?_))
      rintro e v6 ⟨rfl, hb⟩
      have P7 := Lib.hid (P6.out.below K14 hb)
      have R7 := Lib.hid (R6.out.below hb)
      have XB3 := Lib.hid (XB2.out.below hb)
      clear hb P6 R6 XB2 HS y0 y1 y2 y3 y4 y5 y6 y7 y8
      have y0 : v6.cell? ⟨xq, 0, none⟩ = some (.int .u64 (cp : Int)) := XB3.out.blk.cell 0
      have g1 : decide ((cp : Int) < (N : Int)) = false := decide_eq_false (by omega)
      have g2 : decide ((64 : Int) < (m : Int)) = false := decide_eq_false (by omega)
      have g3 : decide (cp < N) = false := decide_eq_false (by omega)
      have g4 : decide (64 < m) = false := decide_eq_false (by omega)
      have HFN := Lib.hid hfs
      clear hfs
      go_wp2_with fail
      clear y0 g1 g2 g3 g4
      go_loopw [13] (fun t W => ∃ j : Nat, 1 ≤ j ∧ (j ≤ m ∨ j = 1) ∧ t = .int .i64 (j : Int) ∧ Below v6.heap.size v6 W) (fun t W => m - (intOf t).toNat)
      case atStart => exact ⟨1, by omega, by omega, rfl, Below.refl _ _⟩
      case round =>
        obtain ⟨j, hj1, hj2, rfl, hbl⟩ := hrel
        have HBL := Lib.hid hbl
        clear hbl
        by_cases hjm : j < m
        · obtain ⟨b2, o2, z, hA, hz, hb2, hc2⟩ := row_cells ent_length R7.out.row hjm
          obtain ⟨jp, hjp⟩ : ∃ jp, j = jp + 1 := ⟨j - 1, by omega⟩
          obtain ⟨b3, o3, y, hA3, hy, hb3, hc3⟩ := row_cells ent_length R7.out.row (show jp < m by omega)
          have hbb : b3 = b2 ∧ o3 = o2 := by rw [hA] at hA3; cases hA3; exact ⟨rfl, rfl⟩
          obtain ⟨rfl, rfl⟩ := hbb
          subst hA
          clear hA3
          have hbef : kBef y.k z.k = true := by
            have hs := TB.out.srt
            have hj' := (List.getElem?_eq_some_iff.1 hz)
            have hy' := (List.getElem?_eq_some_iff.1 hy)
            obtain ⟨hz1, hz2⟩ := hj'
            obtain ⟨hy1, hy2⟩ := hy'
            have := List.pairwise_iff_getElem.1 hs jp j hy1 hz1 (by omega)
            rwa [hy2, hz2] at this
          have hbc := fun W => rbefore14_calls y.k z.k W
          unfold Yes14 at hbc
          rw [hbef] at hbc
          have HBC := Lib.hid hbc
          have HCS : Hid (∀ W, Below wr.heap.size wr W → (W.cell? ⟨b3, o3 + jp * 10, none⟩ = some (.int .i64 y.k.tail) ∧ W.cell? ⟨b3, o3 + jp * 10 + 1, none⟩ = some (.int .i64 y.k.tun) ∧ W.cell? ⟨b3, o3 + jp * 10 + 2, none⟩ = some (.int .i64 y.k.head) ∧ W.cell? ⟨b3, o3 + jp * 10 + 3, none⟩ = some (.int .i64 y.k.lsp)) ∧ W.cell? ⟨b3, o3 + j * 10, none⟩ = some (.int .i64 z.k.tail) ∧ W.cell? ⟨b3, o3 + j * 10 + 1, none⟩ = some (.int .i64 z.k.tun) ∧ W.cell? ⟨b3, o3 + j * 10 + 2, none⟩ = some (.int .i64 z.k.head) ∧ W.cell? ⟨b3, o3 + j * 10 + 3, none⟩ = some (.int .i64 z.k.lsp)) := fun W hW => by
            have q1 := hc3 W (HBL.out.trans (hW.mono HBL.out.size))
            have q2 := hc2 W (HBL.out.trans (hW.mono HBL.out.size))
            exact ⟨⟨q1 0 _ rfl, q1 1 _ rfl, q1 2 _ rfl, q1 3 _ rfl⟩, q2 0 _ rfl, q2 1 _ rfl, q2 2 _ rfl, q2 3 _ rfl⟩
          have j1 : (j : Int) < (m : Int) := by omega
          have j2 : IntKind.i64.wrap ((j : Int) - 1) = (jp : Int) := by rw [IntWalk.i64_in _ (by omega)]; omega
          have j3 : (jp : Int) < (m : Int) := by omega
          have j4 : j < m := by omega
          have j5 : jp < m := by omega
          have j6 : IntKind.i64.wrap ((j : Int) + 1) = ((j + 1 : Nat) : Int) := by rw [IntWalk.i64_in _ (by omega)]; omega
          have HJ := Lib.hid (And.intro hj1 hjm)
          clear hz hy hb2 hb3 hc2 hc3 hjp hbef hbc hj1 hj2 hjm
          go_wp2_with fail
          refine region_seq (fun W => Below wr.heap.size wr W) [(0, true), (1, true), (2, true), (3, true), (4, true), (5, true), (6, true), (7, true), (8, true), (9, true), (10, true), (11, false), (12, true)] (by kernel_rfl) (by kernel_rfl) (by kernel_rfl) (by kernel_rfl) (fun _ _ _ _ _ h => h) (Below.refl _ _).drew ?_
          repeat
            refine seq_pure (v := ?_) rfl (by rfl) (fun W hW => ?_) ?_
            rotate_left
            · obtain ⟨⟨c0, c1, c2, c3⟩, d0, d1, d2, d3⟩ := HCS.out W hW
              clear hW
              go_simp
              try with_reducible rfl
            simp only [Act.put, List.setIfInBounds_toArray, List.set_cons_zero, List.set_cons_succ]
          refine seq_make rfl (by rfl) (fun K hK => ?_)
          go_simp
          have hc := HBC.out wr.drew
          ((with_reducible refine hc.mono ?_))
          rintro e v7 ⟨rfl, hb⟩
          have SB := Lib.hid (show Below wr.heap.size wr v7 from below_of_drew hb)
          clear hc hb
          go_simp
          refine hK _ _ (fun W => Below wr.heap.size wr W) (fun W h => h) SB.out ?_
          clear hK K
          refine seq_pure (v := ?_) rfl (by rfl) (fun W hW => ?_) ?_
          rotate_left
          · clear hW
            go_simp
            try with_reducible rfl
          simp only [Act.put, List.setIfInBounds_toArray, List.set_cons_zero, List.set_cons_succ]
          refine seq_done ?_
          go_wp2_with fail
          go_roundw
          case rel => exact ⟨j + 1, by omega, .inl (by have := HJ.out; omega), by first | rfl | (simp; omega), HBL.out.trans (SB.out.mono HBL.out.size)⟩
          case measure => have := HJ.out; simp [intOf]; omega
        · have j1 : ¬ (j : Int) < (m : Int) := by omega
          have P8 := Lib.hid (P7.out.below K14 HBL.out)
          clear P7 hj1 hj2 hjm
          go_wp2_with fail
          go_roundw
          case rel => exact ⟨i + 1, l2, S5, by have := HI.out; omega, by have := HI.out; omega, by first | rfl | (simp; omega), P8.out⟩
          case measure => have := HI.out; simp [intOf]; omega
    · have i1 : (decide ((i : Int) < (n : Int)) && decide ((i : Int) < 80)) = false := by
        rw [Bool.and_eq_false_iff]
        by_cases h1 : i < n
        · exact .inr (decide_eq_false (by omega))
        · exact .inl (decide_eq_false (by omega))
      by_cases h1 : i < n
      · have i2 : (i : Int) < (n : Int) := by omega
        have i3 : ¬ (i : Int) < 80 := by omega
        clear i1 hin hi80 hlt
        go_wp2_with fail
        go_ret
        exact ⟨rfl, S1'.out.bel⟩
      · have i2 : ¬ (i : Int) < (n : Int) := by omega
        clear i1 hin hi80 hlt
        go_wp2_with fail
        go_ret
        exact ⟨rfl, S1'.out.bel⟩
end Go.Proofs.Ytnkoiageoenfeaa
