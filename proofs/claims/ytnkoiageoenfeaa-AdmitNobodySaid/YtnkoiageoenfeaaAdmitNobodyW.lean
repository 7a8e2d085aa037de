/-
  The law AdmitNobody, walked: for any calls the answer is true, and nothing that was there has turned. No condition.
-/
import Derived.Test.YtnkoiageoenfeaaAdcQ
import Derived.Deep.CutBlock
namespace Go.Proofs.Ytnkoiageoenfeaa
set_option maxRecDepth 100000
set_option linter.unusedVariables false
open Go.RowKit

set_option maxHeartbeats 25600000 in
theorem nobody14_walk (a : Option Addr) (n c : Nat) (w : World) (hn : n ≤ maxLen) (h : ∃ es, Row a14 w w.heap.size a n es ∧ ∀ x ∈ es, Ac14Ok x) : Calls Try.prog 9 #[.slice a n c] w fun e w' => e = .returned (.bool true) ∧ Below w.heap.size w w' := by
  obtain ⟨es, hr, hok⟩ := h
  unfold maxLen at hn
  have HOK := Lib.hid hok
  have HA := Lib.hid (fun W => alive14_calls tk14 W)
  have HR := Lib.hid hr
  have HAI := Lib.hid (fun x : Ac14 => (show (Try.prog.info? 35).map (·.size) = some (a14 x).length from sizeActN))
  clear hok hr
  go_enter Try.func9, Try.ntmps9
  go_wp2_with fail
  ((with_reducible refine (HA.out _).mono ?_))
  rintro e w2 ⟨rfl, b1⟩
  have B1 := Lib.hid b1
  clear b1 HA
  have hl3 := bel_new (bel_new B1.out (.cells #[.bool false, .int .u64 0, .slice none 0 0] 69)) (.cells #[.pointer none, .pointer (some ⟨w2.heap.size, 0, none⟩)] 28)
  have hz3 : ((w2.alloc (.cells #[.bool false, .int .u64 0, .slice none 0 0] 69)).alloc (.cells #[.pointer none, .pointer (some ⟨w2.heap.size, 0, none⟩)] 28)).cell? ⟨w2.heap.size, 0, none⟩ = some (.bool false) := ((Blk.new w2 69 [.bool false, .int .u64 0, .slice none 0 0]).alloc (.cells #[.pointer none, .pointer (some ⟨w2.heap.size, 0, none⟩)] 28)).cell 0
  have hp3 : Blk ((w2.alloc (.cells #[.bool false, .int .u64 0, .slice none 0 0] 69)).alloc (.cells #[.pointer none, .pointer (some ⟨w2.heap.size, 0, none⟩)] 28)) (w2.heap.size + 1) 28 [.pointer none, .pointer (some ⟨w2.heap.size, 0, none⟩)] := by
    have := Blk.new (w2.alloc (.cells #[.bool false, .int .u64 0, .slice none 0 0] 69)) 28 [.pointer none, .pointer (some ⟨w2.heap.size, 0, none⟩)]
    rw [show (w2.alloc (.cells #[.bool false, .int .u64 0, .slice none 0 0] 69)).heap.size = w2.heap.size + 1 by simp] at this
    exact this
  have hs3 : w2.heap.size < ((w2.alloc (.cells #[.bool false, .int .u64 0, .slice none 0 0] 69)).alloc (.cells #[.pointer none, .pointer (some ⟨w2.heap.size, 0, none⟩)] 28)).heap.size := by simp; omega
  go_wp2_with fail
  generalize ((w2.alloc (.cells #[.bool false, .int .u64 0, .slice none 0 0] 69)).alloc (.cells #[.pointer none, .pointer (some ⟨w2.heap.size, 0, none⟩)] 28)) = w3 at *
  have L3 := Lib.hid hl3
  have Z3 := Lib.hid hz3
  have P3 := Lib.hid hp3
  have S3 := Lib.hid hs3
  clear hl3 hz3 hp3 hs3 B1
  generalize w2.heap.size = z at *
  go_loopw [18] (fun t W => ∃ j : Nat, j ≤ 2 ∧ t = .int .i64 (j : Int) ∧ Below w3.heap.size w3 W) (fun t W => 2 - (intOf t).toNat)
  case atStart => exact ⟨0, by omega, rfl, Below.refl _ _⟩
  case round =>
    obtain ⟨j, hj, rfl, hbl⟩ := hrel
    have HB := Lib.hid hbl
    clear hbl
    by_cases hlt : j < 2
    · have hp : ∃ p, wr.cell? ⟨z + 1, j, none⟩ = some (.pointer p) ∧ NoT wr p := by
        have hc := (P3.out.below HB.out).cell j
        rcases (by omega : j = 0 ∨ j = 1) with e | e
        · subst e; exact ⟨none, hc, .inl rfl⟩
        · subst e; exact ⟨_, hc, .inr ⟨z, rfl, by rw [HB.out.cell (p := ⟨z, 0, none⟩) S3.out]; exact Z3.out, Nat.lt_of_lt_of_le S3.out HB.out.size⟩⟩
      obtain ⟨p, hc, hnot⟩ := hp
      have N0 := Lib.hid hnot
      have i1 : (j : Int) < 2 := by omega
      have i2 : IntKind.i64.wrap ((j : Int) + 1) = ((j + 1 : Nat) : Int) := by rw [IntWalk.i64_in _ (by omega)]; omega
      have HJ := Lib.hid hlt
      have C1 := Lib.hid (show Calls Try.prog 19 #[.pointer p, .agg #[.int .i64 0, .int .i64 0, .int .i64 0, .int .i64 0], .agg #[.int .u64 0, .int .i64 0, .int .i64 0, .int .u32 0, .int .u32 0, .int .u32 0]] wr _ from admit14_not hnot ⟨0, 0, 0, 0⟩ ⟨0, 0, 0, 0, 0, 0⟩)
      clear hj hlt hnot
      go_wp2_with fail
      ((with_reducible refine C1.out.mono ?_))
      rintro e v1 ⟨rfl, hb⟩
      have N1 := Lib.hid (N0.out.below hb)
      have B1 := Lib.hid (HB.out.trans (hb.mono HB.out.size))
      clear hb C1 hc N0 HB
      have C2 := Lib.hid (show Calls Try.prog 18 #[.pointer p, .agg #[.int .i64 0, .int .i64 0, .int .i64 0, .int .i64 0]] v1 _ from drop14_not N1.out ⟨0, 0, 0, 0⟩)
      go_wp2_with fail
      ((with_reducible refine C2.out.mono ?_))
      rintro e v2 ⟨rfl, hb⟩
      have N2 := Lib.hid (N1.out.below hb)
      have B2 := Lib.hid (B1.out.trans (hb.mono B1.out.size))
      clear hb C2 N1 B1
      have C3 := Lib.hid (entries14_not N2.out)
      go_wp2_with fail
      ((with_reducible refine C3.out.mono ?_))
      rintro e v3 ⟨rfl, hb⟩
      have N3 := Lib.hid (N2.out.below hb)
      have B3 := Lib.hid (B2.out.trans (hb.mono B2.out.size))
      clear hb C3 N2 B2
      have C4 := Lib.hid (ledger14_not N3.out)
      go_wp2_with fail
      ((with_reducible refine C4.out.mono ?_))
      rintro e v4 ⟨rfl, hb⟩
      have N4 := Lib.hid (N3.out.below hb)
      have B4 := Lib.hid (B3.out.trans (hb.mono B3.out.size))
      clear hb C4 N3 B3
      have f1 : (Instr.field 48 (.agg #[.int .u64 0, .int .u64 0, .int .u64 0, .int .u64 0, .int .u64 0, .int .u64 0, .int .u64 0, .int .u64 0, .int .u64 0]) 0).run Try.prog v4 = .ok (.int .u64 0) v4 := by kernel_rfl
      have C5 := Lib.hid (copy14_not N4.out)
      go_wp2_with fail
      ((with_reducible refine C5.out.mono ?_))
      rintro e v5 ⟨rfl, hb⟩
      have B5 := Lib.hid (B4.out.trans (hb.mono B4.out.size))
      clear hb C5 N4 B4 f1
      go_wp2_with fail
      go_roundw
      case rel => exact ⟨j + 1, by have := HJ.out; omega, by first | rfl | (simp; omega), B5.out⟩
      case measure => have := HJ.out; simp [intOf]; omega
    · have i1 : ¬ (j : Int) < 2 := by omega
      have L4 := Lib.hid (L3.out.trans (HB.out.mono L3.out.size))
      clear hj hlt HB L3 Z3 P3 S3
      have HNEW := Lib.hid (show Calls Try.prog 16 #[.int .u64 20] wr (New14 TabC 20 wr) from tk14.new 20 (by decide) wr)
      go_wp2_with fail
      ((with_reducible refine HNEW.out.mono ?_))
      intro e w5 hnew
      obtain ⟨q, S, rfl, st⟩ := St14.start L4.out hnew
      have N0 := Lib.hid (show NC w w5 q [] S [] from ⟨st, fun t ht => by simp at ht⟩)
      clear st hnew HNEW L4
      go_upto_block 2 with fail
      go_cut [7, 8, 9, 10] from 63 to 101 (fun t7 t8 t9 t10 W => ∃ (q : Nat) (l : List Et) (S : List Nat) (os : List OT) (A8 : Option Addr) (c8 : Nat) (A9 : Option Addr) (c9 k : Nat), t7 = .pointer (some ⟨q, 0, none⟩) ∧ t8 = .slice A8 k c8 ∧ t9 = .slice A9 k c9 ∧ os.length = k ∧ k ≤ 8 ∧ NC w W q l S os ∧ AccR ptc 1 W w.heap.size 28 A8 c8 os ∧ AccR slc 1 W w.heap.size 55 A9 c9 os)
      case first =>
        go_wp2_with fail
        go_loopw [7, 8, 9, 10] (fun t7 t8 t9 t10 W => ∃ (i : Nat) (q : Nat) (l : List Et) (S : List Nat) (os : List OT) (A8 : Option Addr) (c8 : Nat) (A9 : Option Addr) (c9 k : Nat), i ≤ n ∧ i ≤ 80 ∧ t7 = .pointer (some ⟨q, 0, none⟩) ∧ t8 = .slice A8 k c8 ∧ t9 = .slice A9 k c9 ∧ t10 = .int .i64 (i : Int) ∧ os.length = k ∧ k ≤ 8 ∧ NC w W q l S os ∧ AccR ptc 1 W w.heap.size 28 A8 c8 os ∧ AccR slc 1 W w.heap.size 55 A9 c9 os) (fun t7 t8 t9 t10 W => 80 - (intOf t10).toNat)
        case atStart => exact ⟨0, q, [], S, [], none, 0, none, 0, 0, by omega, by omega, rfl, rfl, rfl, rfl, rfl, by omega, N0.out, AccR.nil _ _ _, AccR.nil _ _ _⟩
        case round =>
          clear N0
          obtain ⟨i, q, l, S, os, A8, c8, A9, c9, k, hin, hi80, rfl, rfl, rfl, rfl, hk, hk8, hnc, ha8, ha9⟩ := hrel
          have Nr := Lib.hid hnc
          have X8 := Lib.hid ha8
          have X9 := Lib.hid ha9
          have HK := Lib.hid (And.intro hk hk8)
          clear hnc ha8 ha9 hk hk8
          by_cases hlt : i < n ∧ i < 80
          · obtain ⟨hl1, hl2⟩ := hlt
            have i1 : (i : Int) < (n : Int) := by omega
            have i2 : (i : Int) < 80 := by omega
            have i3 : IntKind.i64.wrap ((i : Int) + 1) = ((i + 1 : Nat) : Int) := by rw [IntWalk.i64_in _ (by omega)]; omega
            obtain ⟨b, o, x, rfl, hx, hb, hc⟩ := row_cells a14_length HR.out hl1
            have hxo := HOK.out x (List.mem_of_getElem? hx)
            have HX := Lib.hid (fun (W : World) (hW : Below w.heap.size w W) => (show W.rangeAt b (o + i * 12) (a14 x) from fun j v hv => hc W hW j v hv))
            have HXO := Lib.hid hxo
            have HI := Lib.hid (And.intro hl1 hl2)
            have y1 : wr.cell? ⟨b, o + i * 12 + 1, none⟩ = some (.bool x.fk) := hc wr Nr.out.st.bel 1 _ rfl
            clear hx hb hc hxo hl1 hl2
            obtain ⟨fk, hfk⟩ : ∃ fk, x.fk = fk := ⟨_, rfl⟩
            rw [hfk] at y1
            clear hfk
            cases fk with
            | false =>
              have HXW := Lib.hid (HX.out wr Nr.out.st.bel)
              have HD := Lib.hid (does14_calls tk14 Nr.out.st.p x HXO.out)
              go_wp2_with (refine step_load_at (o := ⟨some 100, _, _, _, _, _⟩) rfl rfl rfl HXW.out Try.underlying35 rfl (HAI.out _) ?_)
              ((with_reducible refine HD.out.mono ?_))
              rintro e u5 ⟨S6, A6, c6, rfl, p, m, r⟩
              have N6 := Lib.hid (Nr.out.mv p m)
              have U8 := Lib.hid (X8.out.keepB fun g hg => m.turn.block g (X8.out.ge hg).2 (tab_apart Nr.out.st.p X8.out (by decide) (by decide) g hg))
              have U9 := Lib.hid (X9.out.keepB fun g hg => m.turn.block g (X9.out.ge hg).2 (tab_apart Nr.out.st.p X9.out (by decide) (by decide) g hg))
              clear p m r HD Nr X8 X9 HXW
              go_wp2_with fail
              go_roundw
              case rel => first | exact ⟨i + 1, q, _, S6, os, A8, c8, A9, c9, k, by have := HI.out; omega, by have := HI.out; omega, rfl, rfl, rfl, by first | rfl | (simp; omega), HK.out.1, HK.out.2, N6.out, U8.out, U9.out⟩ | ((repeat apply Exists.intro); exact ⟨⟨i + 1, q, _, S6, os, A8, c8, A9, c9, k, by have := HI.out; omega, by have := HI.out; omega, rfl, rfl, rfl, by first | rfl | (simp; omega), HK.out.1, HK.out.2, N6.out, U8.out, U9.out⟩, rfl⟩)
              case measure => have := HI.out; simp [intOf]; omega
            | true =>
              by_cases hk8 : k < 8
              · have g1 : (k : Int) < 8 := by omega
                have HK8 := Lib.hid hk8
                clear hk8
                have hl64 : l.length ≤ 64 := (tk14.tbl Nr.out.st.p).len
                have HL64 := Lib.hid hl64
                -- the table is set aside
                obtain ⟨A8b, c8b, u1, hrun, hacc, hgr⟩ := accr_push (P := Try.prog) (ty := 70) ptc_length ptc_one (by omega) X8.out (⟨q, l, S, none, 0, 0⟩ : OT) Try.underlying70 infoPtN rfl Nr.out.st.bel.size (by have := HK.out; omega) (by have := HK.out; omega)
                rw [HK.out.1] at hrun
                have HRUN := Lib.hid (show (Builtin.append_ #[70, 70] 70 #[.slice A8 k c8, .slice (some ⟨wr.heap.size, 0, none⟩) 1 1]).run Try.prog (wr.alloc (.cells #[.pointer (some ⟨q, 0, none⟩)] 28)) = .ok (.slice A8b (k + 1) c8b) u1 from hrun)
                have N1 := Lib.hid (Nr.out.keep X8.out (by decide) (by decide) hgr)
                have Y8 := Lib.hid hacc
                have Y9 := Lib.hid (X9.out.kept hgr (fun z hz e => accr_apart X8.out X9.out (by decide) z e hz))
                clear hrun hacc hgr Nr X8 X9 hl64
                go_wp2_with (at_builtin; refine step_append (o := ⟨some 86, _, _, _, _, _⟩) rfl rfl rfl rfl HRUN.out ?_)
                -- what it holds
                have hen := entries14_below q 20 l S u1 N1.out.st.p
                obtain ⟨nl, hnl⟩ : ∃ nl, l.length = nl := ⟨_, rfl⟩
                have HNL := Lib.hid hnl
                rw [hnl] at hen
                have HEN := Lib.hid hen
                clear hen hnl HRUN
                ((with_reducible refine HEN.out.mono ?_))
                rintro e u2 ⟨A3, c3, rfl, hacc, hb⟩
                have E2 := Lib.hid (hacc.lower N1.out.st.bel.size)
                have N2 := Lib.hid (N1.out.below hb)
                have Z8 := Lib.hid (Y8.out.bel hb)
                have Z9 := Lib.hid (Y9.out.bel hb)
                clear hacc hb HEN N1 Y8 Y9
                obtain ⟨A9b, c9b, u3, hrun, hacc, hgr⟩ := accr_push (P := Try.prog) (ty := 72) slc_length slc_one (by omega) Z9.out (⟨q, l, S, A3, l.length, c3⟩ : OT) Try.underlying72 infoSlN rfl N2.out.st.bel.size (by have := HK.out; omega) (by have := HK.out; omega)
                rw [HK.out.1] at hrun
                have HRUN := Lib.hid (show (Builtin.append_ #[72, 72] 72 #[.slice A9 k c9, .slice (some ⟨u2.heap.size, 0, none⟩) 1 1]).run Try.prog (u2.alloc (.cells #[.slice A3 nl c3] 55)) = .ok (.slice A9b (k + 1) c9b) u3 from by rw [← HNL.out]; exact hrun)
                have N3 := Lib.hid (N2.out.keep Z9.out (by decide) (by decide) hgr)
                have E3 := Lib.hid (E2.out.kept hgr (fun z hz e => accr_apart Z9.out E2.out (by decide) z e hz))
                have V8 := Lib.hid (Z8.out.kept hgr (fun z hz e => accr_apart Z9.out Z8.out (by decide) z e hz))
                have V9 := Lib.hid hacc
                clear hrun hacc hgr N2 E2 Z8 Z9
                go_wp2_with (at_builtin; refine step_append (o := ⟨some 91, _, _, _, _, _⟩) rfl rfl rfl rfl HRUN.out ?_)
                have HCP := Lib.hid (copy14_below q 20 l S u3 N3.out.st.p)
                clear HRUN
                ((with_reducible refine HCP.out.mono ?_))
                rintro e u4 ⟨q2, S2, rfl, hp, hS2, hb⟩
                have N4 := Lib.hid (N3.out.fork E3.out HL64.out hb hp hS2)
                have W8 := Lib.hid (V8.out.bel hb)
                have W9 := Lib.hid (V9.out.bel hb)
                clear hp hS2 hb HCP N3 E3 V8 V9
                have W8b := Lib.hid (ptc_other W8.out (t' := ⟨q, l, S, A3, l.length, c3⟩) rfl)
                have HOS := Lib.hid (show (os ++ [(⟨q, l, S, A3, l.length, c3⟩ : OT)]).length = k + 1 by rw [List.length_append, HK.out.1]; rfl)
                obtain ⟨k1, hk1⟩ : ∃ k1, k + 1 = k1 := ⟨_, rfl⟩
                have HK1 := Lib.hid hk1
                rw [hk1] at HOS ⊢
                clear W8 hk1
                have HXW := Lib.hid (HX.out u4 N4.out.st.bel)
                have HD := Lib.hid (does14_calls tk14 N4.out.st.p x HXO.out)
                go_wp2_with (refine step_load_at (o := ⟨some 100, _, _, _, _, _⟩) rfl rfl rfl HXW.out Try.underlying35 rfl (HAI.out _) ?_)
                ((with_reducible refine HD.out.mono ?_))
                rintro e u5 ⟨S6, A6, c6, rfl, p, m, r⟩
                have N6 := Lib.hid (N4.out.mv p m)
                have U8 := Lib.hid (W8b.out.keepB fun g hg => m.turn.block g (W8b.out.ge hg).2 (tab_apart N4.out.st.p W8b.out (by decide) (by decide) g hg))
                have U9 := Lib.hid (W9.out.keepB fun g hg => m.turn.block g (W9.out.ge hg).2 (tab_apart N4.out.st.p W9.out (by decide) (by decide) g hg))
                clear p m r HD N4 W8b W9 HXW
                go_wp2_with fail
                go_roundw
                case rel => first | exact ⟨i + 1, q2, _, S6, os ++ [⟨q, l, S, A3, l.length, c3⟩], A8b, c8b, A9b, c9b, k1, by have := HI.out; omega, by have := HI.out; omega, rfl, rfl, rfl, by first | rfl | (simp; omega), HOS.out, (by have := HK8.out; have := HK1.out; omega), N6.out, U8.out, U9.out⟩ | ((repeat apply Exists.intro); exact ⟨⟨i + 1, q2, _, S6, os ++ [⟨q, l, S, A3, l.length, c3⟩], A8b, c8b, A9b, c9b, k1, by have := HI.out; omega, by have := HI.out; omega, rfl, rfl, rfl, by first | rfl | (simp; omega), HOS.out, (by have := HK8.out; have := HK1.out; omega), N6.out, U8.out, U9.out⟩, rfl⟩)
                case measure => have := HI.out; simp [intOf]; omega
              · have g1 : ¬ (k : Int) < 8 := by omega
                clear hk8
                have HXW := Lib.hid (HX.out wr Nr.out.st.bel)
                have HD := Lib.hid (does14_calls tk14 Nr.out.st.p x HXO.out)
                go_wp2_with (refine step_load_at (o := ⟨some 100, _, _, _, _, _⟩) rfl rfl rfl HXW.out Try.underlying35 rfl (HAI.out _) ?_)
                ((with_reducible refine HD.out.mono ?_))
                rintro e u5 ⟨S6, A6, c6, rfl, p, m, r⟩
                have N6 := Lib.hid (Nr.out.mv p m)
                have U8 := Lib.hid (X8.out.keepB fun g hg => m.turn.block g (X8.out.ge hg).2 (tab_apart Nr.out.st.p X8.out (by decide) (by decide) g hg))
                have U9 := Lib.hid (X9.out.keepB fun g hg => m.turn.block g (X9.out.ge hg).2 (tab_apart Nr.out.st.p X9.out (by decide) (by decide) g hg))
                clear p m r HD Nr X8 X9 HXW
                go_wp2_with fail
                go_roundw
                case rel => first | exact ⟨i + 1, q, _, S6, os, A8, c8, A9, c9, k, by have := HI.out; omega, by have := HI.out; omega, rfl, rfl, rfl, by first | rfl | (simp; omega), HK.out.1, HK.out.2, N6.out, U8.out, U9.out⟩ | ((repeat apply Exists.intro); exact ⟨⟨i + 1, q, _, S6, os, A8, c8, A9, c9, k, by have := HI.out; omega, by have := HI.out; omega, rfl, rfl, rfl, by first | rfl | (simp; omega), HK.out.1, HK.out.2, N6.out, U8.out, U9.out⟩, rfl⟩)
                case measure => have := HI.out; simp [intOf]; omega
          · by_cases h1 : i < n
            · have i2 : (i : Int) < (n : Int) := by omega
              have i3 : ¬ (i : Int) < 80 := by omega
              clear hlt
              go_wp2_with fail
              go_meet
              exact ⟨q, l, S, os, A8, c8, A9, c9, k, rfl, rfl, rfl, HK.out.1, HK.out.2, Nr.out, X8.out, X9.out⟩
            · have i2 : ¬ (i : Int) < (n : Int) := by omega
              clear hlt
              go_wp2_with fail
              go_meet
              exact ⟨q, l, S, os, A8, c8, A9, c9, k, rfl, rfl, rfl, HK.out.1, HK.out.2, Nr.out, X8.out, X9.out⟩
      case rest =>
        obtain ⟨q2, l2, S2, os, A8, c8, A9, c9, k, rfl, rfl, rfl, hk, hk8, hnc, ha8, ha9⟩ := hcut
        have N5 := Lib.hid hnc
        have X8 := Lib.hid ha8
        have X9 := Lib.hid ha9
        have HK := Lib.hid (And.intro hk hk8)
        clear hnc ha8 ha9 hk hk8 N0
        go_wp2_with fail
        go_loopw [104] (fun t W => ∃ j : Nat, j ≤ k ∧ t = .int .i64 (j : Int) ∧ Below wc.heap.size wc W) (fun t W => k - (intOf t).toNat)
        case atStart => exact ⟨0, by omega, rfl, Below.refl _ _⟩
        case round =>
          obtain ⟨j, hj, rfl, hbl⟩ := hrel
          have HB := Lib.hid hbl
          clear hbl
          by_cases hlt : j < k
          · have hjl : j < os.length := by have := HK.out; omega
            obtain ⟨b8, o8, e8, hb8, hc8⟩ := X8.out.row.cells ptc_length (by omega)
            obtain ⟨b9, o9, e9, hb9, hc9⟩ := X9.out.row.cells slc_length (by omega)
            have h8 := hc8 j hjl 0 (by omega)
            have h9 := hc9 j hjl 0 (by omega)
            rw [Nat.mul_one, Nat.add_zero] at h8 h9
            have hold := N5.out.old os[j] (List.getElem_mem hjl)
            obtain ⟨t, ht⟩ : ∃ t, os[j] = t := ⟨_, rfl⟩
            rw [ht] at h8 h9 hold
            have H8 : Hid (∀ W, Below wr.heap.size wr W → W.cell? ⟨b8, o8 + j, none⟩ = some (.pointer (some ⟨t.q, 0, none⟩))) := fun W hW => by
              have hb := HB.out.trans (hW.mono HB.out.size)
              rw [hb.cell (p := ⟨b8, o8 + j, none⟩) hb8]; exact h8
            have H9 : Hid (∀ W, Below wr.heap.size wr W → W.cell? ⟨b9, o9 + j, none⟩ = some (.slice t.a t.n t.c)) := fun W hW => by
              have hb := HB.out.trans (hW.mono HB.out.size)
              rw [hb.cell (p := ⟨b9, o9 + j, none⟩) hb9]; exact h9
            obtain ⟨f1, f2, f3, f4, f5, f6⟩ := hold
            have HT : Hid (∀ W, Below wr.heap.size wr W → TabC W t.q 20 t.l t.s) := fun W hW => by
              have hb := HB.out.trans (hW.mono HB.out.size)
              exact tk14.keep f1 fun b hbs => hb.block b (tk14.lt f1 b hbs)
            have HWR : Hid (∀ W, Below wr.heap.size wr W → Row ent W W.heap.size t.a t.n t.l) := fun W hW => by
              have hb := HB.out.trans (hW.mono HB.out.size)
              have := (f3.bel hb).row
              rwa [f5] at this
            have HN := Lib.hid (And.intro f5 f6)
            have i1 : (j : Int) < (k : Int) := by omega
            have i2 : IntKind.i64.wrap ((j : Int) + 1) = ((j + 1 : Nat) : Int) := by have := HK.out; rw [IntWalk.i64_in _ (by omega)]; omega
            have HJ := Lib.hid hlt
            subst e8 e9
            clear hb8 hc8 hb9 hc9 h8 h9 f1 f2 f3 f4 f5 f6 ht hjl hj hlt
            go_wp2_with fail
            refine region_seq (fun W => Below wr.heap.size wr W) [(0, true), (1, true), (2, true), (3, true), (6, true), (7, true), (8, true), (9, true), (4, false), (5, false), (10, false), (11, false), (12, true)]
              (by kernel_rfl) (by kernel_rfl) (by kernel_rfl) (by kernel_rfl) (fun _ _ _ _ _ h => h) (Below.refl _ _).drew ?_
            repeat
              refine seq_pure (v := ?_) rfl (by rfl) (fun W hW => ?_) ?_
              rotate_left
              · have hc8 := H8.out W hW
                have hc9 := H9.out W hW
                clear hW
                go_simp
                try with_reducible rfl
              simp only [Act.put, List.setIfInBounds_toArray, List.set_cons_zero, List.set_cons_succ]
            refine seq_make rfl (by rfl) (fun K hK => ?_)
            go_simp
            have hen := entries14_below t.q 20 t.l t.s wr.drew (HT.out _ (Below.refl _ _).drew)
            rw [HN.out.1] at hen
            ((with_reducible refine hen.mono ?_))
            rintro e u1 ⟨A3, c3, rfl, hacc, hb⟩
            have SB1 := Lib.hid (show Below wr.heap.size wr u1 from below_of_drew hb)
            have R1 := Lib.hid (show Row ent u1 u1.heap.size A3 t.n t.l by have := hacc.row; rw [HN.out.1] at this; exact this)
            clear hacc hb hen
            go_simp
            refine hK _ _ (fun W => Below wr.heap.size wr W) (fun W h => h) SB1.out ?_
            clear hK K
            refine seq_make rfl (by rfl) (fun K hK => ?_)
            go_simp
            have ho := ours14_calls A3 t.n c3 t.l u1 R1.out (by have := HN.out; omega)
            unfold OurP14 at ho
            rw [HN.out.1] at ho
            ((with_reducible refine ho.mono ?_))
            rintro e u2 ⟨A4, c4, rfl, hacc, hb⟩
            have SB2 := Lib.hid (SB1.out.trans (hb.mono SB1.out.size))
            have R2 := Lib.hid (show Row ent u2 u2.heap.size A4 t.n t.l by have := hacc.row; rw [HN.out.1] at this; exact this)
            clear hacc hb ho R1
            go_simp
            refine hK _ _ (fun W => Below wr.heap.size wr W) (fun W h => h) SB2.out ?_
            clear hK K
            refine seq_make rfl (by rfl) (fun K hK => ?_)
            go_simp
            have ho := ours14_calls t.a t.n t.c t.l u2 (HWR.out u2 SB2.out) (by have := HN.out; omega)
            unfold OurP14 at ho
            rw [HN.out.1] at ho
            ((with_reducible refine ho.mono ?_))
            rintro e u3 ⟨A5, c5, rfl, hacc, hb⟩
            have SB3 := Lib.hid (SB2.out.trans (hb.mono SB2.out.size))
            have R3 := Lib.hid ((R2.out.below hb).more hb.size)
            have R4 := Lib.hid (show Row ent u3 u3.heap.size A5 t.n t.l by have := hacc.row; rw [HN.out.1] at this; exact this)
            clear hacc hb ho R2
            go_simp
            refine hK _ _ (fun W => Below wr.heap.size wr W) (fun W h => h) SB3.out ?_
            clear hK K
            refine seq_make rfl (by rfl) (fun K hK => ?_)
            go_simp
            have hsm := same14_calls A4 A5 t.n c4 c5 t.l u3 R3.out R4.out (by have := HN.out; omega)
            unfold Yes14 at hsm
            ((with_reducible refine hsm.mono ?_))
            rintro e u4 ⟨rfl, hb⟩
            have SB4 := Lib.hid (SB3.out.trans (hb.mono SB3.out.size))
            clear hb hsm R3 R4
            go_simp
            refine hK _ _ (fun W => Below wr.heap.size wr W) (fun W h => h) SB4.out ?_
            clear hK K
            repeat
              refine seq_pure (v := ?_) rfl (by rfl) (fun W hW => ?_) ?_
              rotate_left
              · clear hW
                go_simp
                try with_reducible rfl
              simp only [Act.put, List.setIfInBounds_toArray, List.set_cons_zero, List.set_cons_succ]
            refine seq_done ?_
            go_wp2_with fail
            go_roundw
            case rel => exact ⟨j + 1, by have := HJ.out; omega, by first | rfl | (simp; omega), HB.out.trans (SB4.out.mono HB.out.size)⟩
            case measure => have := HJ.out; simp [intOf]; omega
          · have i1 : ¬ (j : Int) < (k : Int) := by omega
            have HX2 := Lib.hid (N5.out.st.bel.trans (HB.out.mono N5.out.st.bel.size))
            clear hj hlt
            go_wp2_with fail
            go_ret
            exact ⟨rfl, HX2.out⟩
end Go.Proofs.Ytnkoiageoenfeaa
