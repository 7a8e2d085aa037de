/-
  The document's answers of layer 18 (viaductref18): Late, Lapsed, Same, All where they are so; the laws' Ours, Theirs, List. Condition: what comes in reads as a list; at most 2^20 states.
-/
import Derived.Test.YtogijfebfffobaaSofH
import Derived.Test.YtogijfebfffobaaSofS
import Derived.Deep.CutBlock
namespace Go.Proofs.Ytogijfebfffobaa
set_option maxRecDepth 100000
set_option linter.unusedVariables false
open Go.RowKit

set_option maxHeartbeats 3200000 in
theorem rlate18_calls (A : Option Addr) (n c most : Nat) (ls : List Ss) (now : Int) (w : World) (h : Row ssc w w.heap.size A n ls) (hn : n ≤ 1048576) :
    Calls Try.prog 26 #[.agg #[.slice A n c, .int .i64 (most : Int)], .int .i64 now] w (Kys18 (late18 (ls.map (·.p)) now) w) := by
  have bz := bel_new (Below.refl w.heap.size w) (.cells #[.slice A n c, .int .i64 (most : Int)] 28)
  have HT0 := Lib.hid (show Blk (w.alloc (.cells #[.slice A n c, .int .i64 (most : Int)] 28)) w.heap.size 28 [.slice A n c, .int .i64 (most : Int)] from Blk.new w _ _)
  have HL := Lib.hid bz
  have HR := Lib.hid ((h.below bz).more bz.size)
  have HNN := Lib.hid hn
  obtain ⟨R, hR⟩ : ∃ R, late18 (ls.map (·.p)) now = R := ⟨_, rfl⟩
  rw [hR]
  unfold late18 at hR
  have HRR := Lib.hid hR
  have HIZ := Lib.hid (fun k : Ky => (show (Try.prog.info? 30).map (fun i => (i.zero, i.size, i.bytes)) = some (some (.agg #[.int .i64 0, .int .i64 0, .int .i64 0, .int .i64 0]), (kyc k).length, 32) from infoKy18))
  unfold Kys18
  clear bz h hR
  go_enter Try.func26, Try.ntmps26
  go_upto_region 1 with fail
  generalize (w.alloc (.cells #[.slice A n c, .int .i64 (most : Int)] 28)) = w1 at *
  go_wp2_with fail
  go_loopw [5, 6] (fun s u W => ∃ (i m : Nat) (ks : List Ky) (A2 : Option Addr) (c2 : Nat), i ≤ n ∧ s = .slice A2 m c2 ∧ u = .int .i64 (i : Int) ∧ Hid (ks.length = m ∧ m ≤ i) ∧ Hid (ks = (((ls.take i).map (·.p)).filter fun s => decide (s.un < now)).map (·.k)) ∧ Hid (AccR kyc 4 W w1.heap.size 30 A2 c2 ks) ∧ Hid (Below w1.heap.size w1 W)) (fun s u W => n - (intOf u).toNat)
  case atStart => exact ⟨0, 0, [], none, 0, Nat.zero_le _, rfl, rfl, Lib.hid ⟨rfl, Nat.le_refl _⟩, Lib.hid rfl, Lib.hid (AccR.nil _ _ _), Lib.hid (Below.refl _ _)⟩
  case round =>
    obtain ⟨i, m, ks, A2, c2, hi, rfl, rfl, HM, HP, HA, HB⟩ := hrel
    have t0 : wr.cell? ⟨w.heap.size, 0, none⟩ = some (.slice A n c) := (HT0.out.below HB.out).cell 0
    by_cases hin : i < n
    · have i1 : (i : Int) < (n : Int) := by omega
      obtain ⟨b, o, x, rfl, hx, hbb, hc⟩ := row_key18 HR.out hin
      have HC := Lib.hid (fun W (hW : Below wr.heap.size wr W) => hc W (HB.out.trans (hW.mono HB.out.size)))
      have HFS := Lib.hid (filter_snoc18 hx (fun s => decide (s.un < now)) ks HP.out)
      have HI := Lib.hid hin
      have i0 : ¬ (i : Int) < 0 := by omega
      have i3 : IntKind.i64.wrap ((i : Int) + 1) = ((i + 1 : Nat) : Int) := by rw [IntWalk.i64_in _ (by have := HNN.out; have := HI.out; omega)]; omega
      have z12 : wr.cell? ⟨b, o + i * 17 + 12, none⟩ = some (.int .i64 x.p.un) := HC.out wr (Below.refl _ _) 12 _ rfl
      have z0 : wr.cell? ⟨b, o + i * 17, none⟩ = some (.int .i64 x.p.k.tail) := HC.out wr (Below.refl _ _) 0 _ rfl
      have z1 : wr.cell? ⟨b, o + i * 17 + 1, none⟩ = some (.int .i64 x.p.k.tun) := HC.out wr (Below.refl _ _) 1 _ rfl
      have z2 : wr.cell? ⟨b, o + i * 17 + 2, none⟩ = some (.int .i64 x.p.k.head) := HC.out wr (Below.refl _ _) 2 _ rfl
      have z3 : wr.cell? ⟨b, o + i * 17 + 3, none⟩ = some (.int .i64 x.p.k.lsp) := HC.out wr (Below.refl _ _) 3 _ rfl
      clear hx hbb hc hin hi
      by_cases hd : x.p.un < now
      · have HFY := Lib.hid (HFS.out.trans (by simp [hd]) : _ = ks ++ [x.p.k])
        obtain ⟨A6, c6, w6, hrun, hacc6, hg6⟩ := accr_push (P := Try.prog) (ty := 62) kyc_length kyc_one (by omega) HA.out x.p.k Try.underlying62 infoKy18 rfl HB.out.size (by have := HM.out; have := HI.out; have := HNN.out; omega) (by have := HM.out; have := HI.out; have := HNN.out; omega)
        rw [HM.out.1] at hrun
        have HRUN := Lib.hid hrun
        have HA6 := Lib.hid hacc6
        have HB6 := Lib.hid (show Below w1.heap.size w1 w6 from belr_acc HB.out HA.out hg6)
        clear hrun hacc6 hg6
        go_wp2_with (first | (refine step_build18 (o := ⟨some 29, _, _, _, _, _⟩) (x := .tmp 28) (vs := kyc x.p.k) rfl rfl rfl Try.underlying62 (HIZ.out _) (by rw [kyc_length]; decide) (by rw [kyc_length]; decide) ?_) | (at_builtin; refine step_append (o := ⟨some 30, _, _, _, _, _⟩) rfl rfl rfl rfl HRUN.out ?_))
        go_roundw
        case rel => exact ⟨i + 1, m + 1, ks ++ [x.p.k], A6, c6, HI.out, rfl, by first | rfl | (simp; omega), Lib.hid ⟨by rw [List.length_append, HM.out.1]; rfl, by have := HM.out.2; omega⟩, Lib.hid HFY.out.symm, HA6, HB6⟩
        case measure => have := HI.out; simp [intOf]; omega
      · have HFN := Lib.hid (HFS.out.trans (by simp [hd]) : _ = ks)
        go_wp2_with fail
        go_roundw
        case rel => exact ⟨i + 1, m, ks, A2, c2, HI.out, rfl, by first | rfl | (simp; omega), Lib.hid ⟨HM.out.1, by have := HM.out.2; omega⟩, Lib.hid HFN.out.symm, HA, HB⟩
        case measure => have := HI.out; simp [intOf]; omega
    · have i1 : ¬ (i : Int) < (n : Int) := by omega
      obtain rfl : i = n := by omega
      have hks := HP.out
      rw [List.take_of_length_le (by rw [HR.out.1]; exact Nat.le_refl _), HRR.out] at hks
      have HKS := Lib.hid hks
      clear hin hi hks
      go_wp2_with fail
      go_ret
      rw [← HKS.out]
      exact ⟨A2, c2, by rw [HM.out.1]; rfl, HA.out.lower HL.out.size, HL.out.trans (HB.out.mono HL.out.size)⟩
set_option maxHeartbeats 3200000 in
theorem rlaps18_calls (A : Option Addr) (n c most : Nat) (ls : List Ss) (now : Int) (w : World) (h : Row ssc w w.heap.size A n ls) (hn : n ≤ 1048576) :
    Calls Try.prog 28 #[.agg #[.slice A n c, .int .i64 (most : Int)], .int .i64 now] w (Kys18 (laps18 (ls.map (·.p)) now) w) := by
  have bz := bel_new (Below.refl w.heap.size w) (.cells #[.slice A n c, .int .i64 (most : Int)] 28)
  have HT0 := Lib.hid (show Blk (w.alloc (.cells #[.slice A n c, .int .i64 (most : Int)] 28)) w.heap.size 28 [.slice A n c, .int .i64 (most : Int)] from Blk.new w _ _)
  have HL := Lib.hid bz
  have HR := Lib.hid ((h.below bz).more bz.size)
  have HNN := Lib.hid hn
  obtain ⟨R, hR⟩ : ∃ R, laps18 (ls.map (·.p)) now = R := ⟨_, rfl⟩
  rw [hR]
  unfold laps18 at hR
  have HRR := Lib.hid hR
  have HIZ := Lib.hid (fun k : Ky => (show (Try.prog.info? 30).map (fun i => (i.zero, i.size, i.bytes)) = some (some (.agg #[.int .i64 0, .int .i64 0, .int .i64 0, .int .i64 0]), (kyc k).length, 32) from infoKy18))
  unfold Kys18
  clear bz h hR
  go_enter Try.func28, Try.ntmps28
  go_upto_region 1 with fail
  generalize (w.alloc (.cells #[.slice A n c, .int .i64 (most : Int)] 28)) = w1 at *
  go_wp2_with fail
  go_loopw [5, 6] (fun s u W => ∃ (i m : Nat) (ks : List Ky) (A2 : Option Addr) (c2 : Nat), i ≤ n ∧ s = .slice A2 m c2 ∧ u = .int .i64 (i : Int) ∧ Hid (ks.length = m ∧ m ≤ i) ∧ Hid (ks = (((ls.take i).map (·.p)).filter fun s => (s.ob != 0 && decide (s.kp < now))).map (·.k)) ∧ Hid (AccR kyc 4 W w1.heap.size 30 A2 c2 ks) ∧ Hid (Below w1.heap.size w1 W)) (fun s u W => n - (intOf u).toNat)
  case atStart => exact ⟨0, 0, [], none, 0, Nat.zero_le _, rfl, rfl, Lib.hid ⟨rfl, Nat.le_refl _⟩, Lib.hid rfl, Lib.hid (AccR.nil _ _ _), Lib.hid (Below.refl _ _)⟩
  case round =>
    obtain ⟨i, m, ks, A2, c2, hi, rfl, rfl, HM, HP, HA, HB⟩ := hrel
    have t0 : wr.cell? ⟨w.heap.size, 0, none⟩ = some (.slice A n c) := (HT0.out.below HB.out).cell 0
    by_cases hin : i < n
    · have i1 : (i : Int) < (n : Int) := by omega
      obtain ⟨b, o, x, rfl, hx, hbb, hc⟩ := row_key18 HR.out hin
      have HC := Lib.hid (fun W (hW : Below wr.heap.size wr W) => hc W (HB.out.trans (hW.mono HB.out.size)))
      have HFS := Lib.hid (filter_snoc18 hx (fun s => (s.ob != 0 && decide (s.kp < now))) ks HP.out)
      have HI := Lib.hid hin
      have i0 : ¬ (i : Int) < 0 := by omega
      have i3 : IntKind.i64.wrap ((i : Int) + 1) = ((i + 1 : Nat) : Int) := by rw [IntWalk.i64_in _ (by have := HNN.out; have := HI.out; omega)]; omega
      have z14 : wr.cell? ⟨b, o + i * 17 + 14, none⟩ = some (.int .i64 x.p.ob) := HC.out wr (Below.refl _ _) 14 _ rfl
      have z15 : wr.cell? ⟨b, o + i * 17 + 15, none⟩ = some (.int .i64 x.p.kp) := HC.out wr (Below.refl _ _) 15 _ rfl
      have z0 : wr.cell? ⟨b, o + i * 17, none⟩ = some (.int .i64 x.p.k.tail) := HC.out wr (Below.refl _ _) 0 _ rfl
      have z1 : wr.cell? ⟨b, o + i * 17 + 1, none⟩ = some (.int .i64 x.p.k.tun) := HC.out wr (Below.refl _ _) 1 _ rfl
      have z2 : wr.cell? ⟨b, o + i * 17 + 2, none⟩ = some (.int .i64 x.p.k.head) := HC.out wr (Below.refl _ _) 2 _ rfl
      have z3 : wr.cell? ⟨b, o + i * 17 + 3, none⟩ = some (.int .i64 x.p.k.lsp) := HC.out wr (Below.refl _ _) 3 _ rfl
      clear hx hbb hc hin hi
      by_cases hob : x.p.ob = 0
      · have HFN := Lib.hid (HFS.out.trans (by simp [hob]) : _ = ks)
        have q0 : (x.p.ob != 0) = false := by simp [hob]
        clear hob
        go_wp2_with fail
        go_roundw
        case rel => exact ⟨i + 1, m, ks, A2, c2, HI.out, rfl, by first | rfl | (simp; omega), Lib.hid ⟨HM.out.1, by have := HM.out.2; omega⟩, Lib.hid HFN.out.symm, HA, HB⟩
        case measure => have := HI.out; simp [intOf]; omega
      · have q0 : (x.p.ob != 0) = true := by simp [hob]
        by_cases hd : x.p.kp < now
        · have HFY := Lib.hid (HFS.out.trans (by simp [hd, hob]) : _ = ks ++ [x.p.k])
          clear hob
          obtain ⟨A6, c6, w6, hrun, hacc6, hg6⟩ := accr_push (P := Try.prog) (ty := 62) kyc_length kyc_one (by omega) HA.out x.p.k Try.underlying62 infoKy18 rfl HB.out.size (by have := HM.out; have := HI.out; have := HNN.out; omega) (by have := HM.out; have := HI.out; have := HNN.out; omega)
          rw [HM.out.1] at hrun
          have HRUN := Lib.hid hrun
          have HA6 := Lib.hid hacc6
          have HB6 := Lib.hid (show Below w1.heap.size w1 w6 from belr_acc HB.out HA.out hg6)
          clear hrun hacc6 hg6
          go_wp2_with (first | (refine step_build18 (o := ⟨some 38, _, _, _, _, _⟩) (x := .tmp 37) (vs := kyc x.p.k) rfl rfl rfl Try.underlying62 (HIZ.out _) (by rw [kyc_length]; decide) (by rw [kyc_length]; decide) ?_) | (at_builtin; refine step_append (o := ⟨some 39, _, _, _, _, _⟩) rfl rfl rfl rfl HRUN.out ?_))
          go_roundw
          case rel => exact ⟨i + 1, m + 1, ks ++ [x.p.k], A6, c6, HI.out, rfl, by first | rfl | (simp; omega), Lib.hid ⟨by rw [List.length_append, HM.out.1]; rfl, by have := HM.out.2; omega⟩, Lib.hid HFY.out.symm, HA6, HB6⟩
          case measure => have := HI.out; simp [intOf]; omega
        · have HFN := Lib.hid (HFS.out.trans (by simp [hd]) : _ = ks)
          clear hob
          go_wp2_with fail
          go_roundw
          case rel => exact ⟨i + 1, m, ks, A2, c2, HI.out, rfl, by first | rfl | (simp; omega), Lib.hid ⟨HM.out.1, by have := HM.out.2; omega⟩, Lib.hid HFN.out.symm, HA, HB⟩
          case measure => have := HI.out; simp [intOf]; omega
    · have i1 : ¬ (i : Int) < (n : Int) := by omega
      obtain rfl : i = n := by omega
      have hks := HP.out
      rw [List.take_of_length_le (by rw [HR.out.1]; exact Nat.le_refl _), HRR.out] at hks
      have HKS := Lib.hid hks
      clear hin hi hks
      go_wp2_with fail
      go_ret
      rw [← HKS.out]
      exact ⟨A2, c2, by rw [HM.out.1]; rfl, HA.out.lower HL.out.size, HL.out.trans (HB.out.mono HL.out.size)⟩
end Go.Proofs.Ytogijfebfffobaa
