/-
  The law PruneFits, walked: for any adverts and any question the answer is true, and nothing that was there has turned. Condition: the arguments' numbers are as large as their types allow.
-/
import Derived.Test.YtmffmoflelnmoaaPruU
import Derived.Test.YtmffmoflelnmoaaPruOpen
namespace Go.Proofs.Ytmffmoflelnmoaa
set_option maxRecDepth 100000
set_option linter.unusedVariables false
open Go.RowKit

set_option maxHeartbeats 12800000 in
theorem pfits16_walk (b : Option Addr) (n c : Nat) (a : Ak) (p : Pl) (w : World) (hn : n ≤ maxLen) (ho : ∃ l, Row adc w w.heap.size b n l ∧ ∀ x ∈ l, AdOk x ∧ I15 x.q) (hk : AkOk a ∧ AkRow w a p ∧ p.n1 ≤ maxLen ∧ p.n2 ≤ maxLen ∧ p.n3 ≤ maxLen) :
    Calls Try.prog 3 #[.slice b n c, .agg (akc a.w p).toArray] w fun e w' => e = .returned (.bool true) ∧ Below w.heap.size w w' := by
  obtain ⟨l, hr, hx⟩ := ho
  have HX := Lib.hid (fun x h => (hx x h).1)
  have HAK := Lib.hid hk.1
  have hl := bel_new (Below.refl w.heap.size w) (.cells (akc a.w p).toArray 31)
  have HQ := Lib.hid (Blk.new w 31 (akc a.w p))
  have HL := Lib.hid hl
  have HR := Lib.hid ((hr.below hl).more hl.size)
  have HAR := Lib.hid (hk.2.1.below hl)
  have HIA := Lib.hid (show (Try.prog.info? 31).map (·.size) = some (akc a.w p).length from infoAkR)
  have HIN := Lib.hid (fun x => (show (Try.prog.info? 38).map (·.size) = some (adc x).length from infoAdR16))
  unfold maxLen at hn
  clear hx hl hr hk
  go_enter Try.func3, Try.ntmps3
  go_upto_region 1 with fail
  generalize (w.alloc (.cells (akc a.w p).toArray 31)) = w1 at *
  go_wp2_with fail
  ((with_reducible refine (alive16_calls w1).mono ?_))
  rintro e w2 ⟨rfl, hb⟩
  have L2 := Lib.hid (HL.out.trans (hb.mono HL.out.size))
  have Q2 := Lib.hid (HQ.out.below hb)
  have R2 := Lib.hid ((HR.out.below hb).more hb.size)
  have K2 := Lib.hid (HAR.out.below hb)
  clear hb HL HQ HR HAR
  have hsm := small16_calls b n c a.w p w2
  unfold Yes15 at hsm
  obtain ⟨sm, hs⟩ : ∃ sm, sml16 n p = sm := ⟨_, rfl⟩
  rw [hs] at hsm
  have HS := Lib.hid hs
  have HSM := Lib.hid hsm
  clear hs hsm
  go_wp2_with (refine step_load (o := ⟨some 10, _, _, _, _, _⟩) rfl rfl rfl Q2.out Try.underlying31 rfl HIA.out ?_)
  ((with_reducible refine HSM.out.mono ?_))
  rintro e w3 ⟨rfl, hb⟩
  have L3 := Lib.hid (L2.out.trans (hb.mono L2.out.size))
  have Q3 := Lib.hid (Q2.out.below hb)
  have R3 := Lib.hid ((R2.out.below hb).more hb.size)
  have K3 := Lib.hid (K2.out.below hb)
  clear hb L2 Q2 R2 K2 HSM
  cases sm with
  | false =>
    go_wp2_with fail
    go_ret
    exact ⟨rfl, L3.out⟩
  | true =>
  have I3 := Lib.hid (K3.out.akin HS.out)
  have hn1 : n ≤ 100 := by have := HS.out; unfold sml16 at this; simp only [Bool.and_eq_true, decide_eq_true_eq] at this; exact this.1
  clear hn K3 HS
  clear w2 w1
  go_wp2_with fail
  go_loopw [15] (fun s W => ∃ i : Nat, i ≤ n ∧ s = .int .i64 (i : Int) ∧ Below w3.heap.size w3 W) (fun s W => n - (intOf s).toNat)
  case atStart => exact ⟨0, Nat.zero_le _, rfl, Below.refl _ _⟩
  case round =>
    obtain ⟨i, hi, rfl, hbl⟩ := hrel
    have HBL := Lib.hid hbl
    clear hbl
    by_cases hin : i < n
    · have i1 : (i : Int) < (n : Int) := by omega
      obtain ⟨bb, o, x, rfl, hx, hbb, hc⟩ := range15 R3.out hin
      have HXO := Lib.hid (HX.out x (List.mem_of_getElem? hx))
      have HII := Lib.hid hin
      have HC := Lib.hid (hc wr HBL.out)
      have HIX := Lib.hid (HIN.out x)
      clear hx hbb hc hin hi
      have hbz := bel_new (Below.refl wr.heap.size wr) (.cells #[.int .i64 0, .int .i64 0, .int .u64 0, .int .i64 0, .int .u32 0, .int .i64 0, .bool false, .int .u64 0, .int .u64 0, .int .u64 0, .int .u64 0, .int .u64 0, .int .u64 0, .int .u64 0, .int .u64 0] 38)
      have BZ := Lib.hid (show Blk (wr.alloc (.cells #[.int .i64 0, .int .i64 0, .int .u64 0, .int .i64 0, .int .u32 0, .int .i64 0, .bool false, .int .u64 0, .int .u64 0, .int .u64 0, .int .u64 0, .int .u64 0, .int .u64 0, .int .u64 0, .int .u64 0] 38)) wr.heap.size 38 zr16 from Blk.new wr _ zr16)
      have HBZ := Lib.hid hbz
      clear hbz
      go_upto_region 8 with (first | (refine step_load_at (o := ⟨some 18, _, _, _, _, _⟩) rfl rfl rfl HC.out Try.underlying38 rfl HIX.out ?_) | ((with_reducible refine step_store (o := ⟨none, _, _, _, _, _⟩) (vs := adc x) (ty := 38) (x := .tmp 6) (y := .tmp 18) ?_ ?_ ?_ ?_ BZ.out HIX.out rfl (adc_one _) ?_); (rfl); (rfl); (rfl); (rfl); intro v1 hb5 hg5 hs5))
      have KX := Lib.hid hb5
      have hb : Below wr.heap.size wr v1 := bel_upd HBZ.out hg5 (Nat.le_refl _) (Nat.le_refl _)
      clear hb5 hg5 hs5 BZ HBZ
      have L4 := Lib.hid (show Below w3.heap.size w3 v1 from HBL.out.trans (hb.mono HBL.out.size))
      have Q4 := Lib.hid (Q3.out.below L4.out)
      have I4 := Lib.hid (I3.out.below L4.out)
      clear hb HBL HC
      generalize wr.heap.size = qx at *
      have KXB := Lib.hid (fun W (hW : Below v1.heap.size v1 W) => KX.out.below hW)
      have QB := Lib.hid (fun W (hW : Below v1.heap.size v1 W) => Q4.out.below hW)
      obtain ⟨d, hd⟩ : ∃ d, fit16 a x = d := ⟨_, rfl⟩
      have HD := Lib.hid hd
      have HT1 := Lib.hid (theirs15_calls x)
      unfold Back15 at HT1
      have HT2 := Lib.hid (fun W (hW : Below v1.heap.size v1 W) => theirs16_calls a p W (I4.out.below hW))
      unfold Th16 at HT2
      have hf1 := fun W (q : Pl) (hq : AkIn W W.heap.size a q) => fits16c_calls a HAK.out q x HXO.out W hq
      have hf2 := fun W (hW : Below v1.heap.size v1 W) => rfits16_calls a HAK.out p x HXO.out W (I4.out.below hW)
      rw [hd] at hf1 hf2
      unfold Yes15 at hf1 hf2
      have HF1 := Lib.hid hf1
      have HF2 := Lib.hid hf2
      clear hf1 hf2 hd HD
      go_wp2_with fail
      refine region_seq (fun W => Below v1.heap.size v1 W) [(0, true), (2, true), (5, true), (6, true), (1, false), (3, false), (4, false), (7, false), (8, true)] (by kernel_rfl) (by kernel_rfl) (by kernel_rfl) (by kernel_rfl) (fun _ _ _ _ _ h => h) (Below.refl _ _).drew ?_
      repeat first
        | refine seq_load8 (x := .tmp 6) rfl (by rfl) rfl rfl KXB.out Try.underlying38 rfl HIX.out ?_
          simp only [Act.put, List.setIfInBounds_toArray, List.set_cons_zero, List.set_cons_succ]
        | refine seq_load8 (x := .tmp 3) rfl (by rfl) rfl rfl QB.out Try.underlying31 rfl HIA.out ?_
          simp only [Act.put, List.setIfInBounds_toArray, List.set_cons_zero, List.set_cons_succ]
        | refine seq_pure (v := ?_) rfl (by rfl) (fun W hW => ?_) ?_
          rotate_left
          · clear hW
            go_simp
            with_reducible rfl
          simp only [Act.put, List.setIfInBounds_toArray, List.set_cons_zero, List.set_cons_succ]
      refine seq_make rfl (by rfl) (fun K hK => ?_)
      go_simp
      ((with_reducible refine (HT1.out v1.drew).mono ?_))
      rintro e y1 ⟨rfl, hb⟩
      have SB := Lib.hid (show Below v1.heap.size v1 y1 from below_of_drew hb)

      clear hb
      go_simp
      refine hK _ y1 (fun W => Below v1.heap.size v1 W) (fun W h => h) SB.out ?_
      clear hK K
      refine seq_make rfl (by rfl) (fun K hK => ?_)
      go_simp
      ((with_reducible refine (HT2.out y1 SB.out).mono ?_))
      rintro e y2 ⟨A9, c9, rfl, hac, hb⟩
      have SB0 := SB
      have SB := Lib.hid (show Below v1.heap.size v1 y2 from SB.out.trans (hb.mono SB.out.size))
      have I9 := Lib.hid (Th16.akin (I4.out.below SB0.out) hac hb)
      have I5 := Lib.hid (HF1.out y2 _ I9.out)
      clear hac I9
      clear hb
      go_simp
      refine hK _ y2 (fun W => Below v1.heap.size v1 W) (fun W h => h) SB.out ?_
      clear hK K
      refine seq_make rfl (by rfl) (fun K hK => ?_)
      go_simp
      ((with_reducible refine (I5.out).mono ?_))
      rintro e y3 ⟨rfl, hb⟩
      have SB := Lib.hid (show Below v1.heap.size v1 y3 from SB.out.trans (hb.mono SB.out.size))

      clear hb
      go_simp
      refine hK _ y3 (fun W => Below v1.heap.size v1 W) (fun W h => h) SB.out ?_
      clear hK K
      refine seq_make rfl (by rfl) (fun K hK => ?_)
      go_simp
      ((with_reducible refine (HF2.out y3 SB.out).mono ?_))
      rintro e y4 ⟨rfl, hb⟩
      have SB := Lib.hid (show Below v1.heap.size v1 y4 from SB.out.trans (hb.mono SB.out.size))

      clear hb
      go_simp
      refine hK _ y4 (fun W => Below v1.heap.size v1 W) (fun W h => h) SB.out ?_
      clear hK K
      refine seq_pure (v := .bool false) rfl (by rfl) (fun W hW => ?_) ?_
      · clear hW
        cases d with
        | true => go_simp
        | false => go_simp
      simp only [Act.put, List.setIfInBounds_toArray, List.set_cons_zero, List.set_cons_succ]
      refine seq_done ?_
      have L5 := Lib.hid (L4.out.trans (SB.out.mono L4.out.size))
      clear SB I5 SB0 L4 Q4 I4 KXB QB HF1 HF2 HT1 HT2 KX
      go_wp2_with fail
      go_roundw
      case rel => exact ⟨i + 1, HII.out, by first | rfl | (simp; omega), L5.out⟩
      case measure => have := HII.out; simp [intOf]; omega
    · obtain rfl : i = n := by omega
      have i1 : ¬ (i : Int) < (i : Int) := by omega
      have Q4 := Lib.hid (Q3.out.below HBL.out)
      have I4 := Lib.hid (I3.out.below HBL.out)
      have R4 := Lib.hid ((R3.out.below HBL.out).more HBL.out.size)
      have L4 := Lib.hid (L3.out.trans (HBL.out.mono L3.out.size))
      have HLE := Lib.hid R3.out.1
      have QB := Lib.hid (fun W (hW : Below wr.heap.size wr W) => Q4.out.below hW)
      have HT2 := Lib.hid (fun W (hW : Below wr.heap.size wr W) => theirs16_calls a p W (I4.out.below hW))
      unfold Th16 at HT2
      have HAD := Lib.hid (fun W (hW : Below wr.heap.size wr W) => adverts16_calls b i c l W ((R4.out.below hW).more hW.size) (by omega))
      unfold OurT15 at HAD
      rw [HLE.out] at HAD
      obtain ⟨M, hM⟩ : ∃ M, lks16 l a = M := ⟨_, rfl⟩
      have hf1 := fun W (q : Pl) A (c0 : Nat) (hq : AkIn W W.heap.size a q) (hr : Row adc W W.heap.size A i l) => links16c_calls a HAK.out q A i c0 l HX.out W hq hr (by omega)
      have hf2 := fun W (hW : Below wr.heap.size wr W) => rlinks16_calls a HAK.out p b i c l HX.out W (I4.out.below hW) ((R4.out.below hW).more hW.size) (by omega)
      have hml : M.length ≤ 1073741824 := by
        rw [← hM]
        have := lks16_length l a
        have := HLE.out
        omega
      rw [hM] at hf1 hf2
      unfold Lks16 at hf1 hf2
      obtain ⟨N, hN⟩ : ∃ N, M.length = N := ⟨_, rfl⟩
      have hsm := fun W A B (c0 d0 : Nat) (h1 : Row lkc W W.heap.size A N M) (h2 : Row lkc W W.heap.size B N M) => same16_calls A B N c0 d0 M W h1 h2 (by omega)
      unfold Yes15 at hsm
      rw [hN] at hf1 hf2
      have HF1 := Lib.hid hf1
      have HF2 := Lib.hid hf2
      have HSM := Lib.hid hsm
      have HNM := Lib.hid hN
      clear hf1 hf2 hM hml hN hsm hin hi HBL Q3 I3 R3 L3
      go_wp2_with fail
      refine region_seq (fun W => Below wr.heap.size wr W) [(0, true), (2, true), (5, true), (6, true), (1, false), (3, false), (4, false), (7, false), (8, false), (9, true)] (by kernel_rfl) (by kernel_rfl) (by kernel_rfl) (by kernel_rfl) (fun _ _ _ _ _ h => h) (Below.refl _ _).drew ?_
      repeat first
        | refine seq_load8 (x := .tmp 3) rfl (by rfl) rfl rfl QB.out Try.underlying31 rfl HIA.out ?_
          simp only [Act.put, List.setIfInBounds_toArray, List.set_cons_zero, List.set_cons_succ]
        | refine seq_pure (v := ?_) rfl (by rfl) (fun W hW => ?_) ?_
          rotate_left
          · clear hW
            go_simp
            with_reducible rfl
          simp only [Act.put, List.setIfInBounds_toArray, List.set_cons_zero, List.set_cons_succ]
      refine seq_make rfl (by rfl) (fun K hK => ?_)
      go_simp
      ((with_reducible refine (HAD.out wr.drew (Below.refl _ _).drew).mono ?_))
      rintro e y1 ⟨A1, c1, rfl, hac, hb⟩
      have SB := Lib.hid (show Below wr.heap.size wr y1 from below_of_drew hb)
      have G1 := Lib.hid (show Row adc y1 y1.heap.size A1 i l from by have := AccR.row hac; rwa [HLE.out] at this)
      clear hac
      clear hb
      go_simp
      refine hK _ y1 (fun W => Below wr.heap.size wr W) (fun W h => h) SB.out ?_
      clear hK K
      refine seq_make rfl (by rfl) (fun K hK => ?_)
      go_simp
      ((with_reducible refine (HT2.out y1 SB.out).mono ?_))
      rintro e y2 ⟨A2, c2, rfl, hac, hb⟩
      have SB0 := SB
      have SB := Lib.hid (show Below wr.heap.size wr y2 from SB.out.trans (hb.mono SB.out.size))
      have I9 := Lib.hid (Th16.akin (I4.out.below SB0.out) hac hb)
      have I5 := Lib.hid (HF1.out y2 _ A1 c1 I9.out ((G1.out.below hb).more hb.size))
      clear hac I9 G1
      clear hb
      go_simp
      refine hK _ y2 (fun W => Below wr.heap.size wr W) (fun W h => h) SB.out ?_
      clear hK K
      refine seq_make rfl (by rfl) (fun K hK => ?_)
      go_simp
      ((with_reducible refine (I5.out).mono ?_))
      rintro e y3 ⟨A3, c3, rfl, hac, hb⟩
      have SB := Lib.hid (show Below wr.heap.size wr y3 from SB.out.trans (hb.mono SB.out.size))
      have G3 := Lib.hid (show Row lkc y3 y3.heap.size A3 N M from by have := AccR.row hac; rwa [HNM.out] at this)
      clear hac
      clear hb
      go_simp
      refine hK _ y3 (fun W => Below wr.heap.size wr W) (fun W h => h) SB.out ?_
      clear hK K
      refine seq_make rfl (by rfl) (fun K hK => ?_)
      go_simp
      ((with_reducible refine (HF2.out y3 SB.out).mono ?_))
      rintro e y4 ⟨A4, c4, rfl, hac, hb⟩
      have SB := Lib.hid (show Below wr.heap.size wr y4 from SB.out.trans (hb.mono SB.out.size))
      have G4 := Lib.hid (show Row lkc y4 y4.heap.size A4 N M from by have := AccR.row hac; rwa [HNM.out] at this)
      have G5 := Lib.hid ((G3.out.below hb).more hb.size)
      clear hac
      clear hb
      go_simp
      refine hK _ y4 (fun W => Below wr.heap.size wr W) (fun W h => h) SB.out ?_
      clear hK K
      refine seq_make rfl (by rfl) (fun K hK => ?_)
      go_simp
      ((with_reducible refine (HSM.out y4 A3 A4 c3 c4 G5.out G4.out).mono ?_))
      rintro e y5 ⟨rfl, hb⟩
      have SB := Lib.hid (show Below wr.heap.size wr y5 from SB.out.trans (hb.mono SB.out.size))

      clear hb
      go_simp
      refine hK _ y5 (fun W => Below wr.heap.size wr W) (fun W h => h) SB.out ?_
      clear hK K
      repeat first
        | refine seq_pure (v := ?_) rfl (by rfl) (fun W hW => ?_) ?_
          rotate_left
          · clear hW
            go_simp
            with_reducible rfl
          simp only [Act.put, List.setIfInBounds_toArray, List.set_cons_zero, List.set_cons_succ]
      refine seq_done ?_
      have L5 := Lib.hid (L4.out.trans (SB.out.mono L4.out.size))
      go_wp2_with fail
      go_ret
      exact ⟨rfl, L5.out⟩
end Go.Proofs.Ytmffmoflelnmoaa
