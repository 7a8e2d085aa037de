/-
  The law PruneParts, walked: for any adverts and any question the answer is true, and nothing that was there has turned. Condition: the arguments' numbers are as large as their types allow.
-/
import Derived.Test.YtmffmoflelnmoaaPruU
import Derived.Test.YtmffmoflelnmoaaPruOpen
namespace Go.Proofs.Ytmffmoflelnmoaa
set_option maxRecDepth 100000
set_option linter.unusedVariables false
open Go.RowKit

set_option maxHeartbeats 12800000 in
theorem pparts16_walk (b : Option Addr) (n c : Nat) (a : Ak) (p : Pl) (w : World) (hn : n ≤ maxLen) (ho : ∃ l, Row adc w w.heap.size b n l ∧ ∀ x ∈ l, AdOk x ∧ I15 x.q) (hk : AkOk a ∧ AkRow w a p ∧ p.n1 ≤ maxLen ∧ p.n2 ≤ maxLen ∧ p.n3 ≤ maxLen) :
    Calls Try.prog 5 #[.slice b n c, .agg (akc a.w p).toArray] w fun e w' => e = .returned (.bool true) ∧ Below w.heap.size w w' := by
  obtain ⟨l, hr, hx⟩ := ho
  have HX := Lib.hid (fun x h => (hx x h).1)
  have HAK := Lib.hid hk.1
  have hl := bel_new (Below.refl w.heap.size w) (.cells (akc a.w p).toArray 31)
  have HQ := Lib.hid (Blk.new w 31 (akc a.w p))
  have HL := Lib.hid hl
  have HR := Lib.hid ((hr.below hl).more hl.size)
  have HAR := Lib.hid (hk.2.1.below hl)
  have HIA := Lib.hid (show (Try.prog.info? 31).map (·.size) = some (akc a.w p).length from infoAkR)
  have HIN := Lib.hid (fun x => (show (Try.prog.info? 38).map (·.size) = some (adc x).length from infoAdR16))
  unfold maxLen at hn
  clear hx hl hr hk
  go_enter Try.func5, Try.ntmps5
  go_upto_region 1 with fail
  generalize (w.alloc (.cells (akc a.w p).toArray 31)) = w1 at *
  go_wp2_with fail
  ((with_reducible refine (alive16_calls w1).mono ?_))
  rintro e w2 ⟨rfl, hb⟩
  have L2 := Lib.hid (HL.out.trans (hb.mono HL.out.size))
  have Q2 := Lib.hid (HQ.out.below hb)
  have R2 := Lib.hid ((HR.out.below hb).more hb.size)
  have K2 := Lib.hid (HAR.out.below hb)
  clear hb HL HQ HR HAR
  have hsm := small16_calls b n c a.w p w2
  unfold Yes15 at hsm
  obtain ⟨sm, hs⟩ : ∃ sm, sml16 n p = sm := ⟨_, rfl⟩
  rw [hs] at hsm
  have HS := Lib.hid hs
  have HSM := Lib.hid hsm
  clear hs hsm
  go_wp2_with (refine step_load (o := ⟨some 12, _, _, _, _, _⟩) rfl rfl rfl Q2.out Try.underlying31 rfl HIA.out ?_)
  ((with_reducible refine HSM.out.mono ?_))
  rintro e w3 ⟨rfl, hb⟩
  have L3 := Lib.hid (L2.out.trans (hb.mono L2.out.size))
  have Q3 := Lib.hid (Q2.out.below hb)
  have R3 := Lib.hid ((R2.out.below hb).more hb.size)
  have K3 := Lib.hid (K2.out.below hb)
  clear hb L2 Q2 R2 K2 HSM
  cases sm with
  | false =>
    go_wp2_with fail
    go_ret
    exact ⟨rfl, L3.out⟩
  | true =>
  have I3 := Lib.hid (K3.out.akin HS.out)
  have hn1 : n ≤ 100 := by have := HS.out; unfold sml16 at this; simp only [Bool.and_eq_true, decide_eq_true_eq] at this; exact this.1
  clear hn K3 HS
  clear w2 w1
  have QB := Lib.hid (fun W (hW : Below w3.heap.size w3 W) => Q3.out.below hW)
  have HLE := Lib.hid R3.out.1
  have HT2 := Lib.hid (fun W (hW : Below w3.heap.size w3 W) => theirs16_calls a p W (I3.out.below hW))
  unfold Th16 at HT2
  have HAD := Lib.hid (fun W (hW : Below w3.heap.size w3 W) => adverts16_calls b n c l W ((R3.out.below hW).more hW.size) (by omega))
  unfold OurT15 at HAD
  rw [HLE.out] at HAD
  obtain ⟨M, hM⟩ : ∃ M, lks16 l a = M := ⟨_, rfl⟩
  have hf1 := fun W (q : Pl) A (c0 : Nat) (hq : AkIn W W.heap.size a q) (hr : Row adc W W.heap.size A n l) => links16c_calls a HAK.out q A n c0 l HX.out W hq hr (by omega)
  rw [hM] at hf1
  unfold Lks16 at hf1
  obtain ⟨N, hN⟩ : ∃ N, M.length = N := ⟨_, rfl⟩
  have hml : N ≤ n := by
    rw [← hN, ← hM]
    have := lks16_length l a
    have := HLE.out
    omega
  rw [hN] at hf1
  have HF1 := Lib.hid hf1
  have HNM := Lib.hid hN
  have HM := Lib.hid hM
  clear hf1 hM hN
  go_wp2_with fail
  refine region_seq (fun W => Below w3.heap.size w3 W) [(0, true), (2, true), (1, false), (3, false), (4, false), (5, true)] (by kernel_rfl) (by kernel_rfl) (by kernel_rfl) (by kernel_rfl) (fun _ _ _ _ _ h => h) (Below.refl _ _).drew ?_
  repeat first
    | refine seq_load8 (x := .tmp 3) rfl (by rfl) rfl rfl QB.out Try.underlying31 rfl HIA.out ?_
      simp only [Act.put, List.setIfInBounds_toArray, List.set_cons_zero, List.set_cons_succ]
    | refine seq_pure (v := ?_) rfl (by rfl) (fun W hW => ?_) ?_
      rotate_left
      · clear hW
        go_simp
        with_reducible rfl
      simp only [Act.put, List.setIfInBounds_toArray, List.set_cons_zero, List.set_cons_succ]
  refine seq_make rfl (by rfl) (fun K hK => ?_)
  go_simp
  ((with_reducible refine (HAD.out w3.drew (Below.refl _ _).drew).mono ?_))
  rintro e y1 ⟨A1, c1, rfl, hac, hb⟩
  have SB := Lib.hid (show Below w3.heap.size w3 y1 from below_of_drew hb)
  have G1 := Lib.hid (show Row adc y1 y1.heap.size A1 n l from by have := AccR.row hac; rwa [HLE.out] at this)
  clear hac
  clear hb
  go_simp
  refine hK _ y1 (fun W => Below w3.heap.size w3 W) (fun W h => h) SB.out ?_
  clear hK K
  refine seq_make rfl (by rfl) (fun K hK => ?_)
  go_simp
  ((with_reducible refine (HT2.out y1 SB.out).mono ?_))
  rintro e y2 ⟨A2, c2, rfl, hac, hb⟩
  have SB0 := SB
  have SB := Lib.hid (show Below w3.heap.size w3 y2 from SB.out.trans (hb.mono SB.out.size))
  have I9 := Lib.hid (Th16.akin (I3.out.below SB0.out) hac hb)
  have I5 := Lib.hid (HF1.out y2 _ A1 c1 I9.out ((G1.out.below hb).more hb.size))
  clear hac I9 G1
  clear hb
  go_simp
  refine hK _ y2 (fun W => Below w3.heap.size w3 W) (fun W h => h) SB.out ?_
  clear hK K
  refine seq_make rfl (by rfl) (fun K hK => ?_)
  go_simp
  ((with_reducible refine (I5.out).mono ?_))
  rintro e y3 ⟨A3, c3, rfl, hac, hb⟩
  have SB := Lib.hid (show Below w3.heap.size w3 y3 from SB.out.trans (hb.mono SB.out.size))
  have G3 := Lib.hid (show Row lkc y3 y3.heap.size A3 N M from by have := AccR.row hac; rwa [HNM.out] at this)
  clear hac
  clear hb
  go_simp
  refine hK _ y3 (fun W => Below w3.heap.size w3 W) (fun W h => h) SB.out ?_
  clear hK K
  repeat first
    | refine seq_pure (v := ?_) rfl (by rfl) (fun W hW => ?_) ?_
      rotate_left
      · clear hW
        go_simp
        with_reducible rfl
      simp only [Act.put, List.setIfInBounds_toArray, List.set_cons_zero, List.set_cons_succ]
  refine seq_done ?_
  have Q4 := Lib.hid (Q3.out.below SB.out)
  have I4 := Lib.hid (I3.out.below SB.out)
  have R4 := Lib.hid ((R3.out.below SB.out).more SB.out.size)
  have L4 := Lib.hid (L3.out.trans (SB.out.mono L3.out.size))
  clear I5 SB0 SB Q3 I3 R3 L3 QB HT2 HAD HF1

  go_wp2_with fail
  go_loopw [6, 22] (fun s u W => ∃ k : Nat, k ≤ n ∧ s = .int .i64 (((lks16 (l.take k) a).length : Nat) : Int) ∧ u = .int .i64 (k : Int) ∧ Below y3.heap.size y3 W) (fun s u W => n - (intOf u).toNat)
  case atStart => exact ⟨0, Nat.zero_le _, rfl, rfl, Below.refl _ _⟩
  case round =>
    obtain ⟨i, hi, rfl, rfl, hbl⟩ := hrel
    have HBL := Lib.hid hbl
    obtain ⟨J, hJ⟩ : ∃ J, (lks16 (l.take i) a).length = J := ⟨_, rfl⟩
    rw [hJ]
    have HJ := Lib.hid hJ
    clear hbl hJ
    by_cases hin : i < n
    · have i1 : (i : Int) < (n : Int) := by omega
      obtain ⟨bb, o, x, rfl, hx, hbb, hc⟩ := range15 R4.out hin
      have HXO := Lib.hid (HX.out x (List.mem_of_getElem? hx))
      have HAT := Lib.hid (lks16_at hx a)
      have HSN := Lib.hid (lks16_snoc hx a)
      have HII := Lib.hid hin
      have HC := Lib.hid (hc wr HBL.out)
      have HIX := Lib.hid (HIN.out x)
      clear hx hbb hc hin hi
      have hbz := bel_new (Below.refl wr.heap.size wr) (.cells #[.int .i64 0, .int .i64 0, .int .u64 0, .int .i64 0, .int .u32 0, .int .i64 0, .bool false, .int .u64 0, .int .u64 0, .int .u64 0, .int .u64 0, .int .u64 0, .int .u64 0, .int .u64 0, .int .u64 0] 38)
      have BZ := Lib.hid (show Blk (wr.alloc (.cells #[.int .i64 0, .int .i64 0, .int .u64 0, .int .i64 0, .int .u32 0, .int .i64 0, .bool false, .int .u64 0, .int .u64 0, .int .u64 0, .int .u64 0, .int .u64 0, .int .u64 0, .int .u64 0, .int .u64 0] 38)) wr.heap.size 38 zr16 from Blk.new wr _ zr16)
      have HBZ := Lib.hid hbz
      clear hbz
      go_upto_region 10 with (first | (refine step_load_at (o := ⟨some 25, _, _, _, _, _⟩) rfl rfl rfl HC.out Try.underlying38 rfl HIX.out ?_) | ((with_reducible refine step_store (o := ⟨none, _, _, _, _, _⟩) (vs := adc x) (ty := 38) (x := .tmp 8) (y := .tmp 25) ?_ ?_ ?_ ?_ BZ.out HIX.out rfl (adc_one _) ?_); (rfl); (rfl); (rfl); (rfl); intro v1 hb5 hg5 hs5))
      have KX := Lib.hid hb5
      have hb : Below wr.heap.size wr v1 := bel_upd HBZ.out hg5 (Nat.le_refl _) (Nat.le_refl _)
      clear hb5 hg5 hs5 BZ HBZ
      have L5 := Lib.hid (show Below y3.heap.size y3 v1 from HBL.out.trans (hb.mono HBL.out.size))
      have Q5 := Lib.hid (Q4.out.below L5.out)
      have I5 := Lib.hid (I4.out.below L5.out)
      have G5 := Lib.hid ((G3.out.below L5.out).more L5.out.size)
      clear hb HBL HC
      generalize wr.heap.size = qx at *
      have KXB := Lib.hid (fun W (hW : Below v1.heap.size v1 W) => KX.out.below hW)
      have KXR := Lib.hid (fun W (hW : Below v1.heap.size v1 W) => adc_range (KX.out.below hW))
      have QB := Lib.hid (fun W (hW : Below v1.heap.size v1 W) => Q5.out.below hW)
      have HIL := Lib.hid (show (Try.prog.info? 35).map (·.size) = some (lkc x.k).length from infoLk15)
      have HT1 := Lib.hid (theirs15_calls x)
      unfold Back15 at HT1
      have HT2 := Lib.hid (fun W (hW : Below v1.heap.size v1 W) => theirs16_calls a p W (I5.out.below hW))
      unfold Th16 at HT2
      have hf1 := fun W (q : Pl) (hq : AkIn W W.heap.size a q) => fits16c_calls a HAK.out q x HXO.out W hq
      unfold Yes15 at hf1
      cases hd : fit16 a x with
      | true =>
        rw [hd] at hf1
        have HF1 := Lib.hid hf1
        have hat := HAT.out
        have hsn := HSN.out
        rw [hd, if_pos rfl] at hat hsn
        rw [HM.out] at hat
        have hmj : M[J]? = some x.k := by rw [hat, List.getElem?_append_right (by rw [HJ.out]; exact Nat.le_refl _), HJ.out, Nat.sub_self]; rfl
        have hjn : J < N := by rw [← HNM.out]; exact (List.getElem?_eq_some_iff.1 hmj).1
        have HJ2 := Lib.hid (show (lks16 (l.take (i + 1)) a).length = J + 1 by rw [hsn, List.length_append, HJ.out]; rfl)
        obtain ⟨bl, ol, y, rfl, hy, hbb, hc⟩ := cells15 lkc_length G5.out hjn
        obtain rfl : x.k = y := by rw [hmj] at hy; injection hy
        have HCY := Lib.hid (fun W (hW : Below v1.heap.size v1 W) => (show W.rangeAt bl (ol + J * 5) (lkc x.k) from hc W hW))
        have HEQ := Lib.hid (fun W => (show (binOp .eql 35 (.agg (lkc x.k).toArray) (.agg (lkc x.k).toArray)).run Try.prog W = .ok (.bool true) W from by have := (eq_lk16 x.k x.k W).1; simpa using this))
        have j1 : (J : Int) < (N : Int) := by omega
        have HJB := Lib.hid (show J < 1099511627776 by omega)
        clear hf1 hat hsn hmj hy hbb hc hd HAT HSN hjn
        go_wp2_with fail
        refine region_seq (fun W => Below v1.heap.size v1 W) [(0, true), (1, true), (2, true), (3, true), (4, true), (5, true), (6, true), (7, true), (8, true), (9, true), (10, true), (11, true), (12, true), (13, true), (14, true), (16, true), (15, false), (17, false), (18, false), (19, true)] (by kernel_rfl) (by kernel_rfl) (by kernel_rfl) (by kernel_rfl) (fun _ _ _ _ _ h => h) (Below.refl _ _).drew ?_
        repeat first
          | refine seq_eqA (xs := lkc x.k) (ys := lkc x.k) (c := true) rfl (by rfl) rfl rfl rfl (by kernel_rfl) HEQ.out ?_
            simp only [Act.put, List.setIfInBounds_toArray, List.set_cons_zero, List.set_cons_succ]
          | refine seq_load_at15 (x := .tmp 33) rfl (by rfl) rfl rfl HCY.out Try.underlying35 rfl HIL.out ?_
            simp only [Act.put, List.setIfInBounds_toArray, List.set_cons_zero, List.set_cons_succ]
          | refine seq_load_at15 (x := .tmp 35) rfl (by rfl) rfl rfl KXR.out Try.underlying35 rfl HIL.out ?_
            simp only [Act.put, List.setIfInBounds_toArray, List.set_cons_zero, List.set_cons_succ]
          | refine seq_load8 (x := .tmp 8) rfl (by rfl) rfl rfl KXB.out Try.underlying38 rfl HIX.out ?_
            simp only [Act.put, List.setIfInBounds_toArray, List.set_cons_zero, List.set_cons_succ]
          | refine seq_load8 (x := .tmp 3) rfl (by rfl) rfl rfl QB.out Try.underlying31 rfl HIA.out ?_
            simp only [Act.put, List.setIfInBounds_toArray, List.set_cons_zero, List.set_cons_succ]
          | refine seq_pure (v := ?_) rfl (by rfl) (fun W hW => ?_) ?_
            rotate_left
            · clear hW
              go_simp
              with_reducible rfl
            simp only [Act.put, List.setIfInBounds_toArray, List.set_cons_zero, List.set_cons_succ]
          | refine seq_skip rfl (by rfl) ?_
            simp only [Act.put, List.setIfInBounds_toArray, List.set_cons_zero, List.set_cons_succ]
        refine seq_make rfl (by rfl) (fun K hK => ?_)
        go_simp
        ((with_reducible refine (HT1.out v1.drew).mono ?_))
        rintro e z1 ⟨rfl, hb⟩
        have SB := Lib.hid (show Below v1.heap.size v1 z1 from below_of_drew hb)

        clear hb
        go_simp
        refine hK _ z1 (fun W => Below v1.heap.size v1 W) (fun W h => h) SB.out ?_
        clear hK K
        refine seq_make rfl (by rfl) (fun K hK => ?_)
        go_simp
        ((with_reducible refine (HT2.out z1 SB.out).mono ?_))
        rintro e z2 ⟨A9, c9, rfl, hac, hb⟩
        have SB0 := SB
        have SB := Lib.hid (show Below v1.heap.size v1 z2 from SB.out.trans (hb.mono SB.out.size))
        have I9 := Lib.hid (Th16.akin (I5.out.below SB0.out) hac hb)
        have I6 := Lib.hid (HF1.out z2 _ I9.out)
        clear hac I9
        clear hb
        go_simp
        refine hK _ z2 (fun W => Below v1.heap.size v1 W) (fun W h => h) SB.out ?_
        clear hK K
        refine seq_make rfl (by rfl) (fun K hK => ?_)
        go_simp
        ((with_reducible refine (I6.out).mono ?_))
        rintro e z3 ⟨rfl, hb⟩
        have SB := Lib.hid (show Below v1.heap.size v1 z3 from SB.out.trans (hb.mono SB.out.size))

        clear hb
        go_simp
        refine hK _ z3 (fun W => Below v1.heap.size v1 W) (fun W h => h) SB.out ?_
        clear hK K
        refine seq_pure (v := ?_) rfl (by rfl) (fun W hW => ?_) ?_
        rotate_left
        · clear hW
          go_simp
          with_reducible rfl
        simp only [Act.put, List.setIfInBounds_toArray, List.set_cons_zero, List.set_cons_succ]
        refine seq_done ?_
        have L6 := Lib.hid (L5.out.trans (SB.out.mono L5.out.size))
        clear SB SB0 I6 L5 Q5 I5 G5 KXB KXR QB HT1 HT2 KX HF1
        have hjb := HJB.out
        go_wp2_with fail
        go_roundw
        case rel => exact ⟨i + 1, HII.out, by rw [HJ2.out]; first | rfl | (simp; omega), by first | rfl | (simp; omega), L6.out⟩
        case measure => have := HII.out; simp [intOf]; omega
      | false =>
        rw [hd] at hf1
        have HF1 := Lib.hid hf1
        have hsn := HSN.out
        rw [hd, if_neg (by decide), List.append_nil] at hsn
        have HJ2 := Lib.hid (show (lks16 (l.take (i + 1)) a).length = J by rw [hsn, HJ.out])
        clear hf1 hsn hd HAT HSN
        by_cases hjn : J < N
        · obtain ⟨bl, ol, y, rfl, hy, hbb, hc⟩ := cells15 lkc_length G5.out hjn
          have HCY := Lib.hid (fun W (hW : Below v1.heap.size v1 W) => (show W.rangeAt bl (ol + J * 5) (lkc y) from hc W hW))
          have HIY := Lib.hid (show (Try.prog.info? 35).map (·.size) = some (lkc y).length from infoLk15)
          have j1 : (J : Int) < (N : Int) := by omega
          cases hyx : decide (y = x.k) with
          | true =>
            have HEQ := Lib.hid (fun W => (show (binOp .eql 35 (.agg (lkc y).toArray) (.agg (lkc x.k).toArray)).run Try.prog W = .ok (.bool true) W from by have := (eq_lk16 y x.k W).1; rwa [hyx] at this))
            clear hy hbb hc hjn hyx
            go_wp2_with fail
            refine region_seq (fun W => Below v1.heap.size v1 W) [(0, true), (1, true), (2, true), (3, true), (4, true), (5, true), (6, true), (7, true), (8, true), (9, true), (10, true), (11, true), (12, true), (13, true), (14, true), (16, true), (15, false), (17, false), (18, false), (19, true)] (by kernel_rfl) (by kernel_rfl) (by kernel_rfl) (by kernel_rfl) (fun _ _ _ _ _ h => h) (Below.refl _ _).drew ?_
            repeat first
              | refine seq_eqA (xs := lkc y) (ys := lkc x.k) (c := true) rfl (by rfl) rfl rfl rfl (by kernel_rfl) HEQ.out ?_
                simp only [Act.put, List.setIfInBounds_toArray, List.set_cons_zero, List.set_cons_succ]
              | refine seq_load_at15 (x := .tmp 33) rfl (by rfl) rfl rfl HCY.out Try.underlying35 rfl HIY.out ?_
                simp only [Act.put, List.setIfInBounds_toArray, List.set_cons_zero, List.set_cons_succ]
              | refine seq_load_at15 (x := .tmp 35) rfl (by rfl) rfl rfl KXR.out Try.underlying35 rfl HIL.out ?_
                simp only [Act.put, List.setIfInBounds_toArray, List.set_cons_zero, List.set_cons_succ]
              | refine seq_load8 (x := .tmp 8) rfl (by rfl) rfl rfl KXB.out Try.underlying38 rfl HIX.out ?_
                simp only [Act.put, List.setIfInBounds_toArray, List.set_cons_zero, List.set_cons_succ]
              | refine seq_load8 (x := .tmp 3) rfl (by rfl) rfl rfl QB.out Try.underlying31 rfl HIA.out ?_
                simp only [Act.put, List.setIfInBounds_toArray, List.set_cons_zero, List.set_cons_succ]
              | refine seq_pure (v := ?_) rfl (by rfl) (fun W hW => ?_) ?_
                rotate_left
                · clear hW
                  go_simp
                  with_reducible rfl
                simp only [Act.put, List.setIfInBounds_toArray, List.set_cons_zero, List.set_cons_succ]
              | refine seq_skip rfl (by rfl) ?_
                simp only [Act.put, List.setIfInBounds_toArray, List.set_cons_zero, List.set_cons_succ]
            refine seq_make rfl (by rfl) (fun K hK => ?_)
            go_simp
            ((with_reducible refine (HT1.out v1.drew).mono ?_))
            rintro e z1 ⟨rfl, hb⟩
            have SB := Lib.hid (show Below v1.heap.size v1 z1 from below_of_drew hb)

            clear hb
            go_simp
            refine hK _ z1 (fun W => Below v1.heap.size v1 W) (fun W h => h) SB.out ?_
            clear hK K
            refine seq_make rfl (by rfl) (fun K hK => ?_)
            go_simp
            ((with_reducible refine (HT2.out z1 SB.out).mono ?_))
            rintro e z2 ⟨A9, c9, rfl, hac, hb⟩
            have SB0 := SB
            have SB := Lib.hid (show Below v1.heap.size v1 z2 from SB.out.trans (hb.mono SB.out.size))
            have I9 := Lib.hid (Th16.akin (I5.out.below SB0.out) hac hb)
            have I6 := Lib.hid (HF1.out z2 _ I9.out)
            clear hac I9
            clear hb
            go_simp
            refine hK _ z2 (fun W => Below v1.heap.size v1 W) (fun W h => h) SB.out ?_
            clear hK K
            refine seq_make rfl (by rfl) (fun K hK => ?_)
            go_simp
            ((with_reducible refine (I6.out).mono ?_))
            rintro e z3 ⟨rfl, hb⟩
            have SB := Lib.hid (show Below v1.heap.size v1 z3 from SB.out.trans (hb.mono SB.out.size))

            clear hb
            go_simp
            refine hK _ z3 (fun W => Below v1.heap.size v1 W) (fun W h => h) SB.out ?_
            clear hK K
            refine seq_pure (v := ?_) rfl (by rfl) (fun W hW => ?_) ?_
            rotate_left
            · clear hW
              go_simp
              with_reducible rfl
            simp only [Act.put, List.setIfInBounds_toArray, List.set_cons_zero, List.set_cons_succ]
            refine seq_done ?_
            have L6 := Lib.hid (L5.out.trans (SB.out.mono L5.out.size))
            clear SB SB0 I6 L5 Q5 I5 G5 KXB KXR QB HT1 HT2 KX HF1
            go_wp2_with fail
            go_roundw
            case rel => exact ⟨i + 1, HII.out, by rw [HJ2.out], by first | rfl | (simp; omega), L6.out⟩
            case measure => have := HII.out; simp [intOf]; omega
          | false =>
            have HEQ := Lib.hid (fun W => (show (binOp .eql 35 (.agg (lkc y).toArray) (.agg (lkc x.k).toArray)).run Try.prog W = .ok (.bool false) W from by have := (eq_lk16 y x.k W).1; rwa [hyx] at this))
            clear hy hbb hc hjn hyx
            go_wp2_with fail
            refine region_seq (fun W => Below v1.heap.size v1 W) [(0, true), (1, true), (2, true), (3, true), (4, true), (5, true), (6, true), (7, true), (8, true), (9, true), (10, true), (11, true), (12, true), (13, true), (14, true), (16, true), (15, false), (17, false), (18, false), (19, true)] (by kernel_rfl) (by kernel_rfl) (by kernel_rfl) (by kernel_rfl) (fun _ _ _ _ _ h => h) (Below.refl _ _).drew ?_
            repeat first
              | refine seq_eqA (xs := lkc y) (ys := lkc x.k) (c := false) rfl (by rfl) rfl rfl rfl (by kernel_rfl) HEQ.out ?_
                simp only [Act.put, List.setIfInBounds_toArray, List.set_cons_zero, List.set_cons_succ]
              | refine seq_load_at15 (x := .tmp 33) rfl (by rfl) rfl rfl HCY.out Try.underlying35 rfl HIY.out ?_
                simp only [Act.put, List.setIfInBounds_toArray, List.set_cons_zero, List.set_cons_succ]
              | refine seq_load_at15 (x := .tmp 35) rfl (by rfl) rfl rfl KXR.out Try.underlying35 rfl HIL.out ?_
                simp only [Act.put, List.setIfInBounds_toArray, List.set_cons_zero, List.set_cons_succ]
              | refine seq_load8 (x := .tmp 8) rfl (by rfl) rfl rfl KXB.out Try.underlying38 rfl HIX.out ?_
                simp only [Act.put, List.setIfInBounds_toArray, List.set_cons_zero, List.set_cons_succ]
              | refine seq_load8 (x := .tmp 3) rfl (by rfl) rfl rfl QB.out Try.underlying31 rfl HIA.out ?_
                simp only [Act.put, List.setIfInBounds_toArray, List.set_cons_zero, List.set_cons_succ]
              | refine seq_pure (v := ?_) rfl (by rfl) (fun W hW => ?_) ?_
                rotate_left
                · clear hW
                  go_simp
                  with_reducible rfl
                simp only [Act.put, List.setIfInBounds_toArray, List.set_cons_zero, List.set_cons_succ]
              | refine seq_skip rfl (by rfl) ?_
                simp only [Act.put, List.setIfInBounds_toArray, List.set_cons_zero, List.set_cons_succ]
            refine seq_unmake rfl (by rfl) (Below.refl _ _).drew ?_
            simp only [Act.put, List.setIfInBounds_toArray, List.set_cons_zero, List.set_cons_succ]
            refine seq_unmake rfl (by rfl) (Below.refl _ _).drew ?_
            simp only [Act.put, List.setIfInBounds_toArray, List.set_cons_zero, List.set_cons_succ]
            refine seq_unmake rfl (by rfl) (Below.refl _ _).drew ?_
            simp only [Act.put, List.setIfInBounds_toArray, List.set_cons_zero, List.set_cons_succ]
            refine seq_pure (v := ?_) rfl (by rfl) (fun W hW => ?_) ?_
            rotate_left
            · clear hW
              go_simp
              with_reducible rfl
            simp only [Act.put, List.setIfInBounds_toArray, List.set_cons_zero, List.set_cons_succ]
            refine seq_done ?_
            have L6 := Lib.hid L5.out.drew
            clear L5 Q5 I5 G5 KXB KXR QB HT1 HT2 KX HF1
            go_wp2_with fail
            go_roundw
            case rel => exact ⟨i + 1, HII.out, by rw [HJ2.out], by first | rfl | (simp; omega), L6.out⟩
            case measure => have := HII.out; simp [intOf]; omega
        · have j1 : ¬ (J : Int) < (N : Int) := by omega
          have j2 : decide ((J : Int) < (N : Int)) = false := decide_eq_false j1
          have j3 : decide (J < N) = false := decide_eq_false hjn
          clear hjn
          go_wp2_with fail
          refine region_seq (fun W => Below v1.heap.size v1 W) [(0, true), (1, true), (2, true), (3, true), (4, true), (5, true), (6, true), (7, true), (8, true), (9, true), (10, true), (11, true), (12, true), (13, true), (14, true), (16, true), (15, false), (17, false), (18, false), (19, true)] (by kernel_rfl) (by kernel_rfl) (by kernel_rfl) (by kernel_rfl) (fun _ _ _ _ _ h => h) (Below.refl _ _).drew ?_
          repeat first
            | refine seq_load8 (x := .tmp 8) rfl (by rfl) rfl rfl KXB.out Try.underlying38 rfl HIX.out ?_
              simp only [Act.put, List.setIfInBounds_toArray, List.set_cons_zero, List.set_cons_succ]
            | refine seq_load8 (x := .tmp 3) rfl (by rfl) rfl rfl QB.out Try.underlying31 rfl HIA.out ?_
              simp only [Act.put, List.setIfInBounds_toArray, List.set_cons_zero, List.set_cons_succ]
            | refine seq_pure (v := ?_) rfl (by rfl) (fun W hW => ?_) ?_
              rotate_left
              · clear hW
                go_simp
                with_reducible rfl
              simp only [Act.put, List.setIfInBounds_toArray, List.set_cons_zero, List.set_cons_succ]
            | refine seq_skip rfl (by rfl) ?_
              simp only [Act.put, List.setIfInBounds_toArray, List.set_cons_zero, List.set_cons_succ]
          refine seq_unmake rfl (by rfl) (Below.refl _ _).drew ?_
          simp only [Act.put, List.setIfInBounds_toArray, List.set_cons_zero, List.set_cons_succ]
          refine seq_unmake rfl (by rfl) (Below.refl _ _).drew ?_
          simp only [Act.put, List.setIfInBounds_toArray, List.set_cons_zero, List.set_cons_succ]
          refine seq_unmake rfl (by rfl) (Below.refl _ _).drew ?_
          simp only [Act.put, List.setIfInBounds_toArray, List.set_cons_zero, List.set_cons_succ]
          refine seq_pure (v := ?_) rfl (by rfl) (fun W hW => ?_) ?_
          rotate_left
          · clear hW
            go_simp
            with_reducible rfl
          simp only [Act.put, List.setIfInBounds_toArray, List.set_cons_zero, List.set_cons_succ]
          refine seq_done ?_
          have L6 := Lib.hid L5.out.drew
          clear L5 Q5 I5 G5 KXB KXR QB HT1 HT2 KX HF1
          go_wp2_with fail
          go_roundw
          case rel => exact ⟨i + 1, HII.out, by rw [HJ2.out], by first | rfl | (simp; omega), L6.out⟩
          case measure => have := HII.out; simp [intOf]; omega
    · obtain rfl : i = n := by omega
      have i1 : ¬ (i : Int) < (i : Int) := by omega
      have hjn : J = N := by
        have := HJ.out
        rw [List.take_of_length_le (by rw [HLE.out]; exact Nat.le_refl _), HM.out, HNM.out] at this
        exact this.symm
      subst hjn
      have L6 := Lib.hid (L4.out.trans (HBL.out.mono L4.out.size))
      have qj : ((J : Int) == (J : Int)) = true := by simp
      clear hin hi
      go_wp2_with fail
      go_ret
      first
        | exact ⟨rfl, L6.out⟩
        | exact ⟨by simp, L6.out⟩
end Go.Proofs.Ytmffmoflelnmoaa
