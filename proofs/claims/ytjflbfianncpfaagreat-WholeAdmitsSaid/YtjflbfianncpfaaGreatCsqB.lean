/-
  Contracts of cspf.linksOf, mayFind, newSearch. Condition: numbers as large as their types allow; at most 2^30 elements in each list.
-/
import Derived.Test.YtjflbfianncpfaaGreatCsqA
import Derived.Test.YtjflbfianncpfaaGreatGraphAC
import Derived.Deep.CutBlock
namespace Go.Proofs.YtjflbfianncpfaaGreat
set_option maxRecDepth 100000
set_option linter.unusedVariables false
open Go.RowKit

set_option maxHeartbeats 3200000 in
theorem linksof17_calls (b : Option Addr) (n c : Nat) (l : List Ad) (w : World) (hr : Row adc w w.heap.size b n l) (hn : n ≤ 1073741824) :
    Calls Tryz.prog 42 #[.slice b n c] w (Lks16 (l.map (·.k)) w) := by
  have HR := Lib.hid hr
  have HN := Lib.hid (And.intro hr.1 hn)
  unfold Lks16
  clear hr
  go_enter Tryz.func42, Tryz.ntmps42
  go_wp2_with fail
  go_loopw [3, 8] (fun s u W => ∃ (i c1 : Nat) (A : Option Addr), i ≤ n ∧ s = .slice A ((l.take i).map (·.k)).length c1 ∧ u = .int .i64 (i : Int) ∧ AccL16 W w.heap.size A c1 ((l.take i).map (·.k)) ∧ Below w.heap.size w W) (fun s u W => n - (intOf u).toNat)
  case atStart => exact ⟨0, 0, none, Nat.zero_le _, rfl, rfl, AccR.nil _ _ _, Below.refl _ _⟩
  case round =>
    obtain ⟨i, c1, A, hi, rfl, rfl, hac, hbl⟩ := hrel
    obtain ⟨M, hM⟩ : ∃ M, (l.take i).map (·.k) = M := ⟨_, rfl⟩
    rw [hM] at hac ⊢
    have HM := Lib.hid hM
    have HAC := Lib.hid hac
    have HBL := Lib.hid hbl
    have hml : M.length ≤ 1099511627776 := by
      rw [← hM, List.length_map, List.length_take]
      have := HN.out.2
      omega
    have HML := Lib.hid hml
    obtain ⟨N, hN⟩ : ∃ N, M.length = N := ⟨_, rfl⟩
    rw [hN]
    have HNM := Lib.hid hN
    clear hac hbl hM hml hN
    by_cases hin : i < n
    · have i1 : (i : Int) < (n : Int) := by omega
      obtain ⟨bb, o, x, rfl, hx, hbb, hc⟩ := range15 HR.out hin
      have HII := Lib.hid hin
      have HC := Lib.hid (hc wr HBL.out)
      have HIX := Lib.hid (show (Tryz.prog.info? 53).map (·.size) = some (adc x).length from infoAdC16)
      have hsn : (l.take (i + 1)).map (·.k) = M ++ [x.k] := by
        rw [← HM.out, List.take_add_one, hx, List.map_append]; rfl
      have HSN := Lib.hid hsn
      clear hx hbb hc hin hi hsn
      have hbz := bel_new (Below.refl wr.heap.size wr) (.cells #[.int .i64 0, .int .i64 0, .int .u64 0, .int .i64 0, .int .u32 0, .int .i64 0, .bool false, .int .u64 0, .int .u64 0, .int .u64 0, .int .u64 0, .int .u64 0, .int .u64 0, .int .u64 0, .int .u64 0] 53)
      have BZ := Lib.hid (show Blk (wr.alloc (.cells #[.int .i64 0, .int .i64 0, .int .u64 0, .int .i64 0, .int .u32 0, .int .i64 0, .bool false, .int .u64 0, .int .u64 0, .int .u64 0, .int .u64 0, .int .u64 0, .int .u64 0, .int .u64 0, .int .u64 0] 53)) wr.heap.size 53 zr16 from Blk.new wr _ zr16)
      have HBZ := Lib.hid hbz
      clear hbz
      go_upto_region 5 with (first | (refine step_load_at (o := ⟨some 11, _, _, _, _, _⟩) rfl rfl rfl HC.out Tryz.underlying53 rfl HIX.out ?_) | ((with_reducible refine step_store (o := ⟨none, _, _, _, _, _⟩) (vs := adc x) (ty := 53) (x := .tmp 5) (y := .tmp 11) ?_ ?_ ?_ ?_ BZ.out HIX.out rfl (adc_one _) ?_); (rfl); (rfl); (rfl); (rfl); intro v1 hb5 hg5 hs5))
      have KX := Lib.hid hb5
      have hb : Below wr.heap.size wr v1 := bel_upd HBZ.out hg5 (Nat.le_refl _) (Nat.le_refl _)
      clear hb5 hg5 hs5 BZ HBZ
      have L1 := Lib.hid (show Below w.heap.size w v1 from HBL.out.trans (hb.mono HBL.out.size))
      have A1 := Lib.hid (show AccL16 v1 w.heap.size A c1 M from AccR.bel HAC.out hb)
      clear hb HC HAC HBL
      generalize wr.heap.size = qx at *
      obtain ⟨⟨f, t, cp, m, g⟩, q, up, fr⟩ := x
      have x0 : v1.cell? ⟨qx, 0, none⟩ = some (.int .i64 f) := KX.out.cell 0
      have x1 : v1.cell? ⟨qx, 1, none⟩ = some (.int .i64 t) := KX.out.cell 1
      have x2 : v1.cell? ⟨qx, 2, none⟩ = some (.int .u64 cp) := KX.out.cell 2
      have x3 : v1.cell? ⟨qx, 3, none⟩ = some (.int .i64 m) := KX.out.cell 3
      have x4 : v1.cell? ⟨qx, 4, none⟩ = some (.int .u32 g) := KX.out.cell 4
      obtain ⟨A3, c3, w3, r3, a3, g3⟩ := accl16_push A1.out f t cp m g L1.out.size HML.out
      have L3 := Lib.hid (show Below w.heap.size w w3 from by
        exact belr_acc L1.out A1.out g3)
      rw [HNM.out] at r3
      have A3' := Lib.hid a3
      have R3 := Lib.hid r3
      clear r3 a3 g3
      go_wp2_with (at_builtin; refine step_append (o := ⟨some 16, _, _, _, _, _⟩) rfl rfl rfl rfl R3.out ?_)
      go_roundw
      case rel => exact ⟨i + 1, c3, A3, HII.out, by rw [HSN.out, List.length_append, HNM.out]; rfl, by first | rfl | (simp; omega), by rw [HSN.out]; exact A3'.out, L3.out⟩
      case measure => have := HII.out; simp [intOf]; omega
    · obtain rfl : i = n := by omega
      have i1 : ¬ (i : Int) < (i : Int) := by omega
      have hv : l.map (·.k) = M := by rw [← HM.out, List.take_of_length_le (by rw [HN.out.1]; exact Nat.le_refl _)]
      have HV := Lib.hid hv
      clear hin hi hv
      go_wp2_with fail
      go_ret
      have hl2 : l.length = N := by rw [← HNM.out, ← HV.out, List.length_map]
      exact ⟨A, c1, by first | (rw [hl2]; rfl) | (rw [List.length_map, hl2]; rfl), by rw [HV.out]; exact HAC.out, HBL.out⟩

set_option maxHeartbeats 3200000 in
/-- May a route be looked for? -/
theorem mayfind17_calls (n f t : Int) (b : Option Addr) (m c : Nat) (l : List Ad) (a : Ak) (p : Pl) (w : World) (hr : Row adc w w.heap.size b m l) (hm : m ≤ 1073741824) (hn : I15 n) :
    Calls Tryz.prog 21 #[.int .i64 n, .slice b m c, .agg (akc a.w p).toArray, .int .i64 f, .int .i64 t] w fun e w' => ∃ d : Bool, e = .returned (.bool d) ∧ (d = true ↔ ok17 n l a p.h f t) ∧ Below w.heap.size w w' := by
  have HQ := Lib.hid (Blk.new w 60 (akc a.w p))
  have hl := bel_new (Below.refl w.heap.size w) (.cells (akc a.w p).toArray 60)
  have HL := Lib.hid hl
  have HWN := Lib.hid (show (Tryz.prog.info? 29).map (·.size) = some (wnc a.w).length from infoWn16)
  have HR := Lib.hid ((hr.below hl).more hl.size)
  have HM := Lib.hid hr.1
  obtain ⟨H, hH⟩ : ∃ H, p.h = H := ⟨_, rfl⟩
  have hc9 : ∀ W, Blk W w.heap.size 60 (akc a.w p) → W.cell? ⟨w.heap.size, 9, none⟩ = some (.int .i64 H) := fun W h => by rw [← hH]; exact h.cell 9
  have C9 := Lib.hid hc9
  rw [hH]
  obtain ⟨z, hz⟩ : ∃ z, chk n (l.map (·.k)) = z := ⟨_, rfl⟩
  obtain ⟨d2, hd2⟩ : ∃ d, decide (0 ≤ f ∧ f < n) = d := ⟨_, rfl⟩
  obtain ⟨d3, hd3⟩ : ∃ d, decide (0 ≤ t ∧ t < n) = d := ⟨_, rfl⟩
  obtain ⟨d4, hd4⟩ : ∃ d, wRight a.w = d := ⟨_, rfl⟩
  have hok : ok17 n l a H f t ↔ (z = 0 ∧ d2 = true ∧ d3 = true ∧ f ≠ t ∧ d4 = true ∧ 0 ≤ H) := by
    unfold ok17
    rw [hz, ← hd2, ← hd3, hd4, decide_eq_true_eq, decide_eq_true_eq]
  have HOK := Lib.hid hok
  have HI2 := Lib.hid (fun W => isnode17_calls n f W)
  have HI3 := Lib.hid (fun W => isnode17_calls n t W)
  rw [hd2] at HI2
  rw [hd3] at HI3
  have HRT := Lib.hid (fun W => (show Calls Tryz.prog 19 #[.agg (wnc a.w).toArray] W (Yes12 (wRight a.w) W) from right12_calls a.w W))
  unfold Yes12 at HRT
  rw [hd4] at HRT
  have HCK := Lib.hid (fun (A : Option Addr) (c : Nat) W (h : Row lkc W W.heap.size A (l.map (·.k)).length (l.map (·.k))) => check_calls n A _ c _ W h hn.1 hn.2 (by rw [List.length_map, hr.1]; omega))
  rw [hz] at HCK
  have HLK := Lib.hid (fun W (h : Row adc W W.heap.size b m l) => linksof17_calls b m c l W h hm)
  unfold Lks16 at HLK
  have hlen : (l.map (·.k)).length = m := by rw [List.length_map, hr.1]
  rw [hlen] at HCK HLK
  have HLEN := Lib.hid hlen
  clear hl hH hc9 hz hd2 hd3 hd4 hok hlen hr hn hm
  go_enter Tryz.func21, Tryz.ntmps21
  go_upto_region 1 with fail
  generalize (w.alloc (.cells (akc a.w p).toArray 60)) = w1 at *
  go_wp2_with fail
  ((with_reducible refine (HLK.out w1 HR.out).mono ?_))
  rintro e w2 ⟨A2, c2, rfl, hac, hb⟩
  have L2 := Lib.hid hb
  have R2 := Lib.hid (show Row lkc w2 w2.heap.size A2 m (l.map (·.k)) from by have := (AccR.row hac); rwa [HLEN.out] at this)
  clear hac hb
  go_wp2_with fail
  ((with_reducible refine (HCK.out A2 c2 w2 R2.out).mono ?_))
  rintro e w3 ⟨rfl, hb⟩
  have L3 := Lib.hid (show Below w1.heap.size w1 w3 from L2.out.trans (hb.mono L2.out.size))
  have LW := Lib.hid (show Below w.heap.size w w3 from HL.out.trans (L3.out.mono HL.out.size))
  clear hb HCK HLK
  by_cases hz0 : z = 0
  case neg =>
    have q1 : (z == 0) = false := by simpa using hz0
    have HV := Lib.hid (show ¬ ok17 n l a H f t from fun h => hz0 (HOK.out.1 h).1)
    clear hz0
    go_wp2_with fail
    go_ret
    exact ⟨false, rfl, by simp [HV.out], LW.out⟩
  have q1 : (z == 0) = true := by simpa using hz0
  have HZ := Lib.hid hz0
  clear hz0
  go_wp2_with fail
  ((with_reducible refine (HI2.out w3).mono ?_))
  rintro e w4 ⟨rfl, rfl⟩
  cases d2 with
  | false =>
    have HV := Lib.hid (show ¬ ok17 n l a H f t from fun h => by have := (HOK.out.1 h).2.1; cases this)
    go_wp2_with fail
    go_ret
    exact ⟨false, rfl, by simp [HV.out], LW.out⟩
  | true =>
  go_wp2_with fail
  ((with_reducible refine (HI3.out w4).mono ?_))
  rintro e w5 ⟨rfl, rfl⟩
  cases d3 with
  | false =>
    have HV := Lib.hid (show ¬ ok17 n l a H f t from fun h => by have := (HOK.out.1 h).2.2.1; cases this)
    go_wp2_with fail
    go_ret
    exact ⟨false, rfl, by simp [HV.out], LW.out⟩
  | true =>
  by_cases hft : f = t
  case pos =>
    have HV := Lib.hid (show ¬ ok17 n l a H f t from fun h => (HOK.out.1 h).2.2.2.1 hft)
    have q2 : (f == t) = true := by simpa using hft
    have q3 : (f != t) = false := by simp [hft]
    clear hft
    go_wp2_with fail
    go_ret
    exact ⟨false, rfl, by simp [HV.out], LW.out⟩
  have q2 : (f == t) = false := by simpa using hft
  have q3 : (f != t) = true := by simpa using hft
  have HFT := Lib.hid hft
  clear hft
  have r2 := Lib.hid (akc_range (HQ.out.below L3.out))
  go_wp2_with (refine step_load_at_want (o := ⟨some 33, _, _, _, _, _⟩) (by rfl) rfl rfl r2.out Tryz.underlying29 rfl HWN.out ?_)
  ((with_reducible refine (HRT.out _).mono ?_))
  rintro e w6 ⟨rfl, hb⟩
  have L6 := Lib.hid (show Below w1.heap.size w1 w6 from L3.out.trans (hb.mono L3.out.size))
  have LW6 := Lib.hid (show Below w.heap.size w w6 from HL.out.trans (L6.out.mono HL.out.size))
  clear hb
  cases d4 with
  | false =>
    have HV := Lib.hid (show ¬ ok17 n l a H f t from fun h => by have := (HOK.out.1 h).2.2.2.2.1; cases this)
    go_wp2_with fail
    go_ret
    exact ⟨false, rfl, by simp [HV.out], LW6.out⟩
  | true =>
  have x9 := C9.out _ (HQ.out.below L6.out)
  obtain ⟨d, hd⟩ : ∃ d, decide (0 ≤ H) = d := ⟨_, rfl⟩
  have HV := Lib.hid (show d = true ↔ ok17 n l a H f t from by
    rw [HOK.out, ← hd, decide_eq_true_eq]
    exact ⟨fun h => ⟨HZ.out, by simp, by simp, HFT.out, by simp, h⟩, fun h => h.2.2.2.2.2⟩)
  have HD := Lib.hid hd
  clear hd
  go_wp2_with fail
  all_goals
    go_ret
    exact ⟨d, by rw [← HD.out]; first | rfl | simp, HV.out, LW6.out⟩

/-- A search at its beginning: nothing is noted. -/
theorem newsearch17_calls (A : Option Addr) (c : Nat) (L : List Lk) (w0 w : World) (hL : AccL16 w w0.heap.size A c L) (hb : Below w0.heap.size w0 w) :
    Calls Tryz.prog 22 #[.slice A L.length c] w fun e w' => ∃ (K : Sk17) (g : Nat), e = .returned (.pointer (some ⟨K.s, 0, none⟩)) ∧ K.la = A ∧ K.lc = c ∧ Sea17 w0 w' K g 0 L (fun _ _ => none) (fun _ _ => none) [] ∧ Below w.heap.size w w' := by
  have hmm := @run_makeMap Tryz.prog
  have HN := Lib.hid (nts_new w)
  have hb1 := bel_new (Below.refl w.heap.size w) (.map #[] 0)
  have HB1 := Lib.hid hb1
  have HLL := Lib.hid hL
  have HBB := Lib.hid hb
  have HS := Lib.hid (show w0.heap.size ≤ w.heap.size from hb.size)
  have hsz : w.heap.size < (w.alloc (.map #[] 0)).heap.size := by simp
  have HSZ := Lib.hid hsz
  obtain ⟨N, hN⟩ : ∃ N, L.length = N := ⟨_, rfl⟩
  rw [hN]
  have HNL := Lib.hid hN
  clear hL hb hb1 hsz hN
  go_enter Tryz.func22, Tryz.ntmps22
  go_wp2_with fail
  generalize hw1 : w.alloc (.map #[] 0) = w1 at *
  ((with_reducible refine (new10_calls w1).mono ?_))
  rintro e w2 ⟨q, pp, g, rfl, hb2, hq⟩
  have L2 := Lib.hid (show Below w.heap.size w w2 from HB1.out.trans (hb2.mono HB1.out.size))
  have N2 := Lib.hid (HN.out.same (hb2.block _ HN.out.lt))
  have Q2 := Lib.hid (show Qe w2 w.heap.size q pp g [] from hq.lower (by have := HSZ.out; omega))
  clear hb2 hq hw1
  have X := Lib.hid (Blk.new w2 93 [.slice A N c, .map (some w.heap.size), .pointer (some ⟨q, 0, none⟩)])
  have BX := Lib.hid (bel_new (Below.refl w2.heap.size w2) (.cells #[.slice A N c, .map (some w.heap.size), .pointer (some ⟨q, 0, none⟩)] 93))
  go_wp2_with fail
  go_ret
  refine ⟨⟨w2.heap.size, w.heap.size, q, pp, A, c⟩, g, rfl, rfl, rfl, ?_, L2.out.trans (BX.out.mono L2.out.size)⟩
  have h1 : Below w0.heap.size w0 w2 := HBB.out.trans (L2.out.mono HS.out)
  refine ⟨h1.trans (BX.out.mono h1.size), ?_, AccR.bel (AccR.bel HLL.out L2.out) BX.out, N2.out.same (BX.out.block _ N2.out.lt), (Q2.out.lower HS.out).bel BX.out, HS.out, fun x j => trivial⟩
  rw [HNL.out]
  exact X.out
end Go.Proofs.YtjflbfianncpfaaGreat
