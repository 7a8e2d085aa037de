/-
  The law WholeAdmits, walked: a path by the route that is found for it is admitted on each of its links. Condition: what the code of layers 14 and 17 must keep (Tk17, FindOk17).
-/
import Derived.Test.YtjflbfianncpfaaGreatTabsR
import Derived.Test.YtjflbfianncpfaaGreatTedG
import Derived.Deep.CutBlock
namespace Go.Proofs.YtjflbfianncpfaaGreat
set_option maxRecDepth 100000
set_option linter.unusedVariables false
open Go.RowKit

/-- A case's cells. -/
def cst17 (n : Int) (p : Option Addr) (m c : Nat) (pa : Option Addr) (ma ca : Nat) (f t : Int) (x : Ac14) : List Value := [.int .i64 n, .slice p m c, .slice pa ma ca, .int .i64 f, .int .i64 t] ++ a14 x
def ptc17 (q : Nat) : List Value := [.pointer (some ⟨q, 0, none⟩)]
theorem ptc17_length (q : Nat) : (ptc17 q).length = 1 := rfl
theorem ptc17_one (q : Nat) : ∀ u ∈ ptc17 q, u.oneCell' = true := by intro u hu; simp [ptc17] at hu; subst hu; rfl
theorem ptr17_cell {W : World} {base b o c j q : Nat} {T : TypeId} {qs : List Nat} (h : AccR ptc17 1 W base T (some ⟨b, o, none⟩) c qs) (hj : qs[j]? = some q) : W.cell? ⟨b, o + j, none⟩ = some (.pointer (some ⟨q, 0, none⟩)) := by
  have hlt : j < qs.length := (List.getElem?_eq_some_iff.1 hj).1
  obtain ⟨b9, o9, e9, _, hc⟩ := (AccR.row h).cells ptc17_length (by omega)
  injection e9 with e9
  injection e9 with e1 e2
  subst e1
  subst e2
  have hh := hc j hlt 0 (by decide)
  rw [Nat.mul_one, Nat.add_zero] at hh
  rw [hh]
  have e : qs[j] = q := by rw [List.getElem?_eq_getElem hlt] at hj; injection hj
  rw [e]; rfl
theorem infoPt17 : (Tryz.prog.info? 34).map (fun i => (i.zero, i.size, i.bytes)) = some (some (.pointer none), 1, 8) := by kernel_rfl
theorem infoLk17 : (Tryz.prog.info? 44).map (·.size) = some 5 := by kernel_rfl
theorem infoAct17 : (Tryz.prog.info? 31).map (·.size) = some 12 := by kernel_rfl

set_option maxHeartbeats 16000000 in
theorem wadm_walk {P : TabW} (K : Tk17 P) (hF : FindOk17) (n f t : Int) (hi : I15 n ∧ I15 f ∧ I15 t) (p : Option Addr) (m c : Nat) (pa : Option Addr) (ma ca : Nat) (x : Ac14) (hx : Ac14Ok x) (w : World) (hL : ∃ L, Row lkc w w.heap.size p m L ∧ ∀ z ∈ L, LkB z) (hA : ∃ es, Row a14 w w.heap.size pa ma es ∧ ∀ y ∈ es, Ac14Ok y) :
    Calls Tryz.prog 3 #[.agg (cst17 n p m c pa ma ca f t x).toArray] w fun e w' => e = .returned (.bool true) ∧ Below w.heap.size w w' := by
  obtain ⟨L, hR, hLB⟩ := hL
  obtain ⟨es, hRA, hAB⟩ := hA
  have hb1 := bel_new (Below.refl w.heap.size w) (.cells (cst17 n p m c pa ma ca f t x).toArray 33)
  have CB := Lib.hid (Blk.new w 33 (cst17 n p m c pa ma ca f t x))
  have B1 := Lib.hid hb1
  have RL := Lib.hid ((hR.below hb1).more hb1.size)
  have RA := Lib.hid ((hRA.below hb1).more hb1.size)
  have HNI := Lib.hid hi
  have HX := Lib.hid hx
  have HLB := Lib.hid hLB
  have HAB := Lib.hid hAB
  have HML := Lib.hid hR.1
  have HF := Lib.hid hF
  clear hb1 hR hRA hi hx hLB hAB hF
  go_enter Tryz.func3, Tryz.ntmps3
  go_upto_region 1 with fail
  obtain ⟨cb, hcb⟩ : ∃ cb, cb = w.heap.size := ⟨_, rfl⟩
  rw [← hcb] at CB ⊢
  have HCB := Lib.hid hcb
  clear hcb
  generalize w.alloc (.cells (cst17 n p m c pa ma ca f t x).toArray 33) = w1 at *
  have hn5 : Calls Tryz.prog 4 #[.int .u64 5] w1 (New14 P 5 w1) := K.new 5 (by decide) w1
  go_wp2_with fail
  ((with_reducible refine hn5.mono ?_))
  intro e w2 hn
  obtain ⟨q0, rfl, ht, hb⟩ := Tabs17.new K (Tabs17.nil (Below.refl _ _)) hn
  have T2 := Lib.hid (show Tabs17 P w1 w2 [⟨q0, 5, []⟩] from ht)
  clear hn ht hb hn5
  obtain ⟨S2, hp2, hK2⟩ := T2.out.at K (i := 0) rfl
  have hl : Calls Tryz.prog 5 #[.pointer (some ⟨q0, 0, none⟩)] w2 fun e w' => ∃ S', e = .returned (.agg #[.int .u64 5, .int .u64 0, .int .u64 0, .int .u64 0, .int .u64 0, .int .u64 0, .int .u64 0, .int .u64 0, .int .u64 0]) ∧ P w' q0 5 [] S' ∧ Mv14 S2 w2 S' w' := K.ledger hp2
  have HLG := Lib.hid hl
  have HK2 := Lib.hid hK2
  clear hl hp2 hK2
  go_wp2_with fail
  ((with_reducible refine HLG.out.mono ?_))
  rintro e w3 ⟨S3, rfl, p3, m3⟩
  have T3 := Lib.hid (show Tabs17 P w1 w3 [⟨q0, 5, []⟩] from (HK2.out w3 S3 [] p3 m3).1)
  clear p3 m3 HK2 HLG T2
  obtain ⟨S2, hp2, hK2⟩ := T3.out.at K (i := 0) rfl
  have hl : Calls Tryz.prog 5 #[.pointer (some ⟨q0, 0, none⟩)] w3 fun e w' => ∃ S', e = .returned (.agg #[.int .u64 5, .int .u64 0, .int .u64 0, .int .u64 0, .int .u64 0, .int .u64 0, .int .u64 0, .int .u64 0, .int .u64 0]) ∧ P w' q0 5 [] S' ∧ Mv14 S2 w3 S' w' := K.ledger hp2
  have HLG := Lib.hid hl
  have HK2 := Lib.hid hK2
  clear hl hp2 hK2
  have hfd : (Instr.field 38 (.agg #[.int .u64 5, .int .u64 0, .int .u64 0, .int .u64 0, .int .u64 0, .int .u64 0, .int .u64 0, .int .u64 0, .int .u64 0]) 0).run Tryz.prog w3 = .ok (.int .u64 5) w3 := by kernel_rfl
  go_wp2_with fail
  clear hfd
  ((with_reducible refine HLG.out.mono ?_))
  rintro e w4 ⟨S4, rfl, p4, m4⟩
  have T4 := Lib.hid (show Tabs17 P w1 w4 [⟨q0, 5, []⟩] from (HK2.out w4 S4 [] p4 m4).1)
  clear p4 m4 HK2 HLG T3
  have hf : Calls Tryz.prog 6 #[.agg #[.int .u64 5, .int .u64 0, .int .u64 0, .int .u64 0, .int .u64 0, .int .u64 0, .int .u64 0, .int .u64 0, .int .u64 0]] w4 fun e w' => e = .returned (.agg #[.int .u64 5, .int .u64 5, .int .u64 5, .int .u64 5, .int .u64 5, .int .u64 5, .int .u64 5, .int .u64 5]) ∧ Below w4.heap.size w4 w' := freeok13 ⟨5, [0, 0, 0, 0, 0, 0, 0, 0]⟩ ⟨rfl, by decide, by simp⟩ w4
  have HFR := Lib.hid hf
  clear hf
  go_wp2_with fail
  ((with_reducible refine HFR.out.mono ?_))
  rintro e w5 ⟨rfl, hb⟩
  have B5 := Lib.hid (show Below w1.heap.size w1 w5 from (T4.out.below K hb).bel)
  clear hb HFR T4
  have hix : (Instr.index 36 (.agg #[.int .u64 5, .int .u64 5, .int .u64 5, .int .u64 5, .int .u64 5, .int .u64 5, .int .u64 5, .int .u64 5]) (.int .i64 0)).run Tryz.prog w5 = .ok (.int .u64 5) w5 := by kernel_rfl
  have c5 := CB.out.below B5.out
  have k0 : w5.cell? ⟨cb, 0, none⟩ = some (.int .i64 n) := c5.cell 0
  have k1 : w5.cell? ⟨cb, 1, none⟩ = some (.slice p m c) := c5.cell 1
  clear c5
  by_cases h64 : 64 < m
  · have g1 : (64 : Int) < (m : Int) := by omega
    clear h64
    go_wp2_with fail
    go_ret
    exact ⟨rfl, B1.out.trans (B5.out.mono B1.out.size)⟩
  have g1 : ¬ (64 : Int) < (m : Int) := by omega
  have HM := Lib.hid h64
  have hck := rcheck_calls n p m c L w5 ((RL.out.below B5.out).more B5.out.size) (by omega)
  have HCK := Lib.hid hck
  clear hck h64
  go_wp2_with fail
  clear hix
  ((with_reducible refine HCK.out.mono ?_))
  rintro e w6 ⟨rfl, hb⟩
  have B6 := Lib.hid (show Below w1.heap.size w1 w6 from B5.out.trans (hb.mono B5.out.size))
  clear hb HCK k0 k1 B5
  obtain ⟨z, hz⟩ : ∃ z, chk n L = z := ⟨_, rfl⟩
  rw [hz]
  by_cases hz0 : z = 0
  case neg =>
    have q1 : (z != 0) = true := by simp [hz0]
    clear hz0
    go_wp2_with fail
    go_ret
    exact ⟨rfl, B1.out.trans (B6.out.mono B1.out.size)⟩
  subst hz0
  have HZ := Lib.hid hz
  clear hz
  have k1 : w6.cell? ⟨cb, 1, none⟩ = some (.slice p m c) := (CB.out.below B6.out).cell 1
  go_wp2_with fail
  clear k1
  go_loopw [4, 51] (fun s u W => ∃ (i c1 : Nat) (A : Option Addr) (ts : List Tb17), i ≤ m ∧ ts.length = i ∧ s = .slice A i c1 ∧ u = .int .i64 (i : Int) ∧ AccR ptc17 1 W w6.heap.size 34 A c1 (ts.map (·.q)) ∧ w6.heap.size ≤ W.heap.size ∧ Tabs17 P w1 W ts ∧ ∀ (k : Nat) (d : Tb17), ts[k]? = some d → (d.sz : Int) = (L.getD k default).c ∧ d.l = []) (fun s u W => m - (intOf u).toNat)
  case atStart => exact ⟨0, 0, none, [], Nat.zero_le _, rfl, rfl, rfl, AccR.nil _ _ _, Nat.le_refl _, Tabs17.nil B6.out, fun k d h => by simp at h⟩
  case round =>
    obtain ⟨i, c1, A, ts, hi, htl, rfl, rfl, hac, h6, htb, hts⟩ := hrel
    have H6 := Lib.hid h6
    clear h6
    have TB := Lib.hid htb
    have HAC := Lib.hid hac
    have HTS := Lib.hid (And.intro htl hts)
    clear hac htb htl hts
    by_cases hin : i < m
    · have i1 : (i : Int) < (m : Int) := by omega
      obtain ⟨bb, o, z, rfl, hz, hbb, hc⟩ := cells15 lkc_length RL.out hin
      have HZZ := Lib.hid hz
      have HII := Lib.hid hin
      have hzB := HLB.out z (List.mem_of_getElem? hz)
      obtain ⟨cap, hcap⟩ := Int.eq_ofNat_of_zero_le hzB.1
      have hc2 := hc wr TB.out.bel
      have z0 : wr.cell? ⟨bb, o + i * 5, none⟩ = some (.int .i64 z.f) := by have := hc2 0 _ rfl; simpa using this
      have z1 : wr.cell? ⟨bb, o + i * 5 + 1, none⟩ = some (.int .i64 z.t) := by have := hc2 1 _ rfl; simpa using this
      have z2 : wr.cell? ⟨bb, o + i * 5 + 2, none⟩ = some (.int .u64 (cap : Int)) := by have := hc2 2 _ rfl; rw [← hcap]; simpa using this
      have z3 : wr.cell? ⟨bb, o + i * 5 + 3, none⟩ = some (.int .i64 z.m) := by have := hc2 3 _ rfl; simpa using this
      have z4 : wr.cell? ⟨bb, o + i * 5 + 4, none⟩ = some (.int .u32 z.g) := by have := hc2 4 _ rfl; simpa using this
      have HCAP := Lib.hid (And.intro hcap hzB)
      clear hz hbb hc hc2 hin hi hcap hzB
      go_upto_region 10 with fail
      clear z0 z1 z2 z3 z4
      have hb := bel_new (Below.refl wr.heap.size wr) (.cells #[.int .i64 z.f, .int .i64 z.t, .int .u64 (cap : Int), .int .i64 z.m, .int .u32 z.g] 44)
      have y2 : (wr.alloc (.cells #[.int .i64 z.f, .int .i64 z.t, .int .u64 (cap : Int), .int .i64 z.m, .int .u32 z.g] 44)).cell? ⟨wr.heap.size, 2, none⟩ = some (.int .u64 (cap : Int)) := (Blk.new wr 44 [.int .i64 z.f, .int .i64 z.t, .int .u64 (cap : Int), .int .i64 z.m, .int .u32 z.g]).cell 2
      have TB2 := Lib.hid (TB.out.below K hb)
      have AC2 := Lib.hid (AccR.bel HAC.out hb)
      have H7 := Lib.hid (Nat.le_trans H6.out hb.size)
      clear hb TB HAC
      generalize wr.heap.size = qx at *
      generalize wr.alloc _ = w7 at *
      have hnw := K.new cap (by have h := HCAP.out.2; unfold LkB at h; have := HCAP.out.1; omega) w7
      go_wp2_with fail
      ((with_reducible refine hnw.mono ?_))
      intro e w8 hn
      obtain ⟨q, rfl, ht8, hb8⟩ := Tabs17.new K TB2.out hn
      have TB8 := Lib.hid ht8
      have H8 := Lib.hid (Nat.le_trans H7.out hb8.size)
      have AC8 := Lib.hid (AccR.bel AC2.out hb8)
      clear hn ht8 hb8 hnw y2 TB2 AC2
      have hlen : (ts.map (·.q)).length = i := by rw [List.length_map]; exact HTS.out.1
      have hb6 : w6.heap.size ≤ w8.heap.size := H8.out
      obtain ⟨A3, c3, w9, r3, a3, g3⟩ := accr_push ptc17_length ptc17_one (by omega) AC8.out q Tryz.underlying42 infoPt17 rfl hb6 (by rw [hlen]; have := HM.out; have := HII.out; omega) (by rw [hlen]; have := HM.out; have := HII.out; omega)
      rw [hlen] at r3
      have R3 := Lib.hid (show (Builtin.append_ #[42, 42] 42 #[.slice A i c1, .slice (some ⟨w8.heap.size, 0, none⟩) 1 1]).run Tryz.prog (w8.alloc (.cells #[.pointer (some ⟨q, 0, none⟩)] 34)) = .ok (.slice A3 (i + 1) c3) w9 from r3)
      have B9 := belr_acc TB8.out.bel (AccR.lower AC8.out B6.out.size) g3
      have TB9 := Lib.hid (TB8.out.beside K g3 B9 (fun b hb => by
        have := accr_ty AC8.out hb
        rw [this]
        exact ⟨by decide, by decide⟩))
      have A9 := Lib.hid (show AccR ptc17 1 w9 w6.heap.size 34 A3 c3 ((ts ++ [(⟨q, cap, []⟩ : Tb17)]).map (·.q)) from by rw [List.map_append]; exact a3)
      have H9 := Lib.hid (Nat.le_trans H8.out g3.size)
      have HT9 := Lib.hid (show (ts ++ [(⟨q, cap, []⟩ : Tb17)]).length = i + 1 ∧ ∀ (k : Nat) (d : Tb17), (ts ++ [⟨q, cap, []⟩])[k]? = some d → (d.sz : Int) = (L.getD k default).c ∧ d.l = [] from by
        refine ⟨by rw [List.length_append, HTS.out.1]; rfl, fun k d hk => ?_⟩
        rcases Nat.lt_or_ge k ts.length with h | h
        · rw [List.getElem?_append_left h] at hk
          exact HTS.out.2 k d hk
        · rw [List.getElem?_append_right h] at hk
          obtain ⟨j, hj⟩ : ∃ j, k - ts.length = j := ⟨_, rfl⟩
          rw [hj] at hk
          cases j with
          | zero =>
            simp at hk
            subst hk
            have e : k = i := by have := HTS.out.1; omega
            rw [e, List.getD_eq_getElem?_getD, HZZ.out]
            exact ⟨HCAP.out.1.symm, rfl⟩
          | succ j => simp at hk)
      clear r3 a3 g3 B9 hlen hb6 AC8 TB8
      go_wp2_with (at_builtin; refine step_append (o := ⟨some 60, _, _, _, _, _⟩) rfl rfl rfl rfl R3.out ?_)
      go_roundw
      case rel => exact ⟨i + 1, c3, A3, _, HII.out, HT9.out.1, by first | rfl | (simp; omega), by first | rfl | (simp; omega), A9.out, H9.out, TB9.out, HT9.out.2⟩
      case measure => have := HII.out; simp [intOf]; omega
    · obtain rfl : i = m := by omega
      have i1 : ¬ (i : Int) < (i : Int) := by omega
      have HOLD := Lib.hid (show Hold17 L x.k 0 ts from ⟨by rw [HTS.out.1]; exact HML.out.symm, fun k d hk => (HTS.out.2 k d hk).1, fun k d hk => by rw [(HTS.out.2 k d hk).2]; exact Nat.le_refl _, fun k d hk y hy => by rw [(HTS.out.2 k d hk).2] at hy; cases hy⟩)
      have PT := Lib.hid HAC.out
      have HTL := Lib.hid HTS.out.1
      have PT0 := Lib.hid (show (ts.map (·.q)).length = i from by rw [List.length_map]; exact HTS.out.1)
      clear hin hi HTS HAC
      obtain ⟨qs, hqs⟩ : ∃ qs, ts.map (·.q) = qs := ⟨_, rfl⟩
      rw [hqs] at PT PT0
      have HQS := Lib.hid hqs
      clear hqs
      go_upto_block 2 with fail
      go_cut [7, 8, 9] from 62 to 108 (fun s7 s8 s9 W => ∃ (ts : List Tb17), ts.map (·.q) = qs ∧ Hold17 L x.k 60 ts ∧ AccR ptc17 1 W w6.heap.size 34 A c1 qs ∧ Tabs17 P w1 W ts)
      case first =>
        go_wp2_with fail
        go_loopw [7] (fun s W => ∃ (k : Nat) (ts : List Tb17), k ≤ 60 ∧ s = .int .i64 (k : Int) ∧ ts.map (·.q) = qs ∧ Hold17 L x.k k ts ∧ AccR ptc17 1 W w6.heap.size 34 A c1 qs ∧ Tabs17 P w1 W ts) (fun s W => 60 - (intOf s).toNat)
        case atStart => exact ⟨0, ts, by omega, rfl, HQS.out, HOLD.out, PT.out, TB.out⟩
        case round =>
          clear HOLD PT TB HQS HTL H6
          generalize wr = wx at *
          obtain ⟨k, ts2, hk60, rfl, hqs, hold, hpt, htb⟩ := hrel
          have HOLD := Lib.hid hold
          have PT := Lib.hid hpt
          have TB := Lib.hid htb
          have HQS := Lib.hid hqs
          clear hold hpt htb hqs
          by_cases hlt : k < ma ∧ k < 60 ∧ 0 < i
          case neg =>
            have k2 : wx.cell? ⟨cb, 2, none⟩ = some (.slice pa ma ca) := (CB.out.below TB.out.bel).cell 2
            have HOLD6 := Lib.hid (show Hold17 L x.k 60 ts2 from ⟨HOLD.out.len, HOLD.out.sz, fun k' d h => Nat.le_trans (HOLD.out.few k' d h) hk60, HOLD.out.kin⟩)
            by_cases h1 : k < ma
            case neg =>
              have a1 : ¬ (k : Int) < (ma : Int) := by omega
              clear hlt h1
              go_wp2_with fail
              go_meet
              exact ⟨ts2, HQS.out, HOLD6.out, PT.out, TB.out⟩
            have a1 : (k : Int) < (ma : Int) := by omega
            by_cases h2 : k < 60
            case neg =>
              have a2 : ¬ (k : Int) < 60 := by omega
              clear hlt h1 h2
              go_wp2_with fail
              go_meet
              exact ⟨ts2, HQS.out, HOLD6.out, PT.out, TB.out⟩
            have a2 : (k : Int) < 60 := by omega
            have a3 : ¬ 0 < (i : Int) := by omega
            clear hlt h1 h2
            go_wp2_with fail
            go_meet
            exact ⟨ts2, HQS.out, HOLD6.out, PT.out, TB.out⟩
          obtain ⟨h1, h2, h3⟩ := hlt
          have HK := Lib.hid (And.intro h1 h2)
          have a1 : (k : Int) < (ma : Int) := by omega
          have a2 : (k : Int) < 60 := by omega
          have a3 : 0 < (i : Int) := by omega
          obtain ⟨bb, o, y, rfl, hy, hbb, hc⟩ := row_cells a14_length RA.out h1
          have HYO := Lib.hid (HAB.out y (List.mem_of_getElem? hy))
          have HC := Lib.hid (hc wx TB.out.bel)
          have k2 : wx.cell? ⟨cb, 2, none⟩ = some (.slice (some ⟨bb, o, none⟩) ma ca) := (CB.out.below TB.out.bel).cell 2
          have HIX := Lib.hid (show (Tryz.prog.info? 31).map (·.size) = some (a14 y).length from infoAct17)
          obtain ⟨j, hj⟩ : ∃ j, k % i = j := ⟨_, rfl⟩
          have hji : j < i := by rw [← hj]; exact Nat.mod_lt _ h3
          have htl : ts2.length = i := by
            have h := congrArg List.length HQS.out
            have h4 := PT0.out
            rw [List.length_map] at h
            omega
          have htj : ts2[j]? = some (ts2[j]'(by omega)) := List.getElem?_eq_getElem _
          generalize ts2[j]'(by omega) = tj at htj
          have HTJ := Lib.hid htj
          obtain ⟨b8, o8, hA8, hb8, hc8⟩ := (AccR.row PT.out).cells ptc17_length (by rw [← HQS.out, List.length_map]; omega)
          have hqj : qs[j]? = some tj.q := by rw [← HQS.out, List.getElem?_map, htj]; rfl
          have hrem : Int.tmod (k : Int) (i : Int) = (j : Int) := by rw [← hj]; rfl
          subst hA8
          have HQJ := Lib.hid (And.intro hji hqj)
          clear hy hbb hc h1 h2 hj htl htj hji hqj
          have hbz := bel_new (Below.refl wx.heap.size wx) (.cells #[.bool false, .bool false, .int .i64 0, .int .i64 0, .int .i64 0, .int .i64 0, .int .u64 0, .int .i64 0, .int .i64 0, .int .u32 0, .int .u32 0, .int .u32 0] 31)
          have BZ := Lib.hid (show Blk (wx.alloc (.cells #[.bool false, .bool false, .int .i64 0, .int .i64 0, .int .i64 0, .int .i64 0, .int .u64 0, .int .i64 0, .int .i64 0, .int .u32 0, .int .u32 0, .int .u32 0] 31)) wx.heap.size 31 #[.bool false, .bool false, .int .i64 0, .int .i64 0, .int .i64 0, .int .i64 0, .int .u64 0, .int .i64 0, .int .i64 0, .int .u32 0, .int .u32 0, .int .u32 0].toList from Blk.new wx _ _)
          have HBZ := Lib.hid hbz
          clear hbz
          go_upto_region 16 with (first | (refine step_load_at (o := ⟨some 82, _, _, _, _, _⟩) rfl rfl rfl HC.out Tryz.underlying31 rfl HIX.out ?_) | ((with_reducible refine step_store (o := ⟨none, _, _, _, _, _⟩) (vs := a14 y) (ty := 31) (x := .tmp 8) (y := .tmp 82) ?_ ?_ ?_ ?_ BZ.out HIX.out rfl (a14_one _) ?_); (rfl); (rfl); (rfl); (rfl); intro v1 hb5 hg5 hs5))
          have KX := Lib.hid hb5
          have hb : Below wx.heap.size wx v1 := bel_upd HBZ.out hg5 (Nat.le_refl _) (Nat.le_refl _)
          have TB1 := Lib.hid (TB.out.below K hb)
          have PT1 := Lib.hid (AccR.bel PT.out hb)
          clear hb5 hb hg5 hs5 BZ HBZ HC TB PT k2
          generalize wx.heap.size = yb at *
          obtain ⟨b9, o9, e9, hb9, hc9⟩ := (AccR.row PT1.out).cells ptc17_length (by have := PT0.out; omega)
          have hp9 : v1.cell? ⟨b8, o8 + j, none⟩ = some (.pointer (some ⟨tj.q, 0, none⟩)) := by
            injection e9 with e9
            injection e9 with e1 e2
            subst e1
            subst e2
            have hlt : j < qs.length := (List.getElem?_eq_some_iff.1 HQJ.out.2).1
            have h := hc9 j hlt 0 (by decide)
            rw [Nat.mul_one, Nat.add_zero] at h
            rw [h]
            have e : qs[j] = tj.q := by have := HQJ.out.2; rw [List.getElem?_eq_getElem hlt] at this; injection this
            rw [e]; rfl
          clear e9 hb9 hc9 hb8 hc8
          have r0 : ((i : Int) == 0) = false := by simp; omega
          have r1 : (j : Int) < (i : Int) := by have := HQJ.out.1; omega
          have y0 : v1.cell? ⟨yb, 0, none⟩ = some (.bool y.dr) := KX.out.cell 0
          obtain ⟨S1, hp1, hK1⟩ := TB1.out.at K HTJ.out
          cases hdr : y.dr with
          | true =>
            rw [hdr] at y0
            have y2 : v1.cell? ⟨yb, 2, none⟩ = some (.int .i64 y.k.tail) := (KX.out).cell 2
            have y3 : v1.cell? ⟨yb, 3, none⟩ = some (.int .i64 y.k.tun) := (KX.out).cell 3
            have y4 : v1.cell? ⟨yb, 4, none⟩ = some (.int .i64 y.k.head) := (KX.out).cell 4
            have y5 : v1.cell? ⟨yb, 5, none⟩ = some (.int .i64 y.k.lsp) := (KX.out).cell 5
            have hd := K.drop hp1 y.k HYO.out.1
            unfold Drt14 at hd
            have HDD := Lib.hid hd
            have HKK := Lib.hid hK1
            have PT3 := PT1
            clear hd hdr hp1 hK1
            go_wp2_with fail
            ((with_reducible refine HDD.out.mono ?_))
            rintro e v9 ⟨S9, rfl, pp, mv⟩
            clear y0 y2 y3 y4 y5 hp9
            have hK9 := HKK.out _ _ _ pp mv
            have TB9 := Lib.hid hK9.1
            have PT9 := Lib.hid (show AccR ptc17 1 _ w6.heap.size 34 (some ⟨b8, o8, none⟩) c1 qs from hK9.2.acc PT3.out (by decide) (by decide))
            have HQS9 := Lib.hid (show (ts2.set j ⟨tj.q, tj.sz, (aDrop tj.l y.k).1⟩).map (·.q) = qs from by rw [List.map_set]; exact (set_id17 (by rw [List.getElem?_map, HTJ.out]; rfl)).trans HQS.out)
            have HOLD9 := Lib.hid (HOLD.out.dro_ HTJ.out y.k)
            clear hK9 pp mv
            go_wp2_with fail
            go_roundw
            case rel => exact ⟨k + 1, _, by have := HK.out; omega, by first | rfl | (simp; omega), HQS9.out, HOLD9.out, PT9.out, TB9.out⟩
            case measure => have := HK.out; simp [intOf]; omega
          | false =>
            rw [hdr] at y0
            have y2 : v1.cell? ⟨yb, 2, none⟩ = some (.int .i64 y.k.tail) := (KX.out).cell 2
            have y3 : v1.cell? ⟨yb, 3, none⟩ = some (.int .i64 y.k.tun) := (KX.out).cell 3
            have y4 : v1.cell? ⟨yb, 4, none⟩ = some (.int .i64 y.k.head) := (KX.out).cell 4
            have y5 : v1.cell? ⟨yb, 5, none⟩ = some (.int .i64 y.k.lsp) := (KX.out).cell 5
            have x2 : v1.cell? ⟨cb, 7, none⟩ = some (.int .i64 x.k.tail) := (CB.out.below TB1.out.bel).cell 7
            have x3 : v1.cell? ⟨cb, 8, none⟩ = some (.int .i64 x.k.tun) := (CB.out.below TB1.out.bel).cell 8
            have x4 : v1.cell? ⟨cb, 9, none⟩ = some (.int .i64 x.k.head) := (CB.out.below TB1.out.bel).cell 9
            have x5 : v1.cell? ⟨cb, 10, none⟩ = some (.int .i64 x.k.lsp) := (CB.out.below TB1.out.bel).cell 10
            have hkn := K.kin y.k x.k v1
            unfold Yes14 at hkn
            obtain ⟨kk, hkk⟩ : ∃ kk, kKin y.k x.k = kk := ⟨_, rfl⟩
            rw [hkk] at hkn
            have HKN := Lib.hid hkn
            have HKV := Lib.hid hkk
            clear hkn hkk hp1 hK1 hdr
            go_wp2_with fail
            ((with_reducible refine HKN.out.mono ?_))
            rintro e v2 ⟨rfl, hb⟩
            have TB2 := Lib.hid (TB1.out.below K hb)
            have PT3 := Lib.hid (AccR.bel PT1.out hb)
            have KX2 := Lib.hid (KX.out.below hb)
            clear y0 y2 y3 y4 y5 x2 x3 x4 x5 hp9 hb HKN TB1 PT1 KX
            cases kk with
            | true =>
              have TB9 := TB2
              have PT9 := PT3
              have HQS9 := HQS
              have HOLD9 := Lib.hid HOLD.out.more
              go_wp2_with fail
              go_roundw
              case rel => exact ⟨k + 1, _, by have := HK.out; omega, by first | rfl | (simp; omega), HQS9.out, HOLD9.out, PT9.out, TB9.out⟩
              case measure => have := HK.out; simp [intOf]; omega
            | false =>
              have y2 : v2.cell? ⟨yb, 2, none⟩ = some (.int .i64 y.k.tail) := (KX2.out).cell 2
              have y3 : v2.cell? ⟨yb, 3, none⟩ = some (.int .i64 y.k.tun) := (KX2.out).cell 3
              have y4 : v2.cell? ⟨yb, 4, none⟩ = some (.int .i64 y.k.head) := (KX2.out).cell 4
              have y5 : v2.cell? ⟨yb, 5, none⟩ = some (.int .i64 y.k.lsp) := (KX2.out).cell 5
              have y6 : v2.cell? ⟨yb, 6, none⟩ = some (.int .u64 (y.w.bw : Int)) := (KX2.out).cell 6
              have y7 : v2.cell? ⟨yb, 7, none⟩ = some (.int .i64 y.w.su) := (KX2.out).cell 7
              have y8 : v2.cell? ⟨yb, 8, none⟩ = some (.int .i64 y.w.ho) := (KX2.out).cell 8
              have y9 : v2.cell? ⟨yb, 9, none⟩ = some (.int .u32 (y.w.an : Int)) := (KX2.out).cell 9
              have y10 : v2.cell? ⟨yb, 10, none⟩ = some (.int .u32 (y.w.al : Int)) := (KX2.out).cell 10
              have y11 : v2.cell? ⟨yb, 11, none⟩ = some (.int .u32 (y.w.no : Int)) := (KX2.out).cell 11
              obtain ⟨S1, hp1, hK1⟩ := TB2.out.at K HTJ.out
              have hd := K.adm hp1 y.k y.w HYO.out.1 HYO.out.2
              unfold Adt14 at hd
              have HDD := Lib.hid hd
              have HKK := Lib.hid hK1
              have HTT := Lib.hid (TB2.out.tbl K HTJ.out)
              clear hd hp1 hK1
              go_wp2_with fail
              ((with_reducible refine HDD.out.mono ?_))
              rintro e v9 ⟨S9, A9, c9, rfl, pp, mv, _⟩
              clear y2 y3 y4 y5 y6 y7 y8 y9 y10 y11
              have hK9 := HKK.out _ _ _ pp mv
              have TB9 := Lib.hid hK9.1
              have PT9 := Lib.hid (show AccR ptc17 1 _ w6.heap.size 34 (some ⟨b8, o8, none⟩) c1 qs from hK9.2.acc PT3.out (by decide) (by decide))
              have HQS9 := Lib.hid (show (ts2.set j ⟨tj.q, tj.sz, (aAdmit tj.sz tj.l y.k y.w).1⟩).map (·.q) = qs from by rw [List.map_set]; exact (set_id17 (by rw [List.getElem?_map, HTJ.out]; rfl)).trans HQS.out)
              have HOLD9 := Lib.hid (HOLD.out.adm_ HTJ.out HTT.out HKV.out y.w)
              clear hK9 pp mv
              go_wp2_with fail
              go_roundw
              case rel => exact ⟨k + 1, _, by have := HK.out; omega, by first | rfl | (simp; omega), HQS9.out, HOLD9.out, PT9.out, TB9.out⟩
              case measure => have := HK.out; simp [intOf]; omega
      case rest =>
        obtain ⟨ts2, hqs, hold, hpt, htb⟩ := hcut
        generalize wc = w7 at *
        have HOLD := Lib.hid hold
        have PT7 := Lib.hid hpt
        have TB7 := Lib.hid htb
        have HQS := Lib.hid hqs
        clear hold hpt htb hqs H6
        have k1 : w7.cell? ⟨cb, 1, none⟩ = some (.slice p i c) := (CB.out.below TB7.out.bel).cell 1
        generalize wr = w61 at *
        go_wp2_with fail
        clear k1
        go_loopw [10, 112] (fun s u W => ∃ (k c2 : Nat) (B : Option Addr), k ≤ i ∧ s = .slice B k c2 ∧ u = .int .i64 (k : Int) ∧ AccT15 W w7.heap.size B c2 (adv17 L ts2 k) ∧ AccR ptc17 1 W w6.heap.size 34 A c1 qs ∧ w7.heap.size ≤ W.heap.size ∧ Tabs17 P w1 W ts2) (fun s u W => i - (intOf u).toNat)
        case atStart => exact ⟨0, 0, none, Nat.zero_le _, rfl, rfl, AccR.nil _ _ _, PT7.out, Nat.le_refl _, TB7.out⟩
        case round =>
          clear TB PT
          obtain ⟨k, c2, B, hki, rfl, rfl, hac, hpt, h7, htb⟩ := hrel
          have AC := Lib.hid hac
          have PT8 := Lib.hid hpt
          have H7 := Lib.hid h7
          have TB8 := Lib.hid htb
          clear hac hpt h7 htb
          by_cases hlt : k < i
          · have HKI := Lib.hid hlt
            have i1 : (k : Int) < (i : Int) := by omega
            obtain ⟨bb, o, z, rfl, hz, hbb, hc⟩ := cells15 lkc_length RL.out hlt
            have HZZ := Lib.hid hz
            have hzB := HLB.out z (List.mem_of_getElem? hz)
            unfold LkB at hzB
            have HZB := Lib.hid hzB
            have hc2 := hc wr TB8.out.bel
            have z0 : wr.cell? ⟨bb, o + k * 5, none⟩ = some (.int .i64 z.f) := by have := hc2 0 _ rfl; simpa using this
            have z1 : wr.cell? ⟨bb, o + k * 5 + 1, none⟩ = some (.int .i64 z.t) := by have := hc2 1 _ rfl; simpa using this
            have z2 : wr.cell? ⟨bb, o + k * 5 + 2, none⟩ = some (.int .u64 z.c) := by have := hc2 2 _ rfl; simpa using this
            have z3 : wr.cell? ⟨bb, o + k * 5 + 3, none⟩ = some (.int .i64 z.m) := by have := hc2 3 _ rfl; simpa using this
            have z4 : wr.cell? ⟨bb, o + k * 5 + 4, none⟩ = some (.int .u32 z.g) := by have := hc2 4 _ rfl; simpa using this
            have htl : ts2.length = i := by
              have h := congrArg List.length HQS.out
              have h4 := PT0.out
              rw [List.length_map] at h
              omega
            have htj : ts2[k]? = some (ts2[k]'(by omega)) := List.getElem?_eq_getElem _
            generalize ts2[k]'(by omega) = tk at htj
            have HTJ := Lib.hid htj
            have hqj : qs[k]? = some tk.q := by rw [← HQS.out, List.getElem?_map, htj]; rfl
            have HQJ := Lib.hid hqj
            obtain ⟨b8, o8, hA8, _, _⟩ := (AccR.row PT8.out).cells ptc17_length (by have := PT0.out; omega)
            subst hA8
            have hsz : tk.sz < 18446744073709551616 := by
              have h := HOLD.out.sz k tk htj
              rw [List.getD_eq_getElem?_getD, hz] at h
              have h2 : (tk.sz : Int) = z.c := h
              omega
            have htbl := TB8.out.tbl K htj
            have hg := ledgOf_ok (size := tk.sz) (fams_ho htbl.srt htbl.rgt) hsz (by have := htbl.fit; omega)
            obtain ⟨f0, f1, f2, f3, f4, f5, f6, f7, hF⟩ := held_eight (lFree_length (ledgOf tk.sz (fams tk.l)))
            have hfr : ∀ W, Calls Tryz.prog 6 #[.agg (lgc (ledgOf tk.sz (fams tk.l))).toArray] W fun e w' => e = .returned (.agg #[.int .u64 (f0 : Int), .int .u64 (f1 : Int), .int .u64 (f2 : Int), .int .u64 (f3 : Int), .int .u64 (f4 : Int), .int .u64 (f5 : Int), .int .u64 (f6 : Int), .int .u64 (f7 : Int)]) ∧ Below W.heap.size W w' := fun W => by
              have := freeok13 (ledgOf tk.sz (fams tk.l)) hg W
              rw [hF] at this
              exact this
            have HFR := Lib.hid hfr
            have HFF := Lib.hid hF
            clear hz hzB hbb hc hc2 hlt hki htl htj hqj hsz htbl hg hfr hF
            go_upto_region 25 with fail
            clear z0 z1 z2 z3 z4
            have hb := bel_new (Below.refl wr.heap.size wr) (.cells #[.int .i64 z.f, .int .i64 z.t, .int .u64 z.c, .int .i64 z.m, .int .u32 z.g] 44)
            have KX := Lib.hid (show Blk (wr.alloc (.cells #[.int .i64 z.f, .int .i64 z.t, .int .u64 z.c, .int .i64 z.m, .int .u32 z.g] 44)) wr.heap.size 44 (lkc z) from Blk.new wr _ (lkc z))
            have TB9 := Lib.hid (TB8.out.below K hb)
            have AC9 := Lib.hid (show AccT15 _ w7.heap.size B c2 (adv17 L ts2 k) from AccR.bel AC.out hb)
            have PT9 := Lib.hid (AccR.bel PT8.out hb)
            have H9 := Lib.hid (Nat.le_trans H7.out hb.size)
            clear hb TB8 AC PT8 H7
            generalize wr.heap.size = qx at *
            generalize wr.alloc _ = w9 at *
            obtain ⟨S1, hp1, hK1⟩ := (TB9.out.below K (Below.refl _ _).drew).at K HTJ.out
            have hl := K.ledger hp1
            unfold Lgt14 at hl
            have HLG := Lib.hid hl
            have HK1 := Lib.hid hK1
            have HSS := Lib.hid (fun W (h : Blk W qx 44 (lkc z) ∧ AccR ptc17 1 W w6.heap.size 34 (some ⟨b8, o8, none⟩) c1 qs) => And.intro (h.1.cell 0) (And.intro (h.1.cell 1) (And.intro (h.1.cell 2) (And.intro (h.1.cell 3) (And.intro (h.1.cell 4) (ptr17_cell h.2 HQJ.out))))))
            clear hl hp1 hK1
            go_wp2_with fail
            refine region_seq (fun W => Blk W qx 44 (lkc z) ∧ AccR ptc17 1 W w6.heap.size 34 (some ⟨b8, o8, none⟩) c1 qs) [(0, true), (1, true), (2, true), (3, true), (4, true), (5, true), (6, false), (7, false), (8, true), (9, false), (10, false), (11, true)]
              (by kernel_rfl) (by kernel_rfl) (by kernel_rfl) (by kernel_rfl) (fun _ _ _ _ _ h => h) ⟨KX.out, PT9.out⟩ ?_
            repeat
              refine seq_pure (v := ?_) rfl (by rfl) (fun W hW => ?_) ?_
              rotate_left
              · obtain ⟨t0, t1, t2, t3, t4, t5⟩ := HSS.out W hW
                have t0' : W.cell? ⟨qx, 0, none⟩ = some (.int .i64 z.f) := t0
                have t1' : W.cell? ⟨qx, 1, none⟩ = some (.int .i64 z.t) := t1
                have t2' : W.cell? ⟨qx, 2, none⟩ = some (.int .u64 z.c) := t2
                have t3' : W.cell? ⟨qx, 3, none⟩ = some (.int .i64 z.m) := t3
                have t4' : W.cell? ⟨qx, 4, none⟩ = some (.int .u32 z.g) := t4
                clear hW t0 t1 t2 t3 t4
                go_simp
                with_reducible rfl
              simp only [Act.put, List.setIfInBounds_toArray, List.set_cons_zero, List.set_cons_succ]
            refine seq_make rfl (by rfl) (fun K' hK' => ?_)
            go_simp
            ((with_reducible refine HLG.out.mono ?_))
            rintro e v1 ⟨S9, rfl, pp, mv⟩
            have hk9 := HK1.out v1 S9 tk.l pp mv
            rw [set_self17 HTJ.out] at hk9
            have TD := hk9.2
            have TB1 := Lib.hid hk9.1
            have AC1 := Lib.hid (show AccT15 v1 w7.heap.size B c2 (adv17 L ts2 k) from TD.acc (AccR.bel AC9.out (Below.refl _ _).drew) (by decide) (by decide))
            have PT1 := Lib.hid (TD.acc (AccR.bel PT9.out (Below.refl _ _).drew) (by decide) (by decide))
            have KX1 := Lib.hid (TD.blk (KX.out.below (Below.refl _ _).drew) (by decide) (by decide))
            have H1 := Lib.hid (show w7.heap.size ≤ v1.heap.size from Nat.le_trans H9.out TD.size)
            clear hk9 TD pp mv HLG HK1
            go_simp
            refine hK' _ _ (fun W => Blk W qx 44 (lkc z) ∧ AccR ptc17 1 W w6.heap.size 34 (some ⟨b8, o8, none⟩) c1 qs) (fun W h => h) ⟨KX1.out, PT1.out⟩ ?_
            clear hK' K'
            refine seq_make rfl (by rfl) (fun K' hK' => ?_)
            go_simp
            ((with_reducible refine (HFR.out v1).mono ?_))
            rintro e v2 ⟨rfl, hb⟩
            have TB2 := Lib.hid (TB1.out.below K hb)
            have AC2 := Lib.hid (show AccT15 v2 w7.heap.size B c2 (adv17 L ts2 k) from AccR.bel AC1.out hb)
            have PT2 := Lib.hid (AccR.bel PT1.out hb)
            have KX2 := Lib.hid (KX1.out.below hb)
            have H2 := Lib.hid (Nat.le_trans H1.out hb.size)
            clear hb TB1 AC1 PT1 KX1 H1 HFR
            go_simp
            refine hK' _ _ (fun W => Blk W qx 44 (lkc z) ∧ AccR ptc17 1 W w6.heap.size 34 (some ⟨b8, o8, none⟩) c1 qs) (fun W h => h) ⟨KX2.out, PT2.out⟩ ?_
            clear hK' K'
            repeat
              refine seq_pure (v := ?_) rfl (by rfl) (fun W hW => ?_) ?_
              rotate_left
              · clear hW
                go_simp
                with_reducible rfl
              simp only [Act.put, List.setIfInBounds_toArray, List.set_cons_zero, List.set_cons_succ]
            refine seq_make rfl (by rfl) (fun K' hK' => ?_)
            go_simp
            have hb := bel_new (Below.refl v2.heap.size v2) (.cells #[.int .i64 z.f, .int .i64 z.t, .int .u64 z.c, .int .i64 z.m, .int .u32 z.g, .int .i64 0, .bool true, .int .u64 (f0 : Int), .int .u64 (f1 : Int), .int .u64 (f2 : Int), .int .u64 (f3 : Int), .int .u64 (f4 : Int), .int .u64 (f5 : Int), .int .u64 (f6 : Int), .int .u64 (f7 : Int)] 53)
            have KX3 := Lib.hid (KX2.out.below hb)
            have PT3 := Lib.hid (AccR.bel PT2.out hb)
            have hk100 : k ≤ 100 := by have := HKI.out; have := HM.out; omega
            have hadl := adv17_length L ts2 k
            obtain ⟨A4, c4, v4, r4, a4, g4⟩ := acct15_push AC2.out ⟨z, 0, true, [f0, f1, f2, f3, f4, f5, f6, f7]⟩ H2.out (by rw [hadl]; omega)
            rw [hadl] at r4
            have R4 := Lib.hid (show (Builtin.append_ #[51, 51] 51 #[.slice B k c2, .slice (some ⟨v2.heap.size, 0, none⟩) 1 1]).run Tryz.prog (v2.alloc (.cells #[.int .i64 z.f, .int .i64 z.t, .int .u64 z.c, .int .i64 z.m, .int .u32 z.g, .int .i64 0, .bool true, .int .u64 (f0 : Int), .int .u64 (f1 : Int), .int .u64 (f2 : Int), .int .u64 (f3 : Int), .int .u64 (f4 : Int), .int .u64 (f5 : Int), .int .u64 (f6 : Int), .int .u64 (f7 : Int)] 53)) = .ok (.slice A4 (k + 1) c4) v4 from r4)
            have e4 : adv17 L ts2 k ++ [⟨z, 0, true, [f0, f1, f2, f3, f4, f5, f6, f7]⟩] = adv17 L ts2 (k + 1) := by
              rw [adv17_snoc]
              have e1 : L.getD k default = z := by rw [List.getD_eq_getElem?_getD, HZZ.out]; rfl
              have e2 : ts2.getD k ⟨0, 0, []⟩ = tk := by rw [List.getD_eq_getElem?_getD, HTJ.out]; rfl
              rw [e1, e2]
              unfold fr17
              rw [HFF.out]
            rw [e4] at a4
            have A4' := Lib.hid (show AccT15 v4 w7.heap.size A4 c4 (adv17 L ts2 (k + 1)) from a4)
            have hty : ∀ b, blk B = some b → tyAt v2 b = some 53 := fun b hb => accr_ty AC2.out hb
            have B4 := belr_acc TB2.out.bel (AccR.lower AC2.out TB7.out.bel.size) g4
            have TB4 := Lib.hid (TB2.out.beside K g4 B4 (fun b hb => by
              rw [hty b hb]
              exact ⟨by decide, by decide⟩))
            have PT4 := Lib.hid (AccR.kept PT2.out g4 (fun y hy e => by
              have h1 := hty y e
              rw [accr_ty PT2.out hy] at h1
              injection h1 with h1
              exact absurd h1 (by decide)))
            have KX4 := Lib.hid (show Blk v4 qx 44 (lkc z) from KX2.out.same (g4.block qx KX2.out.lt (fun e => by
              have h1 := hty qx e.symm
              rw [KX2.out.ty] at h1
              injection h1 with h1
              exact absurd h1 (by decide))))
            have H4 := Lib.hid (Nat.le_trans H2.out g4.size)
            clear r4 a4 g4 B4 hty e4 hadl
            first
              | refine hK' _ _ (fun W => Blk W qx 44 (lkc z) ∧ AccR ptc17 1 W w6.heap.size 34 (some ⟨b8, o8, none⟩) c1 qs) (fun W h => h) ⟨KX3.out, PT3.out⟩ ?_
              | refine hK' _ _ (fun W => Blk W qx 44 (lkc z) ∧ AccR ptc17 1 W w6.heap.size 34 (some ⟨b8, o8, none⟩) c1 qs) (fun W h => h) ⟨KX3.out.below (Below.refl _ _).drew, AccR.bel PT3.out (Below.refl _ _).drew⟩ ?_
            clear hK' K' hb
            refine seq_make rfl (by rfl) (fun K' hK' => ?_)
            refine op_append rfl rfl rfl R4.out ?_
            refine hK' _ v4 (fun W => Blk W qx 44 (lkc z) ∧ AccR ptc17 1 W w6.heap.size 34 (some ⟨b8, o8, none⟩) c1 qs) (fun W h => h) ⟨KX4.out, PT4.out⟩ ?_
            clear hK' K' R4
            repeat
              refine seq_pure (v := ?_) rfl (by rfl) (fun W hW => ?_) ?_
              rotate_left
              · clear hW
                go_simp
                with_reducible rfl
              simp only [Act.put, List.setIfInBounds_toArray, List.set_cons_zero, List.set_cons_succ]
            refine seq_done ?_
            clear AC2 TB2 KX2 PT2 H2 KX3 PT3
            go_wp2_with fail
            go_roundw
            case rel => exact ⟨k + 1, c4, A4, HKI.out, by first | rfl | (simp; omega), by first | rfl | (simp; omega), A4'.out, PT4.out, H4.out, TB4.out⟩
            case measure => have := HKI.out; simp [intOf]; omega
          · obtain rfl : k = i := by omega
            have i1 : ¬ (k : Int) < (k : Int) := by omega
            clear hlt hki
            have ELM := Lib.hid (show L.length = k from HML.out)
            have HTB := Lib.hid (show ∀ (m : Nat) (t : Tb17), ts2[m]? = some t → Tbl14 t.sz t.l from fun m t h => TB8.out.tbl K h)
            have hok := adv17_ok HLB.out HOLD.out HTB.out
            rw [ELM.out] at hok
            have hR9 : Row adc wr wr.heap.size B k (adv17 L ts2 k) := by
              have h1 := AccR.row AC.out
              rw [adv17_length] at h1
              exact h1
            have hwn := HX.out.2.2.2.2
            have hfi := HF.out n f t B k c2 (adv17 L ts2 k) ⟨x.w, [], [], []⟩ ⟨none, 0, 0, none, 0, 0, none, 0, 0, 0⟩ wr hok ⟨hwn, fun o ho => by cases ho⟩ ⟨Row.nil, Row.nil, Row.nil, by simp, by simp, by simp⟩ hR9 (by have := HM.out; omega) HNI.out.1 HNI.out.2.1 HNI.out.2.2 (show I15 0 by unfold I15; decide)
            have hfi2 : Calls Tryz.prog 11 #[.int .i64 n, .slice B k c2, .agg #[.int .u64 (x.w.bw : Int), .int .i64 x.w.su, .int .i64 x.w.ho, .int .u32 (x.w.an : Int), .int .u32 (x.w.al : Int), .int .u32 (x.w.no : Int), .slice none 0 0, .slice none 0 0, .slice none 0 0, .int .i64 0], .int .i64 f, .int .i64 t] wr (Fnd17 n (adv17 L ts2 k) ⟨x.w, [], [], []⟩ 0 f t wr) := hfi
            unfold Fnd17 at hfi2
            have HFN := Lib.hid hfi2
            clear hok hR9 hwn hfi hfi2
            have ccb := CB.out.below TB8.out.bel
            have k0 : wr.cell? ⟨cb, 0, none⟩ = some (.int .i64 n) := ccb.cell 0
            have k3 : wr.cell? ⟨cb, 3, none⟩ = some (.int .i64 f) := ccb.cell 3
            have k4 : wr.cell? ⟨cb, 4, none⟩ = some (.int .i64 t) := ccb.cell 4
            have x6 : wr.cell? ⟨cb, 11, none⟩ = some (.int .u64 (x.w.bw : Int)) := (ccb).cell 11
            have x7 : wr.cell? ⟨cb, 12, none⟩ = some (.int .i64 x.w.su) := (ccb).cell 12
            have x8 : wr.cell? ⟨cb, 13, none⟩ = some (.int .i64 x.w.ho) := (ccb).cell 13
            have x9 : wr.cell? ⟨cb, 14, none⟩ = some (.int .u32 (x.w.an : Int)) := (ccb).cell 14
            have x10 : wr.cell? ⟨cb, 15, none⟩ = some (.int .u32 (x.w.al : Int)) := (ccb).cell 15
            have x11 : wr.cell? ⟨cb, 16, none⟩ = some (.int .u32 (x.w.no : Int)) := (ccb).cell 16
            clear ccb
            go_wp2_with fail
            ((with_reducible refine HFN.out.mono ?_))
            rintro e w10 ⟨A10, c10, r, co, er, rfl, hac, hb, hcs⟩
            have TB10 := Lib.hid (TB8.out.below K hb)
            have PT10 := Lib.hid (AccR.bel PT8.out hb)
            have R10 := Lib.hid (show AccI w10 wr.heap.size A10 c10 r from hac)
            have HCS := Lib.hid hcs
            obtain ⟨N, hN⟩ : ∃ N, r.length = N := ⟨_, rfl⟩
            rw [hN]
            have HN := Lib.hid hN
            clear hac hb hcs hN HFN k0 k3 k4 x6 x7 x8 x9 x10 x11 TB8 PT8 AC H7 PT7 TB7
            by_cases her : er = 0
            case neg =>
              have q1 : (er != 0) = true := by simpa using her
              have hr0 : N = 0 := by
                rw [← HN.out]
                by_cases hk : ok17 n (adv17 L ts2 k) ⟨x.w, [], [], []⟩ 0 f t
                · rcases HCS.out.good hk with ⟨h1, _⟩ | ⟨_, h2, _⟩
                  · exact absurd h1 her
                  · rw [h2]; rfl
                · rw [(HCS.out.bad hk).1]; rfl
              have q2 : ((N : Int) == 0) = true := by rw [hr0]; rfl
              clear her hr0
              go_wp2_with fail
              go_ret
              exact ⟨rfl, B1.out.trans (TB10.out.bel.mono B1.out.size)⟩
            subst her
            obtain ⟨hok, hbest⟩ := csp17_ok HCS.out
            have hlen := ok17_len hok hbest.1.1
            rw [HN.out] at hlen
            have HLN := Lib.hid hlen
            have hwr : wRight x.w = true := hok.2.2.2.2.1
            have HWR := Lib.hid hwr
            have HND := Lib.hid hbest.1.1.nodup
            have hroom := fun (j : Nat) (hj : j + 1 < r.length) => room17 (L := L) (ts := ts2) HZ.out HLB.out HOLD.out HTB.out (w := x.w) (a := f) (b := t) (c := co) (r := r) (by rw [ELM.out]; exact hbest.1.1) (j := j) hj
            have HRM := Lib.hid hroom
            clear hok hbest hlen hwr hroom HCS
            go_wp2_with fail
            go_loopw [16] (fun s W => ∃ (j : Nat) (ts3 : List Tb17), j + 1 ≤ N ∧ s = .int .i64 ((j + 1 : Nat) : Int) ∧ ts3.map (·.q) = qs ∧ (∀ m : Nat, (∀ i' : Nat, i' < j → (L.getD m default).f ≠ r.getD i' 0) → ts3[m]? = ts2[m]?) ∧ AccI W 0 A10 c10 r ∧ AccR ptc17 1 W w6.heap.size 34 A c1 qs ∧ Tabs17 P w1 W ts3) (fun s W => N - (intOf s).toNat)
            case atStart => exact ⟨0, ts2, by have := HLN.out; omega, rfl, HQS.out, fun m _ => rfl, AccR.lower R10.out (Nat.zero_le _), PT10.out, TB10.out⟩
            case round =>
              clear PT10 TB10 R10 HQS
              generalize wr = wx at *
              obtain ⟨j, ts3, hjN, rfl, hqs3, hsame, hr, hpt, htb⟩ := hrel
              have TB := Lib.hid htb
              have PT := Lib.hid hpt
              have RR := Lib.hid hr
              have HQ3 := Lib.hid hqs3
              have HSM := Lib.hid hsame
              clear hqs3 hsame hr hpt htb
              obtain ⟨j1, hj1⟩ : ∃ j1, j + 1 = j1 := ⟨_, rfl⟩
              rw [hj1] at hjN ⊢
              have HJ := Lib.hid hj1
              by_cases hlt : j1 < N
              · obtain ⟨g, tm, hfd, hgf, htm, hrm⟩ := HRM.out j (by rw [HN.out, hj1]; exact hlt)
                have htm3 : ts3[g]? = some tm := by
                  rw [HSM.out g (fun i' hi' e => ?_), htm]
                  rw [hgf] at e
                  have hjl : j < r.length := by rw [HN.out]; omega
                  have hil : i' < r.length := by omega
                  rw [List.getD_eq_getElem?_getD, List.getD_eq_getElem?_getD, List.getElem?_eq_getElem hjl, List.getElem?_eq_getElem hil] at e
                  exact (List.pairwise_iff_getElem.1 HND.out i' j hil hjl hi') (by simpa using e.symm)
                have hgk : g < k := by
                  have h := (List.getElem?_eq_some_iff.1 htm).1
                  rw [HOLD.out.len, ELM.out] at h
                  exact h
                have hrm2 : x.w.bw ≤ (lFree (ledgOf tm.sz (fams tm.l))).getD x.w.su.toNat 0 := hrm
                have hcode : (aAdmit tm.sz tm.l x.k x.w).2.2 = 0 := by
                  rw [fits_admits (HTB.out g tm htm) HWR.out (by have := HOLD.out.few g tm htm; omega) (HOLD.out.kin g tm htm), if_pos hrm2]
                have HTM := Lib.hid (And.intro htm3 (And.intro hgf hgk))
                have hqj : qs[g]? = some tm.q := by rw [← HQ3.out, List.getElem?_map, htm3]; rfl
                have HQJ := Lib.hid hqj
                have HCODE := Lib.hid hcode
                rw [hj1] at hfd
                obtain ⟨a1, ha1⟩ : ∃ a1, r.getD j 0 = a1 := ⟨_, rfl⟩
                obtain ⟨a2, ha2⟩ : ∃ a2, r.getD j1 0 = a2 := ⟨_, rfl⟩
                rw [ha1, ha2] at hfd
                obtain ⟨b6, o6, hA6, hb6, hc6⟩ := row_int (AccR.row RR.out) (by rw [HN.out]; omega)
                have d1 : wx.cell? ⟨b6, o6 + j, none⟩ = some (.int .i64 a1) := by
                  have hjl : j < r.length := by rw [HN.out]; omega
                  rw [hc6 j hjl, ← ha1, List.getD_eq_getElem?_getD, List.getElem?_eq_getElem hjl]; rfl
                have d2 : wx.cell? ⟨b6, o6 + j1, none⟩ = some (.int .i64 a2) := by
                  have hjl : j1 < r.length := by rw [HN.out]; omega
                  rw [hc6 j1 hjl, ← ha2, List.getD_eq_getElem?_getD, List.getElem?_eq_getElem hjl]; rfl
                obtain ⟨b8, o8, hA8, _, _⟩ := (AccR.row PT.out).cells ptc17_length (by have := PT0.out; omega)
                subst hA6
                subst hA8
                have HFC := Lib.hid (fun W (hW : Below wx.heap.size wx W) => rfind_calls a1 a2 p k c w1.heap.size L W (RL.out.below (TB.out.bel.trans (hW.mono TB.out.bel.size))) (by have := HM.out; omega))
                rw [hfd] at HFC
                have HSS := Lib.hid (fun W (hW : Below wx.heap.size wx W) => And.intro ((CB.out.below (TB.out.bel.trans (hW.mono TB.out.bel.size))).cell 1) (And.intro ((hW.cell (p := ⟨b6, o6 + j, none⟩) hb6).trans d1) ((hW.cell (p := ⟨b6, o6 + j1, none⟩) hb6).trans d2)))
                have i0 : (j1 : Int) - 1 = (j : Int) := by omega
                have iw : IntKind.i64.wrap (j : Int) = (j : Int) := by rw [IntKind.wrap_i64]; have := HLN.out; have := HN.out; omega
                have i1 : (j : Int) < (N : Int) := by omega
                have i2 : (j1 : Int) < (N : Int) := by omega
                have HLT := Lib.hid hlt
                clear hlt hjN hj1 hfd hgf htm hrm hrm2 htm3 hgk hcode hqj ha1 ha2 hb6 hc6 d1 d2
                go_wp2_with fail
                refine region_seq (fun W => Below wx.heap.size wx W) [(0, true), (1, true), (2, true), (3, true), (4, true), (5, true), (6, true), (7, true), (8, true), (9, true), (10, true), (11, false), (12, true)]
                  (by kernel_rfl) (by kernel_rfl) (by kernel_rfl) (by kernel_rfl) (fun _ _ _ _ _ h => h) (Below.refl _ _).drew ?_
                repeat
                  refine seq_pure (v := ?_) rfl (by rfl) (fun W hW => ?_) ?_
                  rotate_left
                  · obtain ⟨t0, t1, t2⟩ := HSS.out W hW
                    have t0' : W.cell? ⟨cb, 1, none⟩ = some (.slice p k c) := t0
                    clear hW t0
                    go_simp
                    with_reducible rfl
                  simp only [Act.put, List.setIfInBounds_toArray, List.set_cons_zero, List.set_cons_succ]
                refine seq_make rfl (by rfl) (fun K' hK' => ?_)
                go_simp
                ((with_reducible refine (HFC.out wx.drew (Below.refl _ _).drew).mono ?_))
                rintro e wy ⟨rfl, hwy⟩
                have TB2 := Lib.hid (show Tabs17 P w1 wy ts3 from by rw [hwy]; exact TB.out.below K (Below.refl _ _).drew)
                have PT2 := Lib.hid (show AccR ptc17 1 wy w6.heap.size 34 (some ⟨b8, o8, none⟩) c1 qs from by rw [hwy]; exact AccR.bel PT.out (Below.refl _ _).drew)
                have RR2 := Lib.hid (show AccI wy 0 (some ⟨b6, o6, none⟩) c10 r from by rw [hwy]; exact AccR.bel RR.out (Below.refl _ _).drew)
                have hS : Below wx.heap.size wx wy := by rw [hwy]; exact (Below.refl _ _).drew
                clear hwy
                go_simp
                refine hK' _ _ (fun W => Below wx.heap.size wx W) (fun W h => h) hS ?_
                clear hK' K' hS
                repeat
                  refine seq_pure (v := ?_) rfl (by rfl) (fun W hW => ?_) ?_
                  rotate_left
                  · clear hW
                    go_simp
                    with_reducible rfl
                  simp only [Act.put, List.setIfInBounds_toArray, List.set_cons_zero, List.set_cons_succ]
                refine seq_done ?_
                clear TB PT RR HFC HSS i0 iw i1
                have CB2 := Lib.hid (CB.out.below TB2.out.bel)
                obtain ⟨S1, hp1, hK1⟩ := (TB2.out.below K (Below.refl _ _).drew).at K HTM.out.1
                have hd := K.adm hp1 x.k x.w HX.out.1 HX.out.2
                unfold Adt14 at hd
                rw [HCODE.out] at hd
                have HDD := Lib.hid hd
                have HKK := Lib.hid hK1
                have HS2 := Lib.hid (fun W (h : Blk W cb 33 (cst17 n p k c pa ma ca f t x) ∧ AccR ptc17 1 W w6.heap.size 34 (some ⟨b8, o8, none⟩) c1 qs) => And.intro h.1 (ptr17_cell h.2 HQJ.out))
                have d0 : decide ((g : Int) < 0) = false := by simp
                have i3 : (g : Int) < (k : Int) := by have := HTM.out.2.2; omega
                clear hd hp1 hK1
                go_wp2_with fail
                refine region_seq (fun W => Blk W cb 33 (cst17 n p k c pa ma ca f t x) ∧ AccR ptc17 1 W w6.heap.size 34 (some ⟨b8, o8, none⟩) c1 qs) [(0, true), (1, true), (2, true), (3, true), (4, true), (5, true), (6, true), (7, true), (8, true), (9, true), (10, false), (11, true), (12, true), (13, true), (14, true), (15, true)]
                  (by kernel_rfl) (by kernel_rfl) (by kernel_rfl) (by kernel_rfl) (fun _ _ _ _ _ h => h) ⟨CB2.out, PT2.out⟩ ?_
                repeat
                  refine seq_pure (v := ?_) rfl (by rfl) (fun W hW => ?_) ?_
                  rotate_left
                  · obtain ⟨u0, u1⟩ := HS2.out W hW
                    have x2 : W.cell? ⟨cb, 7, none⟩ = some (.int .i64 x.k.tail) := (u0).cell 7
                    have x3 : W.cell? ⟨cb, 8, none⟩ = some (.int .i64 x.k.tun) := (u0).cell 8
                    have x4 : W.cell? ⟨cb, 9, none⟩ = some (.int .i64 x.k.head) := (u0).cell 9
                    have x5 : W.cell? ⟨cb, 10, none⟩ = some (.int .i64 x.k.lsp) := (u0).cell 10
                    have x6 : W.cell? ⟨cb, 11, none⟩ = some (.int .u64 (x.w.bw : Int)) := (u0).cell 11
                    have x7 : W.cell? ⟨cb, 12, none⟩ = some (.int .i64 x.w.su) := (u0).cell 12
                    have x8 : W.cell? ⟨cb, 13, none⟩ = some (.int .i64 x.w.ho) := (u0).cell 13
                    have x9 : W.cell? ⟨cb, 14, none⟩ = some (.int .u32 (x.w.an : Int)) := (u0).cell 14
                    have x10 : W.cell? ⟨cb, 15, none⟩ = some (.int .u32 (x.w.al : Int)) := (u0).cell 15
                    have x11 : W.cell? ⟨cb, 16, none⟩ = some (.int .u32 (x.w.no : Int)) := (u0).cell 16
                    clear hW u0
                    go_simp
                    with_reducible rfl
                  simp only [Act.put, List.setIfInBounds_toArray, List.set_cons_zero, List.set_cons_succ]
                refine seq_make rfl (by rfl) (fun K' hK' => ?_)
                go_simp
                ((with_reducible refine HDD.out.mono ?_))
                rintro e v9 ⟨S9, A9, c9, rfl, pp, mv, _⟩
                have hk9 := HKK.out v9 S9 _ pp mv
                have TD := hk9.2
                have TB3 := Lib.hid hk9.1
                have PT3 := Lib.hid (TD.acc (AccR.bel PT2.out (Below.refl _ _).drew) (by decide) (by decide))
                have RR3 := Lib.hid (show AccI v9 0 (some ⟨b6, o6, none⟩) c10 r from TD.acc (AccR.bel RR2.out (Below.refl _ _).drew) (by decide) (by decide))
                have CB3 := Lib.hid (TD.blk (CB2.out.below (Below.refl _ _).drew) (by decide) (by decide))
                have HQ9 := Lib.hid (show (ts3.set g ⟨tm.q, tm.sz, (aAdmit tm.sz tm.l x.k x.w).1⟩).map (·.q) = qs from by rw [List.map_set]; exact (set_id17 (by rw [List.getElem?_map, HTM.out.1]; rfl)).trans HQ3.out)
                have HSM9 := Lib.hid (show ∀ m : Nat, (∀ i' : Nat, i' < j1 → (L.getD m default).f ≠ r.getD i' 0) → (ts3.set g ⟨tm.q, tm.sz, (aAdmit tm.sz tm.l x.k x.w).1⟩)[m]? = ts2[m]? from fun m hm => by
                  rw [List.getElem?_set]
                  by_cases e : g = m
                  · exact absurd HTM.out.2.1 (by rw [e]; exact hm j (by have := HJ.out; omega))
                  · rw [if_neg e]
                    exact HSM.out m (fun i' hi' => hm i' (by have := HJ.out; omega)))
                clear hk9 TD pp mv TB2 PT2 RR2 CB2 HDD HKK
                go_simp
                refine hK' _ _ (fun W => Blk W cb 33 (cst17 n p k c pa ma ca f t x) ∧ AccR ptc17 1 W w6.heap.size 34 (some ⟨b8, o8, none⟩) c1 qs) (fun W h => h) ⟨CB3.out, PT3.out⟩ ?_
                clear hK' K'
                repeat
                  refine seq_pure (v := ?_) rfl (by rfl) (fun W hW => ?_) ?_
                  rotate_left
                  · clear hW
                    go_simp
                    with_reducible rfl
                  simp only [Act.put, List.setIfInBounds_toArray, List.set_cons_zero, List.set_cons_succ]
                refine seq_done ?_
                have hn16 := HLN.out.2
                go_wp2_with fail
                go_roundw
                case rel => exact ⟨j1, _, by have := HLT.out; omega, by first | rfl | (simp; omega), HQ9.out, HSM9.out, RR3.out, PT3.out, TB3.out⟩
                case measure => have := HLT.out; simp [intOf]; omega
              · obtain rfl : j1 = N := by omega
                have i1 : ¬ (j1 : Int) < (j1 : Int) := by omega
                have i2 : decide (2 ≤ (j1 : Int)) = true := by have := HLN.out.1; simp; omega
                have i3 : 2 ≤ (j1 : Int) := by have := HLN.out.1; omega
                clear hlt hjN hj1
                go_wp2_with fail
                go_ret
                exact ⟨by simp, B1.out.trans (TB.out.bel.mono B1.out.size)⟩
end Go.Proofs.YtjflbfianncpfaaGreat
