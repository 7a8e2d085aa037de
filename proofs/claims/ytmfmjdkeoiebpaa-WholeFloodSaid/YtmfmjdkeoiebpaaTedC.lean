/-
  The document's Apply (viaductref15). Condition: eight numbers of 64 bits each; fewer than 2^30 adverts.
-/
import Derived.Test.YtmfmjdkeoiebpaaTedB
namespace Go.Proofs.Ytmfmjdkeoiebpaa
set_option maxRecDepth 100000
set_option linter.unusedVariables false
open Go.RowKit

theorem take_snoc15 {α : Type} {l : List α} {i : Nat} {x : α} (h : l[i]? = some x) : l.take (i + 1) = l.take i ++ [x] := by
  rw [List.take_add_one, h]; rfl
theorem accr_ne15 {α : Type} {W : World} {enc : α → List Value} {k base q : Nat} {T T' : TypeId} {A : Option Addr} {cc : Nat} {l : List α} {vs : List Value} (h : AccR enc k W base T A cc l) (hb : Blk W q T' vs) (hne : q < base) : ∀ x, blk A = some x → x ≠ q := fun x hx e => by
  have := (h.ge hx).1
  omega
def ApplyP15 (a : Option Addr) (n c : Nat) (l : List Ad) (x : Ad) (w : World) (e : Ending) (w' : World) : Prop := Below w.heap.size w w' ∧
  (((bApply l x).2.1 = false ∧ e = .returned (.tuple #[.slice a n c, .bool false, .int .i64 (bApply l x).2.2])) ∨
    ((bApply l x).2.1 = true ∧ ∃ A c', e = .returned (.tuple #[.slice A n c', .bool true, .int .i64 0]) ∧ Acc15 w' w.heap.size A c' (bApply l x).1))
theorem bApply_bad {l : List Ad} {x : Ad} (h : vldA x = false) : bApply l x = (l, false, 2) := by unfold bApply; rw [if_neg (by rw [h]; exact Bool.false_ne_true)]
theorem bApply_none {l : List Ad} {x : Ad} (h : vldA x = true) (hp : plc l (ends15 x.k) < 0) : bApply l x = (l, false, 8) := by
  unfold bApply
  rw [if_pos h]
  unfold plc at hp
  cases hb : bpl l (ends15 x.k) with
  | none => rfl
  | some k => rw [hb] at hp; simp only at hp; omega
theorem bApply_at {l : List Ad} {x : Ad} (h : vldA x = true) (hp : ¬ plc l (ends15 x.k) < 0) : ∃ k : Nat, ∃ hk : k < l.length, plc l (ends15 x.k) = (k : Int) ∧ bApply l x = if x.q ≤ l[k].q then (l, false, 0) else (l.set k x, true, 0) := by
  unfold plc at hp ⊢
  cases hb : bpl l (ends15 x.k) with
  | none => rw [hb] at hp; simp at hp
  | some k =>
    obtain ⟨hk, _, _⟩ := List.findIdx?_eq_some_iff_getElem.1 hb
    refine ⟨k, hk, rfl, ?_⟩
    unfold bApply
    rw [if_pos h, hb]
    simp only [List.getD_eq_getElem?_getD, List.getElem?_eq_getElem hk, Option.getD_some]
theorem set_take_same {l : List Ad} {k i : Nat} {x : Ad} (hi : i < l.length) (h : i = k) : (l.set k x).take (i + 1) = (l.set k x).take i ++ [x] := by
  subst h
  exact take_snoc15 (by rw [List.getElem?_set, if_pos rfl, if_pos hi])
theorem set_take_other {l : List Ad} {k i : Nat} {x y : Ad} (hy : l[i]? = some y) (h : i ≠ k) : (l.set k x).take (i + 1) = (l.set k x).take i ++ [y] :=
  take_snoc15 (by rw [List.getElem?_set, if_neg (fun e => h e.symm)]; exact hy)

set_option maxHeartbeats 6400000 in
theorem rapply15_calls (a : Option Addr) (n c : Nat) (l : List Ad) (x : Ad) (hx : AdOk x) (w : World) (hr : Row adc w w.heap.size a n l) (hn : n ≤ 1073741824) : Calls Try.prog 17 #[.slice a n c, .agg (adc x).toArray] w (ApplyP15 a n c l x w) := by
  have HR := Lib.hid hr
  have HN := Lib.hid (And.intro hr.1 hn)
  have hm := fun W => rmay15_calls x hx W
  unfold May15 at hm
  have hp := fun (W : World) (hW : Below w.heap.size w W) => rplace15_calls a n c W.heap.size l x.k.f x.k.t W (show Row adc W W.heap.size a n l from (hr.below hW).more hW.size) (by omega)
  obtain ⟨d, hd⟩ : ∃ d, vldA x = d := ⟨_, rfl⟩
  obtain ⟨p, hpl⟩ : ∃ p, plc l (x.k.f, x.k.t) = p := ⟨_, rfl⟩
  rw [hd] at hm
  rw [hpl] at hp
  have HM := Lib.hid hm
  have HP := Lib.hid hp
  have HD := Lib.hid hd
  have HPL := Lib.hid (show plc l (ends15 x.k) = p from hpl)
  clear hr hm hp hd hpl hx
  unfold ApplyP15
  go_enter Try.func17, Try.ntmps17
  go_upto_region 1 with fail
  have HB := Lib.hid (Blk.new w 42 (adc x))
  have HL := Lib.hid (bel_new (Below.refl w.heap.size w) (.cells (adc x).toArray 42))
  generalize (w.alloc (.cells (adc x).toArray 42)) = w1 at *
  go_wp2_with (refine step_load (o := ⟨some 10, _, _, _, _, _⟩) rfl rfl rfl HB.out Try.underlying42 rfl infoAdS15 ?_)
  ((with_reducible refine (HM.out w1).mono ?_))
  rintro e w2 ⟨rfl, hb⟩
  have HB2 := Lib.hid (HB.out.below hb)
  have HL2 := Lib.hid (HL.out.trans (hb.mono HL.out.size))
  clear hb HB HL HM
  cases d with
  | false =>
    go_wp2_with fail
    refine bodyPost_ret (v := .tuple #[.slice a n c, .bool false, .int .i64 2]) (by simp [results, Try.results17, go_sem]) rfl ?_
    refine ⟨HL2.out, .inl ?_⟩
    rw [bApply_bad HD.out]
    exact ⟨rfl, rfl⟩
  | true =>
    have k0 : w2.cell? ⟨w.heap.size, 0, none⟩ = some (.int .i64 x.k.f) := HB2.out.cell 0
    have k1 : w2.cell? ⟨w.heap.size, 1, none⟩ = some (.int .i64 x.k.t) := HB2.out.cell 1
    go_wp2_with fail
    ((with_reducible refine (HP.out w2 HL2.out).mono ?_))
    rintro e w3 ⟨rfl, rfl⟩
    clear k0 k1 HP
    by_cases hp0 : p < 0
    · go_wp2_with fail
      refine bodyPost_ret (v := .tuple #[.slice a n c, .bool false, .int .i64 8]) (by simp [results, Try.results17, go_sem]) rfl ?_
      refine ⟨HL2.out, .inl ?_⟩
      rw [bApply_none HD.out (by rw [HPL.out]; exact hp0)]
      exact ⟨rfl, rfl⟩
    · obtain ⟨k, hk, he, hA⟩ := bApply_at HD.out (l := l) (by rw [HPL.out]; exact hp0)
      have hpk : p = (k : Int) := HPL.out.symm.trans he
      subst hpk
      have hkn : k < n := by rw [← HN.out.1]; exact hk
      obtain ⟨b, o, y, ea, hy, hbl, hcc⟩ := cells15 adc_length HR.out hkn
      have hlk : l[k] = y := by
        rw [List.getElem?_eq_getElem hk] at hy
        injection hy
      rw [hlk] at hA
      have HA := Lib.hid hA
      have k1 : (k : Int) < (n : Int) := by omega
      have hcs : ∀ W, Below w3.heap.size w3 W → W.cell? ⟨w.heap.size, 5, none⟩ = some (.int .i64 x.q) ∧ W.cell? ⟨b, o + k * 15 + 5, none⟩ = some (.int .i64 y.q) := fun W hW =>
        ⟨(HB2.out.below hW).cell 5, hcc W (HL2.out.trans (hW.mono HL2.out.size)) 5 _ rfl⟩
      have HCS := Lib.hid hcs
      have HK := Lib.hid hkn
      subst ea
      clear hcs hcc hy hbl hlk hA he hk hp0 hkn
      go_wp2_with fail
      refine region_seq (fun W => Below w3.heap.size w3 W) [(0, true), (1, true), (2, true), (3, true), (4, true), (5, true), (6, true), (7, true)] (by kernel_rfl) (by kernel_rfl) (by kernel_rfl) (by kernel_rfl) (fun _ _ _ _ _ h => h) (Below.refl _ _).drew ?_
      repeat
        refine seq_pure (v := ?_) rfl (by rfl) (fun W hW => ?_) ?_
        rotate_left
        · obtain ⟨c0, c1⟩ := HCS.out W hW
          clear hW
          go_simp
          with_reducible rfl
        simp only [Act.put, List.setIfInBounds_toArray, List.set_cons_zero, List.set_cons_succ]
      refine seq_done ?_
      have HB3 := Lib.hid (show Blk w3.drew w.heap.size 42 (adc x) from HB2.out.drew)
      have HL3 := Lib.hid (show Below w.heap.size w w3.drew from HL2.out.drew)
      clear HB2 HL2 HCS
      generalize w3.drew = w4 at *
      by_cases hq : x.q ≤ y.q
      · go_wp2_with fail
        refine bodyPost_ret (v := .tuple #[.slice (some ⟨b, o, none⟩) n c, .bool false, .int .i64 0]) (by simp [results, Try.results17, go_sem]) rfl ?_
        refine ⟨HL3.out, .inl ?_⟩
        rw [HA.out, if_pos hq]
        exact ⟨rfl, rfl⟩
      · have hA := HA.out
        rw [if_neg hq] at hA
        have HA2 := Lib.hid hA
        clear hA HA
        go_upto_region 8 with fail
        clear hq
        go_wp2_with fail
        go_loopw [8, 9] (fun s t W => ∃ (i c1 : Nat) (A : Option Addr), s = .slice A i c1 ∧ t = .int .i64 (i : Int) ∧ i ≤ n ∧ Acc15 W (w.heap.size + 1) A c1 ((l.set k x).take i) ∧ Blk W w.heap.size 42 (adc x) ∧ Below w.heap.size w W) (fun s t W => n - (intOf t).toNat)
        case atStart => exact ⟨0, 0, none, rfl, rfl, Nat.zero_le _, AccR.nil _ _ _, HB3.out, HL3.out⟩
        case round =>
          obtain ⟨i, c1, A, rfl, rfl, hin, ha, hkb, hb⟩ := hrel
          have HAC := Lib.hid ha
          have HKB := Lib.hid hkb
          have HBL := Lib.hid hb
          have HSZ := Lib.hid (show w.heap.size + 1 ≤ wr.heap.size from hkb.lt)
          clear ha hkb hb HB3 HL3
          by_cases hin2 : i < n
          · have i1 : (i : Int) < (n : Int) := by omega
            have HII := Lib.hid hin2
            have hil : i < l.length := by rw [HN.out.1]; exact hin2
            have hlen : ((l.set k x).take i).length = i := by rw [List.length_take, List.length_set]; omega
            have HLE := Lib.hid hlen
            by_cases hik : i = k
            · have hft := set_take_same (x := x) hil hik
              have HFT := Lib.hid hft
              have d1 : decide ((i : Int) = (k : Int)) = true := by simp [hik]
              have d2 : (i : Int) = (k : Int) := by omega
              have HIK := Lib.hid hik
              clear hft hil hin2 hin hlen hik
              have y0 : wr.cell? ⟨w.heap.size, 0, none⟩ = some (.int .i64 x.k.f) := HKB.out.cell 0
              have y1 : wr.cell? ⟨w.heap.size, 1, none⟩ = some (.int .i64 x.k.t) := HKB.out.cell 1
              have y2 : wr.cell? ⟨w.heap.size, 2, none⟩ = some (.int .u64 x.k.c) := HKB.out.cell 2
              have y3 : wr.cell? ⟨w.heap.size, 3, none⟩ = some (.int .i64 x.k.m) := HKB.out.cell 3
              have y4 : wr.cell? ⟨w.heap.size, 4, none⟩ = some (.int .u32 x.k.g) := HKB.out.cell 4
              have y5 : wr.cell? ⟨w.heap.size, 5, none⟩ = some (.int .i64 x.q) := HKB.out.cell 5
              have y6 : wr.cell? ⟨w.heap.size, 6, none⟩ = some (.bool x.up) := HKB.out.cell 6
              have y7 : wr.cell? ⟨w.heap.size, 7, none⟩ = some (.int .u64 ((x.f.getD 0 0 : Nat) : Int)) := HKB.out.cell 7
              have y8 : wr.cell? ⟨w.heap.size, 8, none⟩ = some (.int .u64 ((x.f.getD 1 0 : Nat) : Int)) := HKB.out.cell 8
              have y9 : wr.cell? ⟨w.heap.size, 9, none⟩ = some (.int .u64 ((x.f.getD 2 0 : Nat) : Int)) := HKB.out.cell 9
              have y10 : wr.cell? ⟨w.heap.size, 10, none⟩ = some (.int .u64 ((x.f.getD 3 0 : Nat) : Int)) := HKB.out.cell 10
              have y11 : wr.cell? ⟨w.heap.size, 11, none⟩ = some (.int .u64 ((x.f.getD 4 0 : Nat) : Int)) := HKB.out.cell 11
              have y12 : wr.cell? ⟨w.heap.size, 12, none⟩ = some (.int .u64 ((x.f.getD 5 0 : Nat) : Int)) := HKB.out.cell 12
              have y13 : wr.cell? ⟨w.heap.size, 13, none⟩ = some (.int .u64 ((x.f.getD 6 0 : Nat) : Int)) := HKB.out.cell 13
              have y14 : wr.cell? ⟨w.heap.size, 14, none⟩ = some (.int .u64 ((x.f.getD 7 0 : Nat) : Int)) := HKB.out.cell 14
              obtain ⟨A8, c8, w8, r8, a8, g8⟩ := acc15_push HAC.out x HSZ.out (by rw [HLE.out]; have := HN.out.2; have := HII.out; omega)
              rw [HLE.out] at r8
              have B8 := Lib.hid (show Below w.heap.size w w8 from belr_acc HBL.out (AccR.lower HAC.out (by omega)) g8)
              have A8' := Lib.hid a8
              have K8 := Lib.hid (show Blk w8 w.heap.size 42 (adc x) from HKB.out.same (g8.block _ HKB.out.lt (fun e => accr_ne15 HAC.out HKB.out (by omega) w.heap.size e.symm rfl)))
              have R8 := Lib.hid r8
              clear r8 a8 g8
              go_wp2_with (at_builtin; refine step_append rfl rfl rfl rfl R8.out ?_)
              go_roundw
              case rel => exact ⟨i + 1, c8, A8, rfl, by first | rfl | (simp; omega), HII.out, by rw [HFT.out]; exact A8'.out, K8.out, B8.out⟩
              case measure => have := HII.out; simp [intOf]; omega
            · obtain ⟨b', o', z, ea, hz, _, hc⟩ := cells15 adc_length HR.out hin2
              injection ea with ea
              injection ea with eb eo
              subst eb
              subst eo
              have hft := set_take_other (x := x) hz hik
              have HFT := Lib.hid hft
              have hce := hc wr HBL.out
              have HCE := Lib.hid hce
              have d2 : ¬ (i : Int) = (k : Int) := by omega
              clear hft hil hin2 hin hlen hik hc hz hce
              have y0 : wr.cell? ⟨b, o + i * 15, none⟩ = some (.int .i64 z.k.f) := HCE.out 0 _ rfl
              have y1 : wr.cell? ⟨b, o + i * 15 + 1, none⟩ = some (.int .i64 z.k.t) := HCE.out 1 _ rfl
              have y2 : wr.cell? ⟨b, o + i * 15 + 2, none⟩ = some (.int .u64 z.k.c) := HCE.out 2 _ rfl
              have y3 : wr.cell? ⟨b, o + i * 15 + 3, none⟩ = some (.int .i64 z.k.m) := HCE.out 3 _ rfl
              have y4 : wr.cell? ⟨b, o + i * 15 + 4, none⟩ = some (.int .u32 z.k.g) := HCE.out 4 _ rfl
              have y5 : wr.cell? ⟨b, o + i * 15 + 5, none⟩ = some (.int .i64 z.q) := HCE.out 5 _ rfl
              have y6 : wr.cell? ⟨b, o + i * 15 + 6, none⟩ = some (.bool z.up) := HCE.out 6 _ rfl
              have y7 : wr.cell? ⟨b, o + i * 15 + 7, none⟩ = some (.int .u64 ((z.f.getD 0 0 : Nat) : Int)) := HCE.out 7 _ rfl
              have y8 : wr.cell? ⟨b, o + i * 15 + 8, none⟩ = some (.int .u64 ((z.f.getD 1 0 : Nat) : Int)) := HCE.out 8 _ rfl
              have y9 : wr.cell? ⟨b, o + i * 15 + 9, none⟩ = some (.int .u64 ((z.f.getD 2 0 : Nat) : Int)) := HCE.out 9 _ rfl
              have y10 : wr.cell? ⟨b, o + i * 15 + 10, none⟩ = some (.int .u64 ((z.f.getD 3 0 : Nat) : Int)) := HCE.out 10 _ rfl
              have y11 : wr.cell? ⟨b, o + i * 15 + 11, none⟩ = some (.int .u64 ((z.f.getD 4 0 : Nat) : Int)) := HCE.out 11 _ rfl
              have y12 : wr.cell? ⟨b, o + i * 15 + 12, none⟩ = some (.int .u64 ((z.f.getD 5 0 : Nat) : Int)) := HCE.out 12 _ rfl
              have y13 : wr.cell? ⟨b, o + i * 15 + 13, none⟩ = some (.int .u64 ((z.f.getD 6 0 : Nat) : Int)) := HCE.out 13 _ rfl
              have y14 : wr.cell? ⟨b, o + i * 15 + 14, none⟩ = some (.int .u64 ((z.f.getD 7 0 : Nat) : Int)) := HCE.out 14 _ rfl
              obtain ⟨A8, c8, w8, r8, a8, g8⟩ := acc15_push HAC.out z HSZ.out (by rw [HLE.out]; have := HN.out.2; have := HII.out; omega)
              rw [HLE.out] at r8
              have B8 := Lib.hid (show Below w.heap.size w w8 from belr_acc HBL.out (AccR.lower HAC.out (by omega)) g8)
              have A8' := Lib.hid a8
              have K8 := Lib.hid (show Blk w8 w.heap.size 42 (adc x) from HKB.out.same (g8.block _ HKB.out.lt (fun e => accr_ne15 HAC.out HKB.out (by omega) w.heap.size e.symm rfl)))
              have R8 := Lib.hid r8
              clear r8 a8 g8
              go_wp2_with (at_builtin; refine step_append rfl rfl rfl rfl R8.out ?_)
              go_roundw
              case rel => exact ⟨i + 1, c8, A8, rfl, by first | rfl | (simp; omega), HII.out, by rw [HFT.out]; exact A8'.out, K8.out, B8.out⟩
              case measure => have := HII.out; simp [intOf]; omega
          · obtain rfl : i = n := by omega
            have i1 : ¬ (i : Int) < (i : Int) := by omega
            clear hin hin2
            go_wp2_with fail
            refine bodyPost_ret (v := .tuple #[.slice A i c1, .bool true, .int .i64 0]) (by simp [results, Try.results17, go_sem]) rfl ?_
            refine ⟨HBL.out, .inr ?_⟩
            rw [HA2.out]
            refine ⟨rfl, A, c1, rfl, ?_⟩
            have := AccR.lower HAC.out (show w.heap.size ≤ w.heap.size + 1 by omega)
            rwa [List.take_of_length_le (by rw [List.length_set, HN.out.1]; exact Nat.le_refl _)] at this
end Go.Proofs.Ytmfmjdkeoiebpaa
