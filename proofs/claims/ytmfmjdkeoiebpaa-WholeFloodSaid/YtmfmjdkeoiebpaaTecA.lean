/-
  Contracts of package tedb: bit, mayBeSeq, falls, May. Condition: eight numbers of 64 bits; Seq as large as its type allows.
-/
import Derived.Test.YtmfmjdkeoiebpaaTedE
import Derived.Test.YtmfmjdkeoiebpaaGraphB
namespace Go.Proofs.Ytmfmjdkeoiebpaa
set_option maxRecDepth 100000
set_option linter.unusedVariables false
open Go.RowKit

/-- A whole array out of the midst of a struct, where it is wanted. -/
theorem step_load_at_want {P : Program} {w : World} {ops : Array Oper} {rest : List Oper} {o : Oper} {a : Act} {Q : Exit → Act → World → Prop} {x : Operand} {ty : TypeId} {g k : Nat} {vs : List Value} {d : TypeDesc}
    (hw : Region.wanted o (yielded ops a.tmps) = true) (ho : o.op = .load ty x) (hx : a.eval x = .pointer (some ⟨g, k, none⟩)) (hb : w.rangeAt g k vs) (hu : P.underlying ty = some d) (hd : d.isRow = true) (hi : (P.info? ty).map (·.size) = some vs.length)
    (h : wpList P ops Q rest (a.put o.dst (.agg vs.toArray)) w) : wpList P ops Q (o :: rest) a w := by
  refine wpList_step fun K hK => ?_
  rw [if_pos hw]
  exact wp_load_mid ty x ho g k hx vs d hb hu hd hi (hK _ _ h)
/-- A number as large as an int allows. -/
def I15 (q : Int) : Prop := -9223372036854775808 ≤ q ∧ q ≤ 9223372036854775807
theorem infoF15 : (Try.prog.info? 38).map (·.size) = some 8 := by kernel_rfl
theorem bit15_calls (d : Bool) (w : World) : Calls Try.prog 54 #[.bool d] w fun e w' => e = .returned (.int .u64 ((bnum d : Nat) : Int)) ∧ w = w' := by
  cases d with
  | true =>
    go_enter Try.func54, Try.ntmps54
    go_wp2_with fail
    go_ret
    exact ⟨rfl, rfl⟩
  | false =>
    go_enter Try.func54, Try.ntmps54
    go_wp2_with fail
    go_ret
    exact ⟨rfl, rfl⟩
def seqB (q : Int) : Bool := decide (0 ≤ q ∧ q ≤ 4294967295)
theorem seq15_calls (q : Int) (hq : I15 q) (w : World) : Calls Try.prog 38 #[.int .i64 q] w fun e w' => e = .returned (.bool (seqB q)) ∧ w = w' := by
  obtain ⟨h1, h2⟩ := hq
  have hw : IntKind.u64.wrap q = if q < 0 then q + 18446744073709551616 else q := by
    unfold IntKind.wrap
    simp [IntKind.signed, IntKind.bits]
    split <;> omega
  by_cases h0 : q < 0
  · rw [if_pos h0] at hw
    have hd : seqB q = false := by unfold seqB; rw [decide_eq_false_iff_not]; omega
    have hl : ¬ q + 18446744073709551616 ≤ 4294967295 := by omega
    have HD := Lib.hid hd
    clear hd h0 h1 h2
    go_enter Try.func38, Try.ntmps38
    go_wp2_with fail
    go_ret
    exact ⟨by rw [HD.out]; rfl, rfl⟩
  · rw [if_neg h0] at hw
    have hd : seqB q = decide (q ≤ 4294967295) := by
      unfold seqB
      rw [decide_eq_decide]; omega
    have HD := Lib.hid hd
    clear hd
    have h0' : 0 ≤ q := by omega
    clear h0 h1
    go_enter Try.func38, Try.ntmps38
    go_wp2_with fail
    go_ret
    exact ⟨by rw [HD.out]; rfl, rfl⟩
theorem idx15 (l : List Nat) {i : Nat} (hi : i < 8) (W : World) : (Instr.index 38 (.agg (fr15 l).toArray) (.int .i64 (i : Int))).run Try.prog W = .ok (.int .u64 ((l.getD i 0 : Nat) : Int)) W := by
  rcases i with _ | _ | _ | _ | _ | _ | _ | _ | i
  iterate 8 kernel_rfl
  omega
set_option maxHeartbeats 3200000 in
theorem falls15c_calls (c : Int) (l : List Nat) (hl : l.length = 8) (w : World) : Calls Try.prog 39 #[.int .u64 c, .agg (fr15 l).toArray] w (Yes15 (falls c l) w) := by
  unfold Yes15
  have HLN := Lib.hid hl
  have hb := Blk.new w 38 (fr15 l)
  have HB := Lib.hid hb
  have HL := Lib.hid (bel_new (Below.refl w.heap.size w) (.cells (fr15 l).toArray 38))
  have HI := Lib.hid (show (Try.prog.info? 38).map (·.size) = some (fr15 l).length from infoF15)
  clear hb hl
  go_enter Try.func39, Try.ntmps39
  go_upto_region 1 with fail
  generalize (w.alloc (.cells (fr15 l).toArray 38)) = w1 at *
  go_wp2_with (refine step_load (o := ⟨some 7, _, _, _, _, _⟩) rfl rfl rfl HB.out Try.underlying38 rfl HI.out ?_)
  go_loopw [0, 8] (fun s t W => ∃ i : Nat, i ≤ 8 ∧ (∀ j, j < i → ((l.getD j 0 : Nat) : Int) ≤ lst15 c l j) ∧ s = .int .u64 (lst15 c l i) ∧ t = .int .i64 (i : Int) ∧ W = w1) (fun s t W => 8 - (intOf t).toNat)
  case atStart => exact ⟨0, by omega, fun j hj => absurd hj (by omega), rfl, rfl, rfl⟩
  case round =>
    obtain ⟨i, hi, hs, rfl, rfl, rfl⟩ := hrel
    have HSS := Lib.hid hs
    clear hs
    by_cases hi8 : i < 8
    · have i1 : (i : Int) < 8 := by omega
      have hx := idx15 l hi8 wr
      have he : lst15 c l (i + 1) = ((l.getD i 0 : Nat) : Int) := by simp [lst15]
      have HE := Lib.hid he
      obtain ⟨v, hv⟩ : ∃ v, ((l.getD i 0 : Nat) : Int) = v := ⟨_, rfl⟩
      obtain ⟨u, hu⟩ : ∃ u, lst15 c l i = u := ⟨_, rfl⟩
      rw [hv] at hx
      rw [hu]
      have HV := Lib.hid hv
      have HU := Lib.hid hu
      clear he hv hu
      by_cases hgt : u < v
      · go_wp2_with fail
        go_ret
        refine ⟨?_, HL.out⟩
        congr 1
        symm
        have hf : falls c l = false := by
          rw [← Bool.not_eq_true, falls_iff]
          intro h
          have := h i (by rw [HLN.out]; exact hi8)
          rw [HV.out, HU.out] at this
          omega
        rw [hf]; rfl
      · have HG := Lib.hid hgt
        go_wp2_with fail
        go_roundw
        case rel =>
          refine ⟨i + 1, by omega, fun j hj => ?_, by rw [HE.out, HV.out], by first | rfl | (simp; omega), by first | rfl | trivial⟩
          rcases Nat.lt_or_ge j i with h | h
          · exact HSS.out j h
          · obtain rfl : j = i := by omega
            rw [HV.out, HU.out]
            have := HG.out
            omega
        case measure => simp [intOf]; omega
    · obtain rfl : i = 8 := by omega
      clear hi hi8
      go_wp2_with fail
      go_ret
      refine ⟨?_, HL.out⟩
      congr 1
      symm
      have hf : falls c l = true := (falls_iff l c).2 (fun j hj => HSS.out j (by rw [HLN.out] at hj; exact hj))
      rw [hf]; rfl
theorem chk_one (x : Lk) : chk 16 [x] = if vld 16 x = true then 0 else 2 := by
  simp [chk, netB]
theorem vldH_eq (a : Ad) : vldH a = (vld 16 a.k && seqB a.q) := by
  unfold vldH vld gwn seqB
  rw [Bool.eq_iff_iff]
  simp only [Bool.and_eq_true, decide_eq_true_eq, Bool.not_eq_true', beq_eq_false_iff_ne]
  constructor
  · rintro ⟨h1, h2, h3, h4, h5, h6, h7, h8, h9⟩
    exact ⟨⟨⟨⟨⟨h1, by omega⟩, h3, by omega⟩, h5⟩, h6, h7⟩, h8, h9⟩
  · rintro ⟨⟨⟨⟨⟨h1, h2⟩, h3, h4⟩, h5⟩, h6, h7⟩, h8, h9⟩
    exact ⟨h1, by omega, h3, by omega, h5, h6, h7, h8, h9⟩
theorem may_eq (a : Ad) : vldA a = (vld 16 a.k && (seqB a.q && falls a.k.c a.f)) := by unfold vldA; rw [vldH_eq, Bool.and_assoc]
theorem adc_rangeF (k : Lk) (q : Int) (up : Bool) {l : List Nat} (hl : l.length = 8) {w : World} {g : Nat} {T : TypeId} (h : Blk w g T (adc ⟨k, q, up, l⟩)) : w.rangeAt g 7 (fr15 l) := fun j v hv => by
  have hj : j < 8 := (List.getElem?_eq_some_iff.1 hv).1
  rw [h.cell (7 + j), adc_free _ hj]
  rw [← hv]
  rcases j with _ | _ | _ | _ | _ | _ | _ | _ | j
  iterate 8 rfl
  omega
set_option maxHeartbeats 3200000 in
theorem may15c_calls (a : Ad) (ha : AdOk a) (hq : I15 a.q) (w : World) : Calls Try.prog 21 #[.agg (adc a).toArray] w (Yes15 (vldA a) w) := by
  have hm := may_eq a
  obtain ⟨k, q, up, l⟩ := a
  obtain ⟨f, t, c, m, g⟩ := k
  unfold Yes15
  simp only at hm hq
  obtain ⟨R, hR⟩ : ∃ R, vldA ⟨⟨f, t, c, m, g⟩, q, up, l⟩ = R := ⟨_, rfl⟩
  rw [hR] at hm ⊢
  have HM := Lib.hid hm
  have hlen := ha.len
  simp only at hlen
  have hb := Blk.new w 40 (adc ⟨⟨f, t, c, m, g⟩, q, up, l⟩)
  have HL := Lib.hid (bel_new (Below.refl w.heap.size w) (.cells (adc ⟨⟨f, t, c, m, g⟩, q, up, l⟩).toArray 40))
  have HB := Lib.hid hb
  have HR := Lib.hid (show (w.alloc (.cells (adc ⟨⟨f, t, c, m, g⟩, q, up, l⟩).toArray 40)).rangeAt w.heap.size 0 [.int .i64 f, .int .i64 t, .int .u64 c, .int .i64 m, .int .u32 g] from fun j v hv => by
    rw [Nat.zero_add, hb.cell j]
    unfold adc
    rw [List.getElem?_append_left (by
      have := (List.getElem?_eq_some_iff.1 hv).1
      exact this)]
    exact hv)
  have HIF := Lib.hid (show (Try.prog.info? 38).map (·.size) = some (fr15 l).length from infoF15)
  have HSQ := Lib.hid (seq15_calls q hq)
  have HFA := Lib.hid (falls15c_calls c l hlen)
  have HLN := Lib.hid hlen
  unfold Yes15 at HFA
  clear hb ha hm hq hlen hR
  go_enter Try.func21, Try.ntmps21
  go_upto_region 1 with fail
  have HS := Lib.hid (show (w.alloc (.cells (adc ⟨⟨f, t, c, m, g⟩, q, up, l⟩).toArray 40)).heap.size = w.heap.size + 1 by simp)
  generalize (w.alloc (.cells (adc ⟨⟨f, t, c, m, g⟩, q, up, l⟩).toArray 40)) = w1 at *
  have hrow : Row lkc (w1.alloc (.cells #[.int .i64 f, .int .i64 t, .int .u64 c, .int .i64 m, .int .u32 g] 37)) (w1.alloc (.cells #[.int .i64 f, .int .i64 t, .int .u64 c, .int .i64 m, .int .u32 g] 37)).heap.size (some ⟨w1.heap.size, 0, none⟩) 1 [⟨f, t, c, m, g⟩] := by
    have hb2 : Blk (w1.alloc (.cells #[.int .i64 f, .int .i64 t, .int .u64 c, .int .i64 m, .int .u32 g] 37)) w1.heap.size 37 (lkc ⟨f, t, c, m, g⟩) := Blk.new w1 _ (lkc ⟨f, t, c, m, g⟩)
    refine ⟨rfl, fun _ => ⟨w1.heap.size, 0, rfl, hb2.lt, fun i hi => ?_⟩⟩
    rw [Nat.zero_add, hb2.cell i]
    simp only [List.flatMap_cons, List.flatMap_nil, List.append_nil] at hi ⊢
    exact List.getElem?_eq_getElem hi
  have hck := check_calls 16 (some ⟨w1.heap.size, 0, none⟩) 1 1 [⟨f, t, c, m, g⟩] _ hrow (by omega) (by omega) (by omega)
  rw [chk_one] at hck
  have HLA := Lib.hid (bel_new HL.out (.cells #[.int .i64 f, .int .i64 t, .int .u64 c, .int .i64 m, .int .u32 g] 37))
  have HBA := Lib.hid (HB.out.below (bel_new (Below.refl w1.heap.size w1) (.cells #[.int .i64 f, .int .i64 t, .int .u64 c, .int .i64 m, .int .u32 g] 37)))
  have HCK := Lib.hid hck
  clear hck hrow HB HL HS
  cases hv : vld 16 ⟨f, t, c, m, g⟩ with
  | false =>
    have hmf := HM.out
    rw [hv, Bool.false_and] at hmf
    have HMF := Lib.hid hmf
    have HCF := HCK.out
    rw [hv, if_neg (by decide)] at HCF
    have HC := Lib.hid HCF
    clear HCF hv hmf HM HCK
    go_wp2_with (refine step_load_at (o := ⟨some 4, _, _, _, _, _⟩) rfl rfl rfl HR.out Try.underlying37 rfl infoLk15 ?_)
    ((with_reducible refine HC.out.mono ?_))
    rintro e w2 ⟨rfl, hb⟩
    have H2 := Lib.hid (HLA.out.trans (hb.mono HLA.out.size))
    clear hb
    go_wp2_with fail
    go_ret
    exact ⟨by rw [HMF.out]; rfl, H2.out⟩
  | true =>
    have HCF := HCK.out
    rw [hv, if_pos rfl] at HCF
    have HC := Lib.hid HCF
    have hmf := HM.out
    rw [hv, Bool.true_and] at hmf
    have HMF := Lib.hid hmf
    clear HCF hv hmf HM HCK
    go_wp2_with (refine step_load_at (o := ⟨some 4, _, _, _, _, _⟩) rfl rfl rfl HR.out Try.underlying37 rfl infoLk15 ?_)
    ((with_reducible refine HC.out.mono ?_))
    rintro e w2 ⟨rfl, hb⟩
    have H2 := Lib.hid (HLA.out.trans (hb.mono HLA.out.size))
    have B2 := Lib.hid (HBA.out.below hb)
    clear hb HLA HBA HC HR
    have x5 : w2.cell? ⟨w.heap.size, 5, none⟩ = some (.int .i64 q) := B2.out.cell 5
    go_wp2_with fail
    ((with_reducible refine (HSQ.out _).mono ?_))
    rintro e w3 ⟨rfl, rfl⟩
    clear x5
    cases hs : seqB q with
    | false =>
      have hf := HMF.out
      rw [hs, Bool.false_and] at hf
      have HF := Lib.hid hf
      clear hs HMF hf
      go_wp2_with fail
      go_ret
      exact ⟨by rw [HF.out]; rfl, H2.out⟩
    | true =>
      have x2 : w2.cell? ⟨w.heap.size, 2, none⟩ = some (.int .u64 c) := B2.out.cell 2
      have hrf := Lib.hid (adc_rangeF ⟨f, t, c, m, g⟩ q up HLN.out B2.out)
      have hf := HMF.out
      rw [hs, Bool.true_and] at hf
      have HF := Lib.hid hf
      clear hs HMF hf
      go_wp2_with (refine step_load_at_want (o := ⟨some 18, _, _, _, _, _⟩) (by rfl) rfl rfl hrf.out Try.underlying38 rfl HIF.out ?_)
      ((with_reducible refine (HFA.out _).mono ?_))
      rintro e w4 ⟨rfl, hb⟩
      have H4 := Lib.hid (H2.out.trans (hb.mono H2.out.size))
      clear hb
      go_wp2_with fail
      go_ret
      exact ⟨by rw [HF.out]; rfl, H4.out⟩
end Go.Proofs.Ytmfmjdkeoiebpaa
