/-
  The document's May and place (viaductref15); adverts in memory. Condition: eight numbers of 64 bits; fewer than 2^40 adverts.
-/
import Derived.Test.YtmfmjdkeoiebpaaTedN
import Derived.Test.YtmfmjdkeoiebpaaStepS
import Derived.Deep.CutBlock
namespace Go.Proofs.Ytmfmjdkeoiebpaa
set_option maxRecDepth 100000
set_option linter.unusedVariables false
open Go.RowKit

/-- Eight numbers. -/
def fr15 (l : List Nat) : List Value := (List.range 8).map fun i => .int .u64 ((l.getD i 0 : Nat) : Int)
/-- The cells of an advert. -/
def adc (a : Ad) : List Value := lkc a.k ++ (.int .i64 a.q :: .bool a.up :: fr15 a.f)
theorem adc_length (a : Ad) : (adc a).length = 15 := rfl
theorem adc_one (a : Ad) : ∀ u ∈ adc a, u.oneCell' = true := by
  intro u hu
  simp only [adc, fr15, List.mem_append, List.mem_cons, List.mem_map] at hu
  rcases hu with hu | rfl | rfl | ⟨n, _, rfl⟩
  · exact lkc_one _ u hu
  · rfl
  · rfl
  · rfl
theorem adc_free (a : Ad) {i : Nat} (hi : i < 8) : (adc a)[7 + i]? = some (.int .u64 ((a.f.getD i 0 : Nat) : Int)) := by
  rcases i with _ | _ | _ | _ | _ | _ | _ | _ | i
  iterate 8 rfl
  omega
theorem fr15_set {l : List Nat} (hl : l.length = 8) {i : Nat} (hi : i < 8) (v : Nat) : fr15 (l.set i v) = (fr15 l).set i (.int .u64 (v : Int)) := by
  obtain ⟨a, b, c, d, e, f, g, h, rfl⟩ := list_eight hl
  rcases i with _ | _ | _ | _ | _ | _ | _ | _ | i
  iterate 8 rfl
  omega
theorem fr15_inj {l m : List Nat} (hl : l.length = 8) (hm : m.length = 8) (h : fr15 l = fr15 m) : l = m := by
  obtain ⟨a, b, c, d, e, f, g, i, rfl⟩ := list_eight hl
  obtain ⟨a', b', c', d', e', f', g', i', rfl⟩ := list_eight hm
  simp only [fr15, List.range, List.range.loop, List.map_cons, List.map_nil, List.cons.injEq, Value.int.injEq, List.getD_eq_getElem?_getD, List.getElem?_cons_zero, List.getElem?_cons_succ, Option.getD_some, true_and, and_true] at h
  simp only [List.cons.injEq, and_true]
  omega
theorem adc_inj {x y : Ad} (hx : AdOk x) (hy : AdOk y) (h : adc x = adc y) : x = y := by
  obtain ⟨⟨f, t, c, m, g⟩, q, up, l⟩ := x
  obtain ⟨⟨f', t', c', m', g'⟩, q', up', l'⟩ := y
  simp only [adc, lkc, List.cons_append, List.nil_append, List.cons.injEq, Value.int.injEq, Value.bool.injEq, true_and] at h
  obtain ⟨rfl, rfl, rfl, rfl, rfl, rfl, rfl, h⟩ := h
  have := fr15_inj hx.len hy.len h
  subst this
  rfl
/-- What is read of a place of a row. -/
theorem cells15 {α : Type} {enc : α → List Value} {k B n i : Nat} {w : World} {a : Option Addr} {l : List α} (hk : ∀ x, (enc x).length = k) (h : Row enc w B a n l) (hi : i < n) :
    ∃ b o x, a = some ⟨b, o, none⟩ ∧ l[i]? = some x ∧ b < B ∧ ∀ W, Below B w W → ∀ j v, (enc x)[j]? = some v → W.cell? ⟨b, o + i * k + j, none⟩ = some v := by
  obtain ⟨b, o, e, hb, hc⟩ := h.cells hk (by omega)
  have hi' : i < l.length := by rw [h.1]; exact hi
  refine ⟨b, o, l[i], e, List.getElem?_eq_getElem hi', hb, fun W hW j v hv => ?_⟩
  have hj : j < k := by
    have := (List.getElem?_eq_some_iff.1 hv).1
    rwa [hk] at this
  rw [hW.cell (p := ⟨b, o + i * k + j, none⟩) hb, hc i hi' j hj, hv]
def lst15 (c : Int) (l : List Nat) (i : Nat) : Int := if i = 0 then c else ((l.getD (i - 1) 0 : Nat) : Int)
theorem falls_iff : ∀ (l : List Nat) (c : Int), falls c l = true ↔ ∀ i, i < l.length → ((l.getD i 0 : Nat) : Int) ≤ lst15 c l i
  | [], c => by simp [falls]
  | x :: t, c => by
    have ih := falls_iff t (x : Int)
    unfold falls
    rw [Bool.and_eq_true, ih, decide_eq_true_eq]
    constructor
    · rintro ⟨h1, h2⟩ i hi
      cases i with
      | zero => simpa [lst15] using h1
      | succ i =>
        have := h2 i (by simpa using hi)
        unfold lst15 at this ⊢
        cases i with
        | zero => simpa using this
        | succ j => simpa using this
    · intro h
      refine ⟨by simpa [lst15] using h 0 (by simp), fun i hi => ?_⟩
      have := h (i + 1) (by simpa using hi)
      unfold lst15 at this ⊢
      cases i with
      | zero => simpa using this
      | succ j => simpa using this
theorem infoLk15 : (Try.prog.info? 37).map (·.size) = some 5 := by kernel_rfl

def May15 (a : Ad) (w : World) (e : Ending) (w' : World) : Prop := e = .returned (.bool (vldA a)) ∧ Below w.heap.size w w'
set_option maxHeartbeats 3200000 in
theorem rmay15_calls (a : Ad) (ha : AdOk a) (w : World) : Calls Try.prog 22 #[.agg (adc a).toArray] w (May15 a w) := by
  obtain ⟨⟨f, t, c, m, g⟩, q, up, l⟩ := a
  unfold May15
  have HA := Lib.hid ha
  have hb := Blk.new w 42 (adc ⟨⟨f, t, c, m, g⟩, q, up, l⟩)
  have HL := Lib.hid (bel_new (Below.refl w.heap.size w) (.cells (adc ⟨⟨f, t, c, m, g⟩, q, up, l⟩).toArray 42))
  have HB := Lib.hid hb
  have HR := Lib.hid (show (w.alloc (.cells (adc ⟨⟨f, t, c, m, g⟩, q, up, l⟩).toArray 42)).rangeAt w.heap.size 0 [.int .i64 f, .int .i64 t, .int .u64 c, .int .i64 m, .int .u32 g] from fun j v hv => by
    rw [Nat.zero_add, hb.cell j]
    unfold adc
    rw [List.getElem?_append_left (by
      have := (List.getElem?_eq_some_iff.1 hv).1
      exact this)]
    exact hv)
  clear hb ha
  go_enter Try.func22, Try.ntmps22
  go_upto_region 1 with fail
  have HS := Lib.hid (show (w.alloc (.cells (adc ⟨⟨f, t, c, m, g⟩, q, up, l⟩).toArray 42)).heap.size = w.heap.size + 1 by simp)
  generalize (w.alloc (.cells (adc ⟨⟨f, t, c, m, g⟩, q, up, l⟩).toArray 42)) = w1 at *
  go_upto_region 2 with (refine step_load_at (o := ⟨some 7, _, _, _, _, _⟩) rfl rfl rfl HR.out Try.underlying37 rfl infoLk15 ?_)
  have HX := Lib.hid (show Blk (w1.alloc (.cells #[.int .i64 f, .int .i64 t, .int .u64 c, .int .i64 m, .int .u32 g] 37)) w1.heap.size 37 [.int .i64 f, .int .i64 t, .int .u64 c, .int .i64 m, .int .u32 g] from Blk.new w1 _ [.int .i64 f, .int .i64 t, .int .u64 c, .int .i64 m, .int .u32 g])
  have HL2 := Lib.hid (bel_new HL.out (.cells #[.int .i64 f, .int .i64 t, .int .u64 c, .int .i64 m, .int .u32 g] 37))
  have HB2 := Lib.hid (HB.out.below (bel_new (Below.refl w1.heap.size w1) (.cells #[.int .i64 f, .int .i64 t, .int .u64 c, .int .i64 m, .int .u32 g] 37)))
  clear HB HL HR
  rw [HS.out] at *
  clear HS
  generalize w1.alloc _ = w2 at *
  have x0 : w2.cell? ⟨w.heap.size + 1, 0, none⟩ = some (.int .i64 f) := HX.out.cell 0
  have x1 : w2.cell? ⟨w.heap.size + 1, 1, none⟩ = some (.int .i64 t) := HX.out.cell 1
  have x2 : w2.cell? ⟨w.heap.size + 1, 2, none⟩ = some (.int .u64 c) := HX.out.cell 2
  have x3 : w2.cell? ⟨w.heap.size + 1, 3, none⟩ = some (.int .i64 m) := HX.out.cell 3
  have x5 : w2.cell? ⟨w.heap.size, 5, none⟩ = some (.int .i64 q) := HB2.out.cell 5
  clear HX
  have no : ∀ P : Prop, P → ¬ (0 ≤ f ∧ f < 16 ∧ 0 ≤ t ∧ t < 16 ∧ f ≠ t ∧ 1 ≤ m ∧ m ≤ 65535 ∧ 0 ≤ q ∧ q ≤ 4294967295) → vldA ⟨⟨f, t, c, m, g⟩, q, up, l⟩ = false := fun _ _ h => by
    have : vldH ⟨⟨f, t, c, m, g⟩, q, up, l⟩ = false := by rw [← Bool.not_eq_true, vldH_iff]; exact h
    simp [vldA, this]
  by_cases h0 : f < 0
  · have hv := no (f < 0) h0 (by omega)
    have HV := Lib.hid hv
    clear no hv
    go_wp2_with fail
    go_ret
    exact ⟨by rw [HV.out]; rfl, HL2.out⟩
  by_cases h1 : 16 ≤ f
  · have hv := no (16 ≤ f) h1 (by omega)
    have HV := Lib.hid hv
    clear no hv
    go_wp2_with fail
    go_ret
    exact ⟨by rw [HV.out]; rfl, HL2.out⟩
  by_cases h2 : t < 0
  · have hv := no (t < 0) h2 (by omega)
    have HV := Lib.hid hv
    clear no hv
    go_wp2_with fail
    go_ret
    exact ⟨by rw [HV.out]; rfl, HL2.out⟩
  by_cases h3 : 16 ≤ t
  · have hv := no (16 ≤ t) h3 (by omega)
    have HV := Lib.hid hv
    clear no hv
    go_wp2_with fail
    go_ret
    exact ⟨by rw [HV.out]; rfl, HL2.out⟩
  by_cases h4 : f = t
  · have hv := no (f = t) h4 (by omega)
    have HV := Lib.hid hv
    clear no hv
    go_wp2_with fail
    go_ret
    exact ⟨by have hv := HV.out; subst h4; rw [hv]; rfl, HL2.out⟩
  by_cases h5 : m < 1
  · have hv := no (m < 1) h5 (by omega)
    have HV := Lib.hid hv
    clear no hv
    go_wp2_with fail
    go_ret
    exact ⟨by rw [HV.out]; rfl, HL2.out⟩
  by_cases h6 : 65535 < m
  · have hv := no (65535 < m) h6 (by omega)
    have HV := Lib.hid hv
    clear no hv
    go_wp2_with fail
    go_ret
    exact ⟨by rw [HV.out]; rfl, HL2.out⟩
  by_cases h7 : q < 0
  · have hv := no (q < 0) h7 (by omega)
    have HV := Lib.hid hv
    clear no hv
    go_wp2_with fail
    go_ret
    exact ⟨by rw [HV.out]; rfl, HL2.out⟩
  by_cases h8 : 4294967295 < q
  · have hv := no (4294967295 < q) h8 (by omega)
    have HV := Lib.hid hv
    clear no hv
    go_wp2_with fail
    go_ret
    exact ⟨by rw [HV.out]; rfl, HL2.out⟩
  clear no
  have hH : vldH ⟨⟨f, t, c, m, g⟩, q, up, l⟩ = true := vldH_iff.2 (by simp only; omega)
  have HH := Lib.hid hH
  clear hH
  go_upto_region 4 with fail
  clear h0 h1 h2 h3 h4 h5 h6 h7 h8 x0 x1 x3 x5
  go_wp2_with fail
  go_loopw [4, 5] (fun s t W => ∃ i : Nat, i ≤ 8 ∧ (∀ j, j < i → ((l.getD j 0 : Nat) : Int) ≤ lst15 c l j) ∧ s = .int .u64 (lst15 c l i) ∧ t = .int .i64 (i : Int) ∧ W = w2) (fun s t W => 8 - (intOf t).toNat)
  case atStart => exact ⟨0, by omega, fun j hj => absurd hj (by omega), rfl, rfl, rfl⟩
  case round =>
    obtain ⟨i, hi, hs, rfl, rfl, rfl⟩ := hrel
    have HSS := Lib.hid hs
    clear hs
    by_cases hi8 : i < 8
    · have i1 : (i : Int) < 8 := by omega
      have hc : wr.cell? ⟨w.heap.size, 7 + i, none⟩ = some (.int .u64 ((l.getD i 0 : Nat) : Int)) := (HB2.out.cell _).trans (adc_free _ hi8)
      have he : lst15 c l (i + 1) = ((l.getD i 0 : Nat) : Int) := by simp [lst15]
      have HE := Lib.hid he
      obtain ⟨v, hv⟩ : ∃ v, ((l.getD i 0 : Nat) : Int) = v := ⟨_, rfl⟩
      obtain ⟨u, hu⟩ : ∃ u, lst15 c l i = u := ⟨_, rfl⟩
      rw [hv] at hc
      rw [hu]
      have HV := Lib.hid hv
      have HU := Lib.hid hu
      clear he hv hu
      by_cases hgt : u < v
      · go_wp2_with fail
        go_ret
        refine ⟨?_, HL2.out⟩
        congr 1
        symm
        have hf : falls c l = false := by
          rw [← Bool.not_eq_true, falls_iff]
          intro h
          have := h i (by rw [HA.out.len]; exact hi8)
          rw [HV.out, HU.out] at this
          omega
        simp [vldA, hf]
      · have HG := Lib.hid hgt
        go_wp2_with fail
        go_roundw
        case rel =>
          refine ⟨i + 1, by omega, fun j hj => ?_, by rw [HE.out, HV.out], by first | rfl | (simp; omega), by first | rfl | trivial⟩
          rcases Nat.lt_or_ge j i with h | h
          · exact HSS.out j h
          · obtain rfl : j = i := by omega
            rw [HV.out, HU.out]
            have := HG.out
            omega
        case measure => simp [intOf]; omega
    · obtain rfl : i = 8 := by omega
      clear hi hi8
      go_wp2_with fail
      go_ret
      refine ⟨?_, HL2.out⟩
      congr 1
      symm
      have hf : falls c l = true := (falls_iff l c).2 (fun j hj => HSS.out j (by rw [HA.out.len] at hj; exact hj))
      have := HH.out
      simp [vldA, hf, this]
end Go.Proofs.Ytmfmjdkeoiebpaa
