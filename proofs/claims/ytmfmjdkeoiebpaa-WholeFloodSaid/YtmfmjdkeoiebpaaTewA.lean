/-
  What the laws of layer 15 ask first of all (alive). No condition.
-/
import Derived.Test.YtmfmjdkeoiebpaaTecI
import Derived.Test.YtmfmjdkeoiebpaaTedK
namespace Go.Proofs.Ytmfmjdkeoiebpaa
set_option maxRecDepth 100000
set_option linter.unusedVariables false
open Go.RowKit

/-- A slice that a call gathered: where it lies, and its cells. -/
theorem accr_cells15 {α : Type} {enc : α → List Value} {k base c : Nat} {w : World} {T : TypeId} {A : Option Addr} {l : List α} (hk : ∀ x, (enc x).length = k) (h : AccR enc k w base T A c l) (h0 : 0 < l.length) :
    ∃ g, A = some ⟨g, 0, none⟩ ∧ base ≤ g ∧ g < w.heap.size ∧ ∀ i x, l[i]? = some x → ∀ j v, (enc x)[j]? = some v → w.cell? ⟨g, i * k + j, none⟩ = some v := by
  obtain ⟨g, rfl⟩ := accr_addr15 h h0
  have hge := AccR.ge h (x := g) rfl
  obtain ⟨b, o, e, hb, hc⟩ := (AccR.row h).cells hk h0
  injection e with e
  injection e with e1 e2
  subst e1; subst e2
  refine ⟨g, rfl, hge.1, hge.2, fun i x hx j v hv => ?_⟩
  obtain ⟨hi, rfl⟩ := List.getElem?_eq_some_iff.1 hx
  have hj : j < k := by
    have := (List.getElem?_eq_some_iff.1 hv).1
    rwa [hk] at this
  have := hc i hi j hj
  rw [Nat.zero_add] at this
  rw [this, hv]
def al0 : Ad := ⟨⟨0, 1, 9, 1, 0⟩, 0, true, [9, 9, 9, 9, 9, 9, 9, 9]⟩
def al1 : Ad := ⟨⟨0, 1, 9, 1, 0⟩, 2, false, [0, 0, 0, 0, 0, 0, 0, 0]⟩
def al2 : Ad := ⟨⟨0, 1, 9, 1, 0⟩, 2, true, [0, 0, 0, 0, 0, 0, 0, 0]⟩
theorem al1_ok : AdOk al1 := ⟨rfl, by decide, by decide, by decide, by decide, by decide⟩
theorem al2_ok : AdOk al2 := ⟨rfl, by decide, by decide, by decide, by decide, by decide⟩
theorem al_new : bnew [⟨0, 1, 9, 1, 0⟩] = [al0] := rfl
theorem al_one : bApply [al0] al1 = ([al1], true, 0) := by decide
theorem al_two : bApply [al1] al2 = ([al1], false, 0) := by decide
theorem al_enc : (aEnc [al1]).1.length = 88 ∧ (aEnc [al1]).2 = 0 := by decide
/-- What lives since w0. -/
structure Liv (w0 w : World) (q : Nat) (b : List Ad) (S : List Nat) : Prop where
  bas : BasC w q b S
  own : ∀ x ∈ S, w0.heap.size ≤ x
  bel : Below w0.heap.size w0 w
theorem BasC.keep {w w' : World} {q : Nat} {b : List Ad} {S : List Nat} (h : BasC w q b S) (hb : ∀ x ∈ S, w'.heap[x]? = w.heap[x]?) : BasC w' q b S := by
  obtain ⟨A, c, h⟩ := h
  exact ⟨A, c, h.keep hb⟩
theorem BasC.lt {w : World} {q : Nat} {b : List Ad} {S : List Nat} (h : BasC w q b S) : ∀ x ∈ S, x < w.heap.size := by
  obtain ⟨A, c, h⟩ := h
  exact h.lt
theorem BasC.below {w w' : World} {q : Nat} {b : List Ad} {S : List Nat} (h : BasC w q b S) (hb : Below w.heap.size w w') : BasC w' q b S := h.keep fun x hx => hb.block x (h.lt x hx)
theorem BasC.ok {w : World} {q : Nat} {b : List Ad} {S : List Nat} (h : BasC w q b S) : (∀ a ∈ b, AdOk a ∧ I15 a.q) ∧ b.length ≤ 64 := by
  obtain ⟨A, c, h⟩ := h
  exact ⟨h.ok, h.len⟩
theorem Liv.below {w0 w w' : World} {q : Nat} {b : List Ad} {S : List Nat} (h : Liv w0 w q b S) (hb : Below w.heap.size w w') : Liv w0 w' q b S := ⟨h.bas.below hb, h.own, h.bel.trans (hb.mono h.bel.size)⟩
theorem Liv.apply {w0 w w' : World} {q : Nat} {b b' : List Ad} {S : List Nat} (h : Liv w0 w q b S) (hb : BasC w' q b' S) (ht : Turn S w w') : Liv w0 w' q b' S := ⟨hb, h.own, ht.bel h.bel (Nat.le_refl _) h.own⟩
theorem Liv.start {w0 w w' : World} {L : List Lk} {e : Ending} (hb : Below w0.heap.size w0 w) (h : Nw15 L w e w') : ∃ q S, e = .returned (.pointer (some ⟨q, 0, none⟩)) ∧ Liv w0 w' q (bnew L) S ∧ Below w.heap.size w w' ∧ ∀ x ∈ S, w.heap.size ≤ x := by
  obtain ⟨q, S, rfl, h1, h2, h3⟩ := h
  exact ⟨q, S, rfl, ⟨h1, fun x hx => Nat.le_trans hb.size (h2 x hx), hb.trans (h3.mono hb.size)⟩, h3, h2⟩
set_option maxHeartbeats 3200000 in
theorem alive15_calls (w : World) : Calls Try.prog 11 #[] w fun e w' => e = .returned (.bool true) ∧ Below w.heap.size w w' := by
  have K1 := Lib.hid (show Blk (w.alloc (.cells #[.int .i64 0, .int .i64 1, .int .u64 9, .int .i64 1, .int .u32 0] 37)) w.heap.size 37 (lkc ⟨0, 1, 9, 1, 0⟩) from Blk.new w _ (lkc ⟨0, 1, 9, 1, 0⟩))
  have L1 := Lib.hid (bel_new (Below.refl w.heap.size w) (.cells #[.int .i64 0, .int .i64 1, .int .u64 9, .int .i64 1, .int .u32 0] 37))
  have hrow : ∀ W, Blk W w.heap.size 37 (lkc ⟨0, 1, 9, 1, 0⟩) → Row lkc W W.heap.size (some ⟨w.heap.size, 0, none⟩) 1 [⟨0, 1, 9, 1, 0⟩] := fun W h => by
    refine ⟨rfl, fun _ => ⟨w.heap.size, 0, rfl, h.lt, fun i hi => ?_⟩⟩
    rw [Nat.zero_add, h.cell i]
    simp only [List.flatMap_cons, List.flatMap_nil, List.append_nil] at hi ⊢
    exact List.getElem?_eq_getElem hi
  have HROW := Lib.hid hrow
  clear hrow
  go_enter Try.func11, Try.ntmps11
  go_upto_region 2 with fail
  generalize w.alloc (.cells #[.int .i64 0, .int .i64 1, .int .u64 9, .int .i64 1, .int .u32 0] 37) = w1 at *
  have hn := new15_yes 2 (some ⟨w.heap.size, 0, none⟩) 1 1 [⟨0, 1, 9, 1, 0⟩] (by decide) w1 (HROW.out _ K1.out) (by omega) (by omega) (by omega) (by decide)
  have HN := Lib.hid hn
  have HQS := Lib.hid K1.out.lt
  clear hn
  go_wp2_with fail
  ((with_reducible refine HN.out.mono ?_))
  intro e w2 h
  obtain ⟨q, S, rfl, lv, hb, hs⟩ := Liv.start L1.out h
  rw [al_new] at lv
  have V2 := Lib.hid lv
  have K2 := Lib.hid (K1.out.below hb)
  have NS := Lib.hid (show w.heap.size ∉ S from fun h9 => by have := hs _ h9; have := HQS.out; omega)
  clear lv hb hs h HN K1 L1
  have ha : Calls Try.prog 20 #[.pointer (some ⟨q, 0, none⟩)] w2 (Cl15 1 [al0] w2) := all15c_calls q [al0] S w2 V2.out.bas
  unfold Cl15 at ha
  have HA := Lib.hid ha
  clear ha
  go_wp2_with fail
  ((with_reducible refine HA.out.mono ?_))
  rintro e w3 ⟨A3, c3, rfl, acc, hb⟩
  obtain ⟨g3, rfl, _, hg, hc⟩ := accr_cells15 adc_length acc (by decide)
  have V3 := Lib.hid (V2.out.below hb)
  have K3 := Lib.hid (K2.out.below hb)
  have ACC3 := Lib.hid acc
  clear hb acc hc hg HA V2 K2
  have ha : Calls Try.prog 20 #[.pointer (some ⟨q, 0, none⟩)] w3 (Cl15 1 [al0] w3) := all15c_calls q [al0] S w3 V3.out.bas
  unfold Cl15 at ha
  have HA := Lib.hid ha
  clear ha
  go_wp2_with fail
  ((with_reducible refine HA.out.mono ?_))
  rintro e w4 ⟨A4, c4, rfl, acc, hb⟩
  obtain ⟨g4, rfl, _, hg, hc⟩ := accr_cells15 adc_length acc (by decide)
  have V4 := Lib.hid (V3.out.below hb)
  have K4 := Lib.hid (K3.out.below hb)
  have ACC4 := Lib.hid acc
  have c14 : w4.cell? ⟨g4, 14, none⟩ = some (.int .u64 9) := hc 0 al0 rfl 14 _ rfl
  clear hb acc hc hg HA V3 K3
  have y0 : w4.cell? ⟨w.heap.size, 0, none⟩ = some (.int .i64 0) := K4.out.cell 0
  have y1 : w4.cell? ⟨w.heap.size, 1, none⟩ = some (.int .i64 1) := K4.out.cell 1
  have y2 : w4.cell? ⟨w.heap.size, 2, none⟩ = some (.int .u64 9) := K4.out.cell 2
  have y3 : w4.cell? ⟨w.heap.size, 3, none⟩ = some (.int .i64 1) := K4.out.cell 3
  have y4 : w4.cell? ⟨w.heap.size, 4, none⟩ = some (.int .u32 0) := K4.out.cell 4
  have ha : Calls Try.prog 15 #[.pointer (some ⟨q, 0, none⟩), .agg #[.int .i64 0, .int .i64 1, .int .u64 9, .int .i64 1, .int .u32 0, .int .i64 2, .bool false, .int .u64 0, .int .u64 0, .int .u64 0, .int .u64 0, .int .u64 0, .int .u64 0, .int .u64 0, .int .u64 0]] w4 (Ap15 q S (bApply [al0] al1) w4) := apply15c_calls q [al0] S al1 al1_ok (by unfold I15; decide) w4 V4.out.bas
  rw [al_one] at ha
  unfold Ap15 at ha
  have HA := Lib.hid ha
  clear ha
  go_wp2_with fail
  ((with_reducible refine HA.out.mono ?_))
  rintro e w5 ⟨rfl, hp, ht⟩
  have V5 := Lib.hid (V4.out.apply hp ht)
  have K5 := Lib.hid (K4.out.same (ht.block _ K4.out.lt NS.out))
  clear hp ht HA V4 K4 y0 y1 y2 y3 y4
  try clear c14
  have y0 : w5.cell? ⟨w.heap.size, 0, none⟩ = some (.int .i64 0) := K5.out.cell 0
  have y1 : w5.cell? ⟨w.heap.size, 1, none⟩ = some (.int .i64 1) := K5.out.cell 1
  have y2 : w5.cell? ⟨w.heap.size, 2, none⟩ = some (.int .u64 9) := K5.out.cell 2
  have y3 : w5.cell? ⟨w.heap.size, 3, none⟩ = some (.int .i64 1) := K5.out.cell 3
  have y4 : w5.cell? ⟨w.heap.size, 4, none⟩ = some (.int .u32 0) := K5.out.cell 4
  have ha : Calls Try.prog 15 #[.pointer (some ⟨q, 0, none⟩), .agg #[.int .i64 0, .int .i64 1, .int .u64 9, .int .i64 1, .int .u32 0, .int .i64 2, .bool true, .int .u64 0, .int .u64 0, .int .u64 0, .int .u64 0, .int .u64 0, .int .u64 0, .int .u64 0, .int .u64 0]] w5 (Ap15 q S (bApply [al1] al2) w5) := apply15c_calls q [al1] S al2 al2_ok (by unfold I15; decide) w5 V5.out.bas
  rw [al_two] at ha
  unfold Ap15 at ha
  have HA := Lib.hid ha
  clear ha
  go_wp2_with fail
  ((with_reducible refine HA.out.mono ?_))
  rintro e w6 ⟨rfl, hp, ht⟩
  have V6 := Lib.hid (V5.out.apply hp ht)
  have K6 := Lib.hid (K5.out.same (ht.block _ K5.out.lt NS.out))
  clear hp ht HA V5 K5 y0 y1 y2 y3 y4
  have ha : Calls Try.prog 20 #[.pointer (some ⟨q, 0, none⟩)] w6 (Cl15 1 [al1] w6) := all15c_calls q [al1] S w6 V6.out.bas
  unfold Cl15 at ha
  have HA := Lib.hid ha
  clear ha
  go_wp2_with fail
  ((with_reducible refine HA.out.mono ?_))
  rintro e w7 ⟨A7, c7, rfl, acc, hb⟩
  obtain ⟨g7, rfl, _, hg, hc⟩ := accr_cells15 adc_length acc (by decide)
  have V7 := Lib.hid (V6.out.below hb)
  have K7 := Lib.hid (K6.out.below hb)
  have ACC7 := Lib.hid acc
  clear hb acc hc hg HA V6 K6
  have he := encode15c_calls (some ⟨g7, 0, none⟩) 1 c7 [al1] (by intro x hx; simp only [List.mem_singleton] at hx; subst hx; exact ⟨al1_ok, by unfold I15; decide⟩) w7 (AccR.row ACC7.out) (by omega)
  unfold En15 at he
  rw [al_enc.1, al_enc.2] at he
  have HE := Lib.hid he
  clear he
  go_wp2_with fail
  ((with_reducible refine HE.out.mono ?_))
  rintro e w8 ⟨A8, c8, rfl, _, hb⟩
  have V8 := Lib.hid (V7.out.below hb)
  have K8 := Lib.hid (K7.out.below hb)
  clear hb HE V7 K7
  have ha : Calls Try.prog 20 #[.pointer (some ⟨q, 0, none⟩)] w8 (Cl15 1 [al1] w8) := all15c_calls q [al1] S w8 V8.out.bas
  unfold Cl15 at ha
  have HA := Lib.hid ha
  clear ha
  go_wp2_with fail
  ((with_reducible refine HA.out.mono ?_))
  rintro e w9 ⟨A9, c9, rfl, acc, hb⟩
  obtain ⟨g9, rfl, _, hg, hc⟩ := accr_cells15 adc_length acc (by decide)
  have V9 := Lib.hid (V8.out.below hb)
  have K9 := Lib.hid (K8.out.below hb)
  have ACC9 := Lib.hid acc
  have c6 : w9.cell? ⟨g9, 6, none⟩ = some (.bool false) := hc 0 al1 rfl 6 _ rfl
  clear hb acc hc hg HA V8 K8
  go_wp2_with fail
  go_ret
  exact ⟨rfl, V9.out.bel⟩
end Go.Proofs.Ytmfmjdkeoiebpaa
