/-
  The document's May and place (viaductref15); adverts in memory. Condition: eight numbers of 64 bits; fewer than 2^40 adverts.
  The document's place and Apply (viaductref15). Condition: eight numbers of 64 bits each; fewer than 2^30 adverts.
  The document's Apply (viaductref15). Condition: eight numbers of 64 bits each; fewer than 2^30 adverts.
  The document's Same (viaductref15). Condition: eight numbers of 64 bits each; fewer than 2^30 adverts.
  The laws' Theirs, Ours, None, all (viaductlaw15). Condition: fewer than 2^30 adverts.
-/
import Derived.Test.YtogijfebfffobaaTedMN
import Derived.Test.YtogijfebfffobaaBase
import Derived.Deep.CutBlock
namespace Go.Proofs.Ytogijfebfffobaa
set_option maxRecDepth 100000
set_option linter.unusedVariables false
open Go.RowKit

/-- Eight numbers. -/
def fr15 (l : List Nat) : List Value := (List.range 8).map fun i => .int .u64 ((l.getD i 0 : Nat) : Int)
/-- The cells of an advert. -/
def adc (a : Ad) : List Value := lkc a.k ++ (.int .i64 a.q :: .bool a.up :: fr15 a.f)
theorem adc_length (a : Ad) : (adc a).length = 15 := rfl
theorem adc_one (a : Ad) : ∀ u ∈ adc a, u.oneCell' = true := by
  intro u hu
  simp only [adc, fr15, List.mem_append, List.mem_cons, List.mem_map] at hu
  rcases hu with hu | rfl | rfl | ⟨n, _, rfl⟩
  · exact lkc_one _ u hu
  · rfl
  · rfl
  · rfl
theorem adc_free (a : Ad) {i : Nat} (hi : i < 8) : (adc a)[7 + i]? = some (.int .u64 ((a.f.getD i 0 : Nat) : Int)) := by
  rcases i with _ | _ | _ | _ | _ | _ | _ | _ | i
  iterate 8 rfl
  omega
theorem fr15_set {l : List Nat} (hl : l.length = 8) {i : Nat} (hi : i < 8) (v : Nat) : fr15 (l.set i v) = (fr15 l).set i (.int .u64 (v : Int)) := by
  obtain ⟨a, b, c, d, e, f, g, h, rfl⟩ := list_eight hl
  rcases i with _ | _ | _ | _ | _ | _ | _ | _ | i
  iterate 8 rfl
  omega
theorem fr15_inj {l m : List Nat} (hl : l.length = 8) (hm : m.length = 8) (h : fr15 l = fr15 m) : l = m := by
  obtain ⟨a, b, c, d, e, f, g, i, rfl⟩ := list_eight hl
  obtain ⟨a', b', c', d', e', f', g', i', rfl⟩ := list_eight hm
  simp only [fr15, List.range, List.range.loop, List.map_cons, List.map_nil, List.cons.injEq, Value.int.injEq, List.getD_eq_getElem?_getD, List.getElem?_cons_zero, List.getElem?_cons_succ, Option.getD_some, true_and, and_true] at h
  simp only [List.cons.injEq, and_true]
  omega
theorem adc_inj {x y : Ad} (hx : AdOk x) (hy : AdOk y) (h : adc x = adc y) : x = y := by
  obtain ⟨⟨f, t, c, m, g⟩, q, up, l⟩ := x
  obtain ⟨⟨f', t', c', m', g'⟩, q', up', l'⟩ := y
  simp only [adc, lkc, List.cons_append, List.nil_append, List.cons.injEq, Value.int.injEq, Value.bool.injEq, true_and] at h
  obtain ⟨rfl, rfl, rfl, rfl, rfl, rfl, rfl, h⟩ := h
  have := fr15_inj hx.len hy.len h
  subst this
  rfl
/-- What is read of a place of a row. -/
theorem cells15 {α : Type} {enc : α → List Value} {k B n i : Nat} {w : World} {a : Option Addr} {l : List α} (hk : ∀ x, (enc x).length = k) (h : Row enc w B a n l) (hi : i < n) :
    ∃ b o x, a = some ⟨b, o, none⟩ ∧ l[i]? = some x ∧ b < B ∧ ∀ W, Below B w W → ∀ j v, (enc x)[j]? = some v → W.cell? ⟨b, o + i * k + j, none⟩ = some v := by
  obtain ⟨b, o, e, hb, hc⟩ := h.cells hk (by omega)
  have hi' : i < l.length := by rw [h.1]; exact hi
  refine ⟨b, o, l[i], e, List.getElem?_eq_getElem hi', hb, fun W hW j v hv => ?_⟩
  have hj : j < k := by
    have := (List.getElem?_eq_some_iff.1 hv).1
    rwa [hk] at this
  rw [hW.cell (p := ⟨b, o + i * k + j, none⟩) hb, hc i hi' j hj, hv]
def lst15 (c : Int) (l : List Nat) (i : Nat) : Int := if i = 0 then c else ((l.getD (i - 1) 0 : Nat) : Int)
theorem falls_iff : ∀ (l : List Nat) (c : Int), falls c l = true ↔ ∀ i, i < l.length → ((l.getD i 0 : Nat) : Int) ≤ lst15 c l i
  | [], c => by simp [falls]
  | x :: t, c => by
    have ih := falls_iff t (x : Int)
    unfold falls
    rw [Bool.and_eq_true, ih, decide_eq_true_eq]
    constructor
    · rintro ⟨h1, h2⟩ i hi
      cases i with
      | zero => simpa [lst15] using h1
      | succ i =>
        have := h2 i (by simpa using hi)
        unfold lst15 at this ⊢
        cases i with
        | zero => simpa using this
        | succ j => simpa using this
    · intro h
      refine ⟨by simpa [lst15] using h 0 (by simp), fun i hi => ?_⟩
      have := h (i + 1) (by simpa using hi)
      unfold lst15 at this ⊢
      cases i with
      | zero => simpa using this
      | succ j => simpa using this
def May15 (a : Ad) (w : World) (e : Ending) (w' : World) : Prop := e = .returned (.bool (vldA a)) ∧ Below w.heap.size w w'
end Go.Proofs.Ytogijfebfffobaa

namespace Go.Proofs.Ytogijfebfffobaa
set_option maxRecDepth 100000
set_option linter.unusedVariables false
open Go.RowKit

def plc (l : List Ad) (z : Int × Int) : Int := match bpl l z with | none => -1 | some k => (k : Int)
end Go.Proofs.Ytogijfebfffobaa

namespace Go.Proofs.Ytogijfebfffobaa
set_option maxRecDepth 100000
set_option linter.unusedVariables false
open Go.RowKit

theorem take_snoc15 {α : Type} {l : List α} {i : Nat} {x : α} (h : l[i]? = some x) : l.take (i + 1) = l.take i ++ [x] := by
  rw [List.take_add_one, h]; rfl
theorem accr_ne15 {α : Type} {W : World} {enc : α → List Value} {k base q : Nat} {T T' : TypeId} {A : Option Addr} {cc : Nat} {l : List α} {vs : List Value} (h : AccR enc k W base T A cc l) (hb : Blk W q T' vs) (hne : q < base) : ∀ x, blk A = some x → x ≠ q := fun x hx e => by
  have := (h.ge hx).1
  omega
theorem bApply_bad {l : List Ad} {x : Ad} (h : vldA x = false) : bApply l x = (l, false, 2) := by unfold bApply; rw [if_neg (by rw [h]; exact Bool.false_ne_true)]
theorem bApply_none {l : List Ad} {x : Ad} (h : vldA x = true) (hp : plc l (ends15 x.k) < 0) : bApply l x = (l, false, 8) := by
  unfold bApply
  rw [if_pos h]
  unfold plc at hp
  cases hb : bpl l (ends15 x.k) with
  | none => rfl
  | some k => rw [hb] at hp; simp only at hp; omega
theorem bApply_at {l : List Ad} {x : Ad} (h : vldA x = true) (hp : ¬ plc l (ends15 x.k) < 0) : ∃ k : Nat, ∃ hk : k < l.length, plc l (ends15 x.k) = (k : Int) ∧ bApply l x = if x.q ≤ l[k].q then (l, false, 0) else (l.set k x, true, 0) := by
  unfold plc at hp ⊢
  cases hb : bpl l (ends15 x.k) with
  | none => rw [hb] at hp; simp at hp
  | some k =>
    obtain ⟨hk, _, _⟩ := List.findIdx?_eq_some_iff_getElem.1 hb
    refine ⟨k, hk, rfl, ?_⟩
    unfold bApply
    rw [if_pos h, hb]
    simp only [List.getD_eq_getElem?_getD, List.getElem?_eq_getElem hk, Option.getD_some]
theorem set_take_same {l : List Ad} {k i : Nat} {x : Ad} (hi : i < l.length) (h : i = k) : (l.set k x).take (i + 1) = (l.set k x).take i ++ [x] := by
  subst h
  exact take_snoc15 (by rw [List.getElem?_set, if_pos rfl, if_pos hi])
theorem set_take_other {l : List Ad} {k i : Nat} {x y : Ad} (hy : l[i]? = some y) (h : i ≠ k) : (l.set k x).take (i + 1) = (l.set k x).take i ++ [y] :=
  take_snoc15 (by rw [List.getElem?_set, if_neg (fun e => h e.symm)]; exact hy)

end Go.Proofs.Ytogijfebfffobaa

namespace Go.Proofs.Ytogijfebfffobaa
set_option maxRecDepth 100000
set_option linter.unusedVariables false
open Go.RowKit

theorem seq_load_at15 {P : Program} {ops : Array Oper} {Q : Exit → Act → World → Prop} {S : World → Prop} {i : Nat} {r : List (Nat × Bool)} {a : Act} {w : World} {o : Oper} {x : Operand} {ty : TypeId} {g k : Nat} {vs : List Value} {d : TypeDesc}
    (ho : ops.toList[i]? = some o) (hw : Region.wanted o (yielded ops a.tmps) = true) (hop : o.op = .load ty x) (hx : a.eval x = .pointer (some ⟨g, k, none⟩)) (hb : ∀ W, S W → W.rangeAt g k vs) (hu : P.underlying ty = some d) (hd : d.isRow = true) (hi : (P.info? ty).map (·.size) = some vs.length)
    (h : wpSeq P ops Q S r (a.put o.dst (.agg vs.toArray)) w) : wpSeq P ops Q S ((i, true) :: r) a w :=
  ⟨o, _, by rw [← Array.getElem?_toList]; exact ho, yieldsIf_load_mid hw ty x hop g k hx vs d hb hu hd hi, h⟩
def Yes15 (d : Bool) (w : World) (e : Ending) (w' : World) : Prop := e = .returned (.bool d) ∧ Below w.heap.size w w'
/-- An advert's cells in a row, whole. -/
theorem range15 {B n i : Nat} {w : World} {a : Option Addr} {l : List Ad} (h : Row adc w B a n l) (hi : i < n) : ∃ b o x, a = some ⟨b, o, none⟩ ∧ l[i]? = some x ∧ b < B ∧ ∀ W, Below B w W → W.rangeAt b (o + i * 15) (adc x) := by
  obtain ⟨b, o, x, e, hx, hb, hc⟩ := cells15 adc_length h hi
  exact ⟨b, o, x, e, hx, hb, fun W hW j v hv => hc W hW j v hv⟩
end Go.Proofs.Ytogijfebfffobaa

namespace Go.Proofs.Ytogijfebfffobaa
set_option maxRecDepth 100000
set_option linter.unusedVariables false
open Go.RowKit

def Back15 (x : Ad) (w : World) (e : Ending) (w' : World) : Prop := e = .returned (.agg (adc x).toArray) ∧ Below w.heap.size w w'
end Go.Proofs.Ytogijfebfffobaa
