/-
  The document's May and place (viaductref15); adverts in memory. Condition: eight numbers of 64 bits; fewer than 2^40 adverts.
  The document's place and Apply (viaductref15). Condition: eight numbers of 64 bits each; fewer than 2^30 adverts.
  The document's Apply (viaductref15). Condition: eight numbers of 64 bits each; fewer than 2^30 adverts.
  The document's Same (viaductref15). Condition: eight numbers of 64 bits each; fewer than 2^30 adverts.
  The laws' Theirs, Ours, None, all (viaductlaw15). Condition: fewer than 2^30 adverts.
-/
import Derived.Test.YtjflbfianncpfaaTedMN
import Derived.Test.YtjflbfianncpfaaBase
import Derived.Deep.CutBlock
namespace Go.Proofs.Ytjflbfianncpfaa
set_option maxRecDepth 100000
set_option linter.unusedVariables false
open Go.RowKit

/-- Eight numbers. -/
def fr15 (l : List Nat) : List Value := (List.range 8).map fun i => .int .u64 ((l.getD i 0 : Nat) : Int)
/-- The cells of an advert. -/
def adc (a : Ad) : List Value := lkc a.k ++ (.int .i64 a.q :: .bool a.up :: fr15 a.f)
theorem adc_length (a : Ad) : (adc a).length = 15 := rfl
theorem adc_one (a : Ad) : ∀ u ∈ adc a, u.oneCell' = true := by
  intro u hu
  simp only [adc, fr15, List.mem_append, List.mem_cons, List.mem_map] at hu
  rcases hu with hu | rfl | rfl | ⟨n, _, rfl⟩
  · exact lkc_one _ u hu
  · rfl
  · rfl
  · rfl
theorem adc_free (a : Ad) {i : Nat} (hi : i < 8) : (adc a)[7 + i]? = some (.int .u64 ((a.f.getD i 0 : Nat) : Int)) := by
  rcases i with _ | _ | _ | _ | _ | _ | _ | _ | i
  iterate 8 rfl
  omega
theorem fr15_set {l : List Nat} (hl : l.length = 8) {i : Nat} (hi : i < 8) (v : Nat) : fr15 (l.set i v) = (fr15 l).set i (.int .u64 (v : Int)) := by
  obtain ⟨a, b, c, d, e, f, g, h, rfl⟩ := list_eight hl
  rcases i with _ | _ | _ | _ | _ | _ | _ | _ | i
  iterate 8 rfl
  omega
theorem fr15_inj {l m : List Nat} (hl : l.length = 8) (hm : m.length = 8) (h : fr15 l = fr15 m) : l = m := by
  obtain ⟨a, b, c, d, e, f, g, i, rfl⟩ := list_eight hl
  obtain ⟨a', b', c', d', e', f', g', i', rfl⟩ := list_eight hm
  simp only [fr15, List.range, List.range.loop, List.map_cons, List.map_nil, List.cons.injEq, Value.int.injEq, List.getD_eq_getElem?_getD, List.getElem?_cons_zero, List.getElem?_cons_succ, Option.getD_some, true_and, and_true] at h
  simp only [List.cons.injEq, and_true]
  omega
theorem adc_inj {x y : Ad} (hx : AdOk x) (hy : AdOk y) (h : adc x = adc y) : x = y := by
  obtain ⟨⟨f, t, c, m, g⟩, q, up, l⟩ := x
  obtain ⟨⟨f', t', c', m', g'⟩, q', up', l'⟩ := y
  simp only [adc, lkc, List.cons_append, List.nil_append, List.cons.injEq, Value.int.injEq, Value.bool.injEq, true_and] at h
  obtain ⟨rfl, rfl, rfl, rfl, rfl, rfl, rfl, h⟩ := h
  have := fr15_inj hx.len hy.len h
  subst this
  rfl
/-- What is read of a place of a row. -/
theorem cells15 {α : Type} {enc : α → List Value} {k B n i : Nat} {w : World} {a : Option Addr} {l : List α} (hk : ∀ x, (enc x).length = k) (h : Row enc w B a n l) (hi : i < n) :
    ∃ b o x, a = some ⟨b, o, none⟩ ∧ l[i]? = some x ∧ b < B ∧ ∀ W, Below B w W → ∀ j v, (enc x)[j]? = some v → W.cell? ⟨b, o + i * k + j, none⟩ = some v := by
  obtain ⟨b, o, e, hb, hc⟩ := h.cells hk (by omega)
  have hi' : i < l.length := by rw [h.1]; exact hi
  refine ⟨b, o, l[i], e, List.getElem?_eq_getElem hi', hb, fun W hW j v hv => ?_⟩
  have hj : j < k := by
    have := (List.getElem?_eq_some_iff.1 hv).1
    rwa [hk] at this
  rw [hW.cell (p := ⟨b, o + i * k + j, none⟩) hb, hc i hi' j hj, hv]
def lst15 (c : Int) (l : List Nat) (i : Nat) : Int := if i = 0 then c else ((l.getD (i - 1) 0 : Nat) : Int)
theorem falls_iff : ∀ (l : List Nat) (c : Int), falls c l = true ↔ ∀ i, i < l.length → ((l.getD i 0 : Nat) : Int) ≤ lst15 c l i
  | [], c => by simp [falls]
  | x :: t, c => by
    have ih := falls_iff t (x : Int)
    unfold falls
    rw [Bool.and_eq_true, ih, decide_eq_true_eq]
    constructor
    · rintro ⟨h1, h2⟩ i hi
      cases i with
      | zero => simpa [lst15] using h1
      | succ i =>
        have := h2 i (by simpa using hi)
        unfold lst15 at this ⊢
        cases i with
        | zero => simpa using this
        | succ j => simpa using this
    · intro h
      refine ⟨by simpa [lst15] using h 0 (by simp), fun i hi => ?_⟩
      have := h (i + 1) (by simpa using hi)
      unfold lst15 at this ⊢
      cases i with
      | zero => simpa using this
      | succ j => simpa using this
theorem infoLk15 : (Try.prog.info? 53).map (·.size) = some 5 := by kernel_rfl

def May15 (a : Ad) (w : World) (e : Ending) (w' : World) : Prop := e = .returned (.bool (vldA a)) ∧ Below w.heap.size w w'
end Go.Proofs.Ytjflbfianncpfaa

namespace Go.Proofs.Ytjflbfianncpfaa
set_option maxRecDepth 100000
set_option linter.unusedVariables false
open Go.RowKit

def plc (l : List Ad) (z : Int × Int) : Int := match bpl l z with | none => -1 | some k => (k : Int)
theorem infoAd15 : (Try.prog.info? 76).map (fun i => (i.zero, i.size, i.bytes)) = some (some (.agg #[.int .i64 0, .int .i64 0, .int .u64 0, .int .i64 0, .int .u32 0, .int .i64 0, .bool false, .int .u64 0, .int .u64 0, .int .u64 0, .int .u64 0, .int .u64 0, .int .u64 0, .int .u64 0, .int .u64 0]), 15, 120) := by kernel_rfl
theorem infoAdS15 : (Try.prog.info? 76).map (·.size) = some 15 := by kernel_rfl
/-- Adverts of the document that a call gathered. -/
def Acc15 (w : World) (base : Nat) (A : Option Addr) (c : Nat) (l : List Ad) : Prop := AccR adc 15 w base 76 A c l
theorem acc15_push {w : World} {base c : Nat} {A : Option Addr} {l : List Ad} (h : Acc15 w base A c l) (x : Ad) (hb : base ≤ w.heap.size) (hl : l.length ≤ 1099511627776) :
    ∃ A' c' w', (Builtin.append_ #[22, 22] 22 #[.slice A l.length c, .slice (some ⟨w.heap.size, 0, none⟩) 1 1]).run Try.prog (w.alloc (.cells #[.int .i64 x.k.f, .int .i64 x.k.t, .int .u64 x.k.c, .int .i64 x.k.m, .int .u32 x.k.g, .int .i64 x.q, .bool x.up, .int .u64 ((x.f.getD 0 0 : Nat) : Int), .int .u64 ((x.f.getD 1 0 : Nat) : Int), .int .u64 ((x.f.getD 2 0 : Nat) : Int), .int .u64 ((x.f.getD 3 0 : Nat) : Int), .int .u64 ((x.f.getD 4 0 : Nat) : Int), .int .u64 ((x.f.getD 5 0 : Nat) : Int), .int .u64 ((x.f.getD 6 0 : Nat) : Int), .int .u64 ((x.f.getD 7 0 : Nat) : Int)] 76)) = .ok (.slice A' (l.length + 1) c') w' ∧
      Acc15 w' base A' c' (l ++ [x]) ∧ w.grownBy w' (blk A) :=
  accr_push adc_length adc_one (by omega) h x Try.underlying22 infoAd15 rfl hb (by omega) (by omega)
end Go.Proofs.Ytjflbfianncpfaa

namespace Go.Proofs.Ytjflbfianncpfaa
set_option maxRecDepth 100000
set_option linter.unusedVariables false
open Go.RowKit

theorem take_snoc15 {α : Type} {l : List α} {i : Nat} {x : α} (h : l[i]? = some x) : l.take (i + 1) = l.take i ++ [x] := by
  rw [List.take_add_one, h]; rfl
theorem accr_ne15 {α : Type} {W : World} {enc : α → List Value} {k base q : Nat} {T T' : TypeId} {A : Option Addr} {cc : Nat} {l : List α} {vs : List Value} (h : AccR enc k W base T A cc l) (hb : Blk W q T' vs) (hne : q < base) : ∀ x, blk A = some x → x ≠ q := fun x hx e => by
  have := (h.ge hx).1
  omega
def ApplyP15 (a : Option Addr) (n c : Nat) (l : List Ad) (x : Ad) (w : World) (e : Ending) (w' : World) : Prop := Below w.heap.size w w' ∧
  (((bApply l x).2.1 = false ∧ e = .returned (.tuple #[.slice a n c, .bool false, .int .i64 (bApply l x).2.2])) ∨
    ((bApply l x).2.1 = true ∧ ∃ A c', e = .returned (.tuple #[.slice A n c', .bool true, .int .i64 0]) ∧ Acc15 w' w.heap.size A c' (bApply l x).1))
theorem bApply_bad {l : List Ad} {x : Ad} (h : vldA x = false) : bApply l x = (l, false, 2) := by unfold bApply; rw [if_neg (by rw [h]; exact Bool.false_ne_true)]
theorem bApply_none {l : List Ad} {x : Ad} (h : vldA x = true) (hp : plc l (ends15 x.k) < 0) : bApply l x = (l, false, 8) := by
  unfold bApply
  rw [if_pos h]
  unfold plc at hp
  cases hb : bpl l (ends15 x.k) with
  | none => rfl
  | some k => rw [hb] at hp; simp only at hp; omega
theorem bApply_at {l : List Ad} {x : Ad} (h : vldA x = true) (hp : ¬ plc l (ends15 x.k) < 0) : ∃ k : Nat, ∃ hk : k < l.length, plc l (ends15 x.k) = (k : Int) ∧ bApply l x = if x.q ≤ l[k].q then (l, false, 0) else (l.set k x, true, 0) := by
  unfold plc at hp ⊢
  cases hb : bpl l (ends15 x.k) with
  | none => rw [hb] at hp; simp at hp
  | some k =>
    obtain ⟨hk, _, _⟩ := List.findIdx?_eq_some_iff_getElem.1 hb
    refine ⟨k, hk, rfl, ?_⟩
    unfold bApply
    rw [if_pos h, hb]
    simp only [List.getD_eq_getElem?_getD, List.getElem?_eq_getElem hk, Option.getD_some]
theorem set_take_same {l : List Ad} {k i : Nat} {x : Ad} (hi : i < l.length) (h : i = k) : (l.set k x).take (i + 1) = (l.set k x).take i ++ [x] := by
  subst h
  exact take_snoc15 (by rw [List.getElem?_set, if_pos rfl, if_pos hi])
theorem set_take_other {l : List Ad} {k i : Nat} {x y : Ad} (hy : l[i]? = some y) (h : i ≠ k) : (l.set k x).take (i + 1) = (l.set k x).take i ++ [y] :=
  take_snoc15 (by rw [List.getElem?_set, if_neg (fun e => h e.symm)]; exact hy)

end Go.Proofs.Ytjflbfianncpfaa

namespace Go.Proofs.Ytjflbfianncpfaa
set_option maxRecDepth 100000
set_option linter.unusedVariables false
open Go.RowKit

theorem seq_load_at15 {P : Program} {ops : Array Oper} {Q : Exit → Act → World → Prop} {S : World → Prop} {i : Nat} {r : List (Nat × Bool)} {a : Act} {w : World} {o : Oper} {x : Operand} {ty : TypeId} {g k : Nat} {vs : List Value} {d : TypeDesc}
    (ho : ops.toList[i]? = some o) (hw : Region.wanted o (yielded ops a.tmps) = true) (hop : o.op = .load ty x) (hx : a.eval x = .pointer (some ⟨g, k, none⟩)) (hb : ∀ W, S W → W.rangeAt g k vs) (hu : P.underlying ty = some d) (hd : d.isRow = true) (hi : (P.info? ty).map (·.size) = some vs.length)
    (h : wpSeq P ops Q S r (a.put o.dst (.agg vs.toArray)) w) : wpSeq P ops Q S ((i, true) :: r) a w :=
  ⟨o, _, by rw [← Array.getElem?_toList]; exact ho, yieldsIf_load_mid hw ty x hop g k hx vs d hb hu hd hi, h⟩
/-- Two adverts are compared. -/
theorem eq_ad15 {x y : Ad} (hx : AdOk x) (hy : AdOk y) (w : World) : (binOp .eql 76 (.agg (adc x).toArray) (.agg (adc y).toArray)).run Try.prog w = .ok (.bool (decide (x = y))) w ∧
    (binOp .neq 76 (.agg (adc x).toArray) (.agg (adc y).toArray)).run Try.prog w = .ok (.bool (!decide (x = y))) w :=
  eql_E (xs := adc x) (ys := adc y) (la := adc x) (lb := adc y) (m := 5) (D := 5) (by decide) (by kernel_rfl) (by rfl) (by rfl) (by rfl) (by rfl) w (decide (x = y)) (by rw [decide_eq_true_eq]; exact ⟨fun h => by rw [h], fun h => adc_inj hx hy h⟩)
def Yes15 (d : Bool) (w : World) (e : Ending) (w' : World) : Prop := e = .returned (.bool d) ∧ Below w.heap.size w w'
/-- An advert's cells in a row, whole. -/
theorem range15 {B n i : Nat} {w : World} {a : Option Addr} {l : List Ad} (h : Row adc w B a n l) (hi : i < n) : ∃ b o x, a = some ⟨b, o, none⟩ ∧ l[i]? = some x ∧ b < B ∧ ∀ W, Below B w W → W.rangeAt b (o + i * 15) (adc x) := by
  obtain ⟨b, o, x, e, hx, hb, hc⟩ := cells15 adc_length h hi
  exact ⟨b, o, x, e, hx, hb, fun W hW j v hv => hc W hW j v hv⟩
end Go.Proofs.Ytjflbfianncpfaa

namespace Go.Proofs.Ytjflbfianncpfaa
set_option maxRecDepth 100000
set_option linter.unusedVariables false
open Go.RowKit

theorem infoAdT15 : (Try.prog.info? 58).map (fun i => (i.zero, i.size, i.bytes)) = some (some (.agg #[.int .i64 0, .int .i64 0, .int .u64 0, .int .i64 0, .int .u32 0, .int .i64 0, .bool false, .int .u64 0, .int .u64 0, .int .u64 0, .int .u64 0, .int .u64 0, .int .u64 0, .int .u64 0, .int .u64 0]), 15, 120) := by kernel_rfl
theorem infoAdTS15 : (Try.prog.info? 58).map (·.size) = some 15 := by kernel_rfl
/-- Adverts of the code that a call gathered. -/
def AccT15 (w : World) (base : Nat) (A : Option Addr) (c : Nat) (l : List Ad) : Prop := AccR adc 15 w base 58 A c l
theorem acct15_push {w : World} {base c : Nat} {A : Option Addr} {l : List Ad} (h : AccT15 w base A c l) (x : Ad) (hb : base ≤ w.heap.size) (hl : l.length ≤ 1099511627776) :
    ∃ A' c' w', (Builtin.append_ #[55, 55] 55 #[.slice A l.length c, .slice (some ⟨w.heap.size, 0, none⟩) 1 1]).run Try.prog (w.alloc (.cells #[.int .i64 x.k.f, .int .i64 x.k.t, .int .u64 x.k.c, .int .i64 x.k.m, .int .u32 x.k.g, .int .i64 x.q, .bool x.up, .int .u64 ((x.f[0]?.getD 0 : Nat) : Int), .int .u64 ((x.f[1]?.getD 0 : Nat) : Int), .int .u64 ((x.f[2]?.getD 0 : Nat) : Int), .int .u64 ((x.f[3]?.getD 0 : Nat) : Int), .int .u64 ((x.f[4]?.getD 0 : Nat) : Int), .int .u64 ((x.f[5]?.getD 0 : Nat) : Int), .int .u64 ((x.f[6]?.getD 0 : Nat) : Int), .int .u64 ((x.f[7]?.getD 0 : Nat) : Int)] 58)) = .ok (.slice A' (l.length + 1) c') w' ∧
      AccT15 w' base A' c' (l ++ [x]) ∧ w.grownBy w' (blk A) :=
  accr_push adc_length adc_one (by omega) h x Try.underlying55 infoAdT15 rfl hb (by omega) (by omega)
def Back15 (x : Ad) (w : World) (e : Ending) (w' : World) : Prop := e = .returned (.agg (adc x).toArray) ∧ Below w.heap.size w w'
set_option maxHeartbeats 1600000 in
theorem theirs15_calls (x : Ad) (w : World) : Calls Try.prog 38 #[.agg (adc x).toArray] w (Back15 x w) := by
  unfold Back15
  go_enter Try.func38, Try.ntmps38
  go_upto_region 1 with fail
  have hb0 := Blk.new w 76 (adc x)
  have hl0 := bel_new (Below.refl w.heap.size w) (.cells (adc x).toArray 76)
  have hs0 : (w.alloc (.cells (adc x).toArray 76)).heap.size = w.heap.size + 1 := by simp
  have HB0 := Lib.hid hb0
  have HL0 := Lib.hid hl0
  have HS0 := Lib.hid hs0
  clear hb0 hl0 hs0
  generalize (w.alloc (.cells (adc x).toArray 76)) = w1 at *
  have HZ := Lib.hid (show Blk (w1.alloc (.cells #[.int .i64 0, .int .i64 0, .int .u64 0, .int .i64 0, .int .u32 0, .int .i64 0, .bool false, .int .u64 0, .int .u64 0, .int .u64 0, .int .u64 0, .int .u64 0, .int .u64 0, .int .u64 0, .int .u64 0] 58)) (w.heap.size + 1) 58 [.int .i64 0, .int .i64 0, .int .u64 0, .int .i64 0, .int .u32 0, .int .i64 0, .bool false, .int .u64 0, .int .u64 0, .int .u64 0, .int .u64 0, .int .u64 0, .int .u64 0, .int .u64 0, .int .u64 0] from by
    have := Blk.new w1 58 [.int .i64 0, .int .i64 0, .int .u64 0, .int .i64 0, .int .u32 0, .int .i64 0, .bool false, .int .u64 0, .int .u64 0, .int .u64 0, .int .u64 0, .int .u64 0, .int .u64 0, .int .u64 0, .int .u64 0]
    rw [HS0.out] at this
    exact this)
  have HB1 := Lib.hid (HB0.out.below (bel_new (Below.refl w1.heap.size w1) (.cells #[.int .i64 0, .int .i64 0, .int .u64 0, .int .i64 0, .int .u32 0, .int .i64 0, .bool false, .int .u64 0, .int .u64 0, .int .u64 0, .int .u64 0, .int .u64 0, .int .u64 0, .int .u64 0, .int .u64 0] 58)))
  have HL1 := Lib.hid (bel_new HL0.out (.cells #[.int .i64 0, .int .i64 0, .int .u64 0, .int .i64 0, .int .u32 0, .int .i64 0, .bool false, .int .u64 0, .int .u64 0, .int .u64 0, .int .u64 0, .int .u64 0, .int .u64 0, .int .u64 0, .int .u64 0] 58))
  clear HB0 HL0 HS0
  generalize w1.alloc _ = w2 at *
  have y0 : w2.cell? ⟨w.heap.size, 0, none⟩ = some (.int .i64 x.k.f) := HB1.out.cell 0
  have y1 : w2.cell? ⟨w.heap.size, 1, none⟩ = some (.int .i64 x.k.t) := HB1.out.cell 1
  have y2 : w2.cell? ⟨w.heap.size, 2, none⟩ = some (.int .u64 x.k.c) := HB1.out.cell 2
  have y3 : w2.cell? ⟨w.heap.size, 3, none⟩ = some (.int .i64 x.k.m) := HB1.out.cell 3
  have y4 : w2.cell? ⟨w.heap.size, 4, none⟩ = some (.int .u32 x.k.g) := HB1.out.cell 4
  have y5 : w2.cell? ⟨w.heap.size, 5, none⟩ = some (.int .i64 x.q) := HB1.out.cell 5
  have y6 : w2.cell? ⟨w.heap.size, 6, none⟩ = some (.bool x.up) := HB1.out.cell 6
  have y7 : w2.cell? ⟨w.heap.size, 7, none⟩ = some (.int .u64 ((x.f[0]?.getD 0 : Nat) : Int)) := HB1.out.cell 7
  have y8 : w2.cell? ⟨w.heap.size, 8, none⟩ = some (.int .u64 ((x.f[1]?.getD 0 : Nat) : Int)) := HB1.out.cell 8
  have y9 : w2.cell? ⟨w.heap.size, 9, none⟩ = some (.int .u64 ((x.f[2]?.getD 0 : Nat) : Int)) := HB1.out.cell 9
  have y10 : w2.cell? ⟨w.heap.size, 10, none⟩ = some (.int .u64 ((x.f[3]?.getD 0 : Nat) : Int)) := HB1.out.cell 10
  have y11 : w2.cell? ⟨w.heap.size, 11, none⟩ = some (.int .u64 ((x.f[4]?.getD 0 : Nat) : Int)) := HB1.out.cell 11
  have y12 : w2.cell? ⟨w.heap.size, 12, none⟩ = some (.int .u64 ((x.f[5]?.getD 0 : Nat) : Int)) := HB1.out.cell 12
  have y13 : w2.cell? ⟨w.heap.size, 13, none⟩ = some (.int .u64 ((x.f[6]?.getD 0 : Nat) : Int)) := HB1.out.cell 13
  have y14 : w2.cell? ⟨w.heap.size, 14, none⟩ = some (.int .u64 ((x.f[7]?.getD 0 : Nat) : Int)) := HB1.out.cell 14
  go_wp2_with (refine step_store (o := ⟨none, _, _, _, _, _⟩) (vs := adc x) rfl rfl rfl rfl HZ.out infoAdTS15 rfl (adc_one _) ?_; intro w3 hb3 hg3 hs3)
  refine bodyPost_ret (results_one8 rfl _ rfl hb3 Try.underlying58 rfl infoAdTS15) rfl ?_
  exact ⟨rfl, HL1.out.grown hg3 HL1.out.size (fun k hk => by injection hk with e; omega)⟩
def OurP15 (l : List Ad) (w : World) (e : Ending) (w' : World) : Prop := ∃ A c, e = .returned (.slice A l.length c) ∧ Acc15 w' w.heap.size A c l ∧ Below w.heap.size w w'
end Go.Proofs.Ytjflbfianncpfaa
