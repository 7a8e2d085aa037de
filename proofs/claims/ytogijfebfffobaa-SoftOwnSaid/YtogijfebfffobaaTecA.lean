/-
  Contracts of package tedb: bit, mayBeSeq, falls, May. Condition: eight numbers of 64 bits; Seq as large as its type allows.
-/
import Derived.Test.YtogijfebfffobaaTedAE
import Derived.Test.YtogijfebfffobaaGraphAC
namespace Go.Proofs.Ytogijfebfffobaa
set_option maxRecDepth 100000
set_option linter.unusedVariables false
open Go.RowKit

/-- A whole array out of the midst of a struct, where it is wanted. -/
theorem step_load_at_want {P : Program} {w : World} {ops : Array Oper} {rest : List Oper} {o : Oper} {a : Act} {Q : Exit → Act → World → Prop} {x : Operand} {ty : TypeId} {g k : Nat} {vs : List Value} {d : TypeDesc}
    (hw : Region.wanted o (yielded ops a.tmps) = true) (ho : o.op = .load ty x) (hx : a.eval x = .pointer (some ⟨g, k, none⟩)) (hb : w.rangeAt g k vs) (hu : P.underlying ty = some d) (hd : d.isRow = true) (hi : (P.info? ty).map (·.size) = some vs.length)
    (h : wpList P ops Q rest (a.put o.dst (.agg vs.toArray)) w) : wpList P ops Q (o :: rest) a w := by
  refine wpList_step fun K hK => ?_
  rw [if_pos hw]
  exact wp_load_mid ty x ho g k hx vs d hb hu hd hi (hK _ _ h)
/-- A number as large as an int allows. -/
def I15 (q : Int) : Prop := -9223372036854775808 ≤ q ∧ q ≤ 9223372036854775807
def seqB (q : Int) : Bool := decide (0 ≤ q ∧ q ≤ 4294967295)
theorem chk_one (x : Lk) : chk 16 [x] = if vld 16 x = true then 0 else 2 := by
  simp [chk, netB]
theorem vldH_eq (a : Ad) : vldH a = (vld 16 a.k && seqB a.q) := by
  unfold vldH vld gwn seqB
  rw [Bool.eq_iff_iff]
  simp only [Bool.and_eq_true, decide_eq_true_eq, Bool.not_eq_true', beq_eq_false_iff_ne]
  constructor
  · rintro ⟨h1, h2, h3, h4, h5, h6, h7, h8, h9⟩
    exact ⟨⟨⟨⟨⟨h1, by omega⟩, h3, by omega⟩, h5⟩, h6, h7⟩, h8, h9⟩
  · rintro ⟨⟨⟨⟨⟨h1, h2⟩, h3, h4⟩, h5⟩, h6, h7⟩, h8, h9⟩
    exact ⟨h1, by omega, h3, by omega, h5, h6, h7, h8, h9⟩
theorem may_eq (a : Ad) : vldA a = (vld 16 a.k && (seqB a.q && falls a.k.c a.f)) := by unfold vldA; rw [vldH_eq, Bool.and_assoc]
theorem adc_rangeF (k : Lk) (q : Int) (up : Bool) {l : List Nat} (hl : l.length = 8) {w : World} {g : Nat} {T : TypeId} (h : Blk w g T (adc ⟨k, q, up, l⟩)) : w.rangeAt g 7 (fr15 l) := fun j v hv => by
  have hj : j < 8 := (List.getElem?_eq_some_iff.1 hv).1
  rw [h.cell (7 + j), adc_free _ hj]
  rw [← hv]
  rcases j with _ | _ | _ | _ | _ | _ | _ | _ | j
  iterate 8 rfl
  omega
end Go.Proofs.Ytogijfebfffobaa
