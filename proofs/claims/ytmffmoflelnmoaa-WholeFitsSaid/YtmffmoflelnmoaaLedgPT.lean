/-
  The document's answers of layer 13 (viaductref13): Put, Take. Condition: numbers of 64 bits, eight priorities.
  Ledgers from the document's type to the code's and back; ledgers and eight numbers are compared. Condition: numbers of 64 bits, eight priorities.
-/
import Derived.Test.YtmffmoflelnmoaaLedgR
import Derived.Test.YtmffmoflelnmoaaEqv
namespace Go.Proofs.Ytmffmoflelnmoaa
set_option maxRecDepth 100000
set_option linter.unusedVariables false
open Go.RowKit

/-- A ledger and a number. -/
def Lgn13 (r : Lg × Int) (w : World) (e : Ending) (w' : World) : Prop := e = .returned (.tuple #[.agg (lgc r.1).toArray, .int .i64 r.2]) ∧ Below w.heap.size w w'
/-- The cells of nothing. -/
def z9 : List Value := [.int .u64 0, .int .u64 0, .int .u64 0, .int .u64 0, .int .u64 0, .int .u64 0, .int .u64 0, .int .u64 0, .int .u64 0]
theorem lgc_lz : lgc lz = z9 := rfl
theorem z9_one : ∀ u ∈ z9, u.oneCell' = true := by rw [← lgc_lz]; exact lgc_one lz

end Go.Proofs.Ytmffmoflelnmoaa

namespace Go.Proofs.Ytmffmoflelnmoaa
set_option maxRecDepth 100000
set_option linter.unusedVariables false
open Go.RowKit

theorem infoLedgL : (Try.prog.info? 65).map (·.size) = some 9 := by kernel_rfl
/-- A ledger's cells. -/
def Agg13 (l : Lg) (w : World) (e : Ending) (w' : World) : Prop := e = .returned (.agg (lgc l).toArray) ∧ Below w.heap.size w w'
theorem held_eight {h : List Nat} (hl : h.length = 8) : ∃ a b c d e f g i, h = [a, b, c, d, e, f, g, i] := by
  match h, hl with
  | [a, b, c, d, e, f, g, i], _ => exact ⟨a, b, c, d, e, f, g, i, rfl⟩

theorem u64_inj {a b : Nat} (h : Value.int .u64 (a : Int) = Value.int .u64 (b : Int)) : a = b := by
  injection h with _ h
  exact Int.ofNat.inj h
theorem hlc_inj : ∀ {a b : List Nat}, hlc a = hlc b → a = b
  | [], [], _ => rfl
  | [], _ :: _, h => by cases h
  | _ :: _, [], h => by cases h
  | x :: a, y :: b, h => by
    have h' : Value.int .u64 (x : Int) :: hlc a = Value.int .u64 (y : Int) :: hlc b := h
    injection h' with h1 h2
    rw [u64_inj h1, hlc_inj h2]
theorem lgc_inj {l m : Lg} (h : lgc l = lgc m) : l = m := by
  obtain ⟨a, h1⟩ := l
  obtain ⟨b, h2⟩ := m
  have h' : Value.int .u64 (a : Int) :: hlc h1 = Value.int .u64 (b : Int) :: hlc h2 := h
  injection h' with e1 e2
  rw [u64_inj e1, hlc_inj e2]
theorem eq_lgL {l m : Lg} (hl : LgOk l) (hm : LgOk m) (w : World) (c : Bool) (hc : c = true ↔ l = m) :
    (binOp .eql 65 (.agg (lgc l).toArray) (.agg (lgc m).toArray)).run Try.prog w = .ok (.bool c) w := by
  obtain ⟨cp, hd⟩ := l
  obtain ⟨a1, a2, a3, a4, a5, a6, a7, a8, rfl⟩ := held_eight hl.1
  obtain ⟨cq, he⟩ := m
  obtain ⟨b1, b2, b3, b4, b5, b6, b7, b8, rfl⟩ := held_eight hm.1
  exact (eql_E (m := 5) (D := 5) (by decide) (by kernel_rfl) (by rfl) (by rfl) (by rfl) (by rfl) w c (hc.trans ⟨fun h => by rw [h], fun h => lgc_inj h⟩)).1
theorem eq_hl {a b : List Nat} (ha : a.length = 8) (hb : b.length = 8) (w : World) (c : Bool) (hc : c = true ↔ a = b) :
    (binOp .eql 36 (.agg (hlc a).toArray) (.agg (hlc b).toArray)).run Try.prog w = .ok (.bool c) w := by
  obtain ⟨a1, a2, a3, a4, a5, a6, a7, a8, rfl⟩ := held_eight ha
  obtain ⟨b1, b2, b3, b4, b5, b6, b7, b8, rfl⟩ := held_eight hb
  exact (eql_E (m := 5) (D := 5) (by decide) (by kernel_rfl) (by rfl) (by rfl) (by rfl) (by rfl) w c (hc.trans ⟨fun h => by rw [h], fun h => hlc_inj h⟩)).1
end Go.Proofs.Ytmffmoflelnmoaa
