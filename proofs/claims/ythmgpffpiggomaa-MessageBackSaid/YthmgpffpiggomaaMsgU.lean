/-
  A struct that is loaded in a drawn region; what Decode and Encode answer, in one form. No condition.
-/
import Derived.Test.YthmgpffpiggomaaMsgT
import Derived.Test.YthmgpffpiggomaaMsgR
import Derived.Test.YthmgpffpiggomaaMsgH
import Derived.Test.YthmgpffpiggomaaSeq
namespace Go.Proofs.Ythmgpffpiggomaa
open Go.RowKit

theorem seq_load8 {P : Program} {ops : Array Oper} {Q : Exit → Act → World → Prop} {S : World → Prop} {i : Nat} {r : List (Nat × Bool)} {a : Act} {w : World} {o : Oper} {x : Operand} {ty t : TypeId} {g : Nat} {vs : List Value} {d : TypeDesc}
    (ho : ops.toList[i]? = some o) (hw : Region.wanted o (yielded ops a.tmps) = true) (hop : o.op = .load ty x) (hx : a.eval x = .pointer (some ⟨g, 0, none⟩)) (hb : ∀ W, S W → Blk W g t vs) (hu : P.underlying ty = some d) (hd : d.isRow = true) (hi : (P.info? ty).map (·.size) = some vs.length)
    (h : wpSeq P ops Q S r (a.put o.dst (.agg vs.toArray)) w) : wpSeq P ops Q S ((i, true) :: r) a w :=
  ⟨o, _, by rw [← Array.getElem?_toList]; exact ho, yieldsIf_load_mid hw ty x hop g 0 hx vs d (fun W hW => (hb W hW).range) hu hd hi, h⟩

theorem mObjs_of_enc {m : PMs} (h : mEnc m = none) : (mObjs m).isSome = false := by
  unfold mEnc at h
  cases ho : mObjs m with
  | none => rfl
  | some os => rw [ho] at h; cases h
/-- What Encode answers, in one form: an error, or bytes. -/
theorem Enc8Post.told {w w' : World} {m : PMs} {e : Ending} (h : Enc8Post w m e w') : ∃ (b : List UInt8) (A : Option Addr) (c : Nat) (er : Int), e = .returned (.tuple #[.slice A b.length c, .int .i64 er]) ∧ Acc w' w.heap.size A c b ∧ Below w.heap.size w w' ∧ ((er = 0 ∧ mEnc m = some b) ∨ (er = 2 ∧ b = [] ∧ mEnc m = none)) := by
  obtain ⟨hl, ⟨hn, he⟩ | ⟨b, A, c, hy, he, ha⟩⟩ := h
  · exact ⟨[], none, 0, 2, he, Acc.nil _ _, hl, .inr ⟨rfl, rfl, hn⟩⟩
  · exact ⟨b, A, c, 0, he, ha, hl, .inl ⟨rfl, hy⟩⟩
/-- What Decode answers, in one form. -/
theorem Dec8Post.told {w w' : World} {b : List UInt8} {e : Ending} (h : Dec8Post w b e w') : ∃ (m : Ms) (er : Int), e = .returned (.tuple #[.agg m.cells.toArray, .int .i64 er]) ∧ LstM w' w.heap.size m ∧ Below w.heap.size w w' ∧ ((er = 0 ∧ mDec b = some m.val) ∨ (er ≠ 0 ∧ m = .bare 0 0 ∧ mDec b = none)) := by
  obtain ⟨hl, ⟨hn, er, h0, _, he⟩ | ⟨m, hy, he, ha⟩⟩ := h
  · exact ⟨.bare 0 0, er, he, LstM.bare _ _ _ _, hl, .inr ⟨h0, rfl, hn⟩⟩
  · exact ⟨m, 0, he, ha, hl, .inl ⟨rfl, hy⟩⟩
end Go.Proofs.Ythmgpffpiggomaa
