/-
  The laws' Adverts, and what they ask first of all (alive; viaductlaw16). Condition: fewer than 2^30 adverts.
-/
import Derived.Test.YtjflbfianncpfaaGreatPruRT
import Derived.Test.YtjflbfianncpfaaGreatTedG
namespace Go.Proofs.YtjflbfianncpfaaGreat
set_option maxRecDepth 100000
set_option linter.unusedVariables false
open Go.RowKit

def ax16 : Ad := ⟨⟨0, 1, 10, 1, 0⟩, 0, true, [10, 10, 10, 4, 4, 4, 4, 4]⟩
def w516 : Wn := ⟨5, 3, 0, 0, 0, 0⟩
def w016 : Wn := ⟨0, 0, 0, 0, 0, 0⟩
theorem ax16_ok : AdOk ax16 := ⟨rfl, by decide, by decide, by decide, by decide, by decide⟩
theorem no16 (W : World) (x : Wn) (h : x.an < 4294967296 ∧ x.al < 4294967296 ∧ x.no < 4294967296) : AkOk ⟨x, [], [], []⟩ ∧ AkIn W W.heap.size ⟨x, [], [], []⟩ ⟨none, 0, 0, none, 0, 0, none, 0, 0, 0⟩ :=
  ⟨⟨h, by simp⟩, ⟨Row.nil, Row.nil, Row.nil, by simp, by simp, by simp⟩⟩
theorem al16_1 : fit16 ⟨w516, [], [], []⟩ ax16 = false := by decide
theorem al16_2 : fit16 ⟨w516, [], [], [⟨0, 1, 1⟩]⟩ ax16 = true := by decide
theorem al16_3 : (lks16 [ax16] ⟨w016, [], [], []⟩).length = 1 := by decide
end Go.Proofs.YtjflbfianncpfaaGreat
