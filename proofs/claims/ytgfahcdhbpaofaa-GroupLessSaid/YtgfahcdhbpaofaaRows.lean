/-
  No cell of these rows narrows 'for every input' (looked for: loops, veiled, ifaces, maps, wideKeys, modest, calm, conditions, laid).
  DERIVED. THE GIVEN ROWS OF THIS SEAT. 5 by the template 'for every input the law returns true; each argument reads behind the call as it read before'; 0 by the template 'total and deterministic' (their statements: YtgfahcdhbpaofaaTotals.lean).
  GIVEN WITH THE SEED: the statements are not yours to turn. If you find one false, say at which input.
  Laid BY PROGRAM, IN A SANDBOX (cutbox-rows.mjs): the forced cells as the released guide's own fill.sh prints them over the translation 260d1274cd724def… (all of the seat's roots in one cut). By AI agents, Wed Nov 11 2026. No macro, syntax, notation, axiom, sorry.
-/
import Derived.Test.YtgfahcdhbpaofaaChecked
import GoSem.Claim
import GoSem.ClaimJoined
import GoSem.ClaimMapViews
import Derived.JoinedTies
import Derived.KernelRfl
namespace Go.Proofs.Ytgfahcdhbpaofaa
/- THE CELL 'sum', in the pinned program and in every row, IS THE sha256 OF THE DUMP (.gsa) THAT YtgfahcdhbpaofaaProg.lean LOADS. Nothing in Lean hashes anything: it is a label: what it is worth is what the hold of that sum in a sandbox is worth. -/
noncomputable def Try.pinned : Pinned := { name := "ytgfahcdhbpaofaa", sum := "260d1274cd724def1c6f9dc9030915dc95358dae3eea4187b2a613c4d93eb558", checked := Try.checked }
namespace Rows
def none {H : Type} : Left H := { results := [], args := [] }

/-- 'viaductlaw12.GroupAllows': WHATEVER THE INPUT: true; the input reads as it did. -/
def groupAllowsSpec : ChangeSpec := { name := "groupAllows", fn := fun _ => fun
  | [d1, d2] => { results := [.lit (.bool true)], args := [d1, d2] }
  | _ => none }
def groupAllowsRow : OpenClaim := { program := "ytgfahcdhbpaofaa", sum := "260d1274cd724def1c6f9dc9030915dc95358dae3eea4187b2a613c4d93eb558", func := "viaduct/viaductlaw12.GroupAllows", spec := "groupAllows", apart := false }
def GroupAllowsSaid : Prop := groupAllowsRow.holds Try.pinned (OpenSpec.ofChange groupAllowsSpec)

/-- ITS FALSE NEIGHBOUR: 'it returns false'. Refute it at one input. -/
def groupAllowsWrong : ChangeSpec := { name := "groupAllows", fn := fun _ => fun
  | [d1, d2] => { results := [.lit (.bool false)], args := [d1, d2] }
  | _ => none }
def GroupAllowsWrongFalsely : Prop := groupAllowsRow.holds Try.pinned (OpenSpec.ofChange groupAllowsWrong)

/-- 'viaductlaw12.GroupCovers': WHATEVER THE INPUT: true; the input reads as it did. -/
def groupCoversSpec : ChangeSpec := { name := "groupCovers", fn := fun _ => fun
  | [d1, d2] => { results := [.lit (.bool true)], args := [d1, d2] }
  | _ => none }
def groupCoversRow : OpenClaim := { program := "ytgfahcdhbpaofaa", sum := "260d1274cd724def1c6f9dc9030915dc95358dae3eea4187b2a613c4d93eb558", func := "viaduct/viaductlaw12.GroupCovers", spec := "groupCovers", apart := false }
def GroupCoversSaid : Prop := groupCoversRow.holds Try.pinned (OpenSpec.ofChange groupCoversSpec)

/-- ITS FALSE NEIGHBOUR: 'it returns false'. Refute it at one input. -/
def groupCoversWrong : ChangeSpec := { name := "groupCovers", fn := fun _ => fun
  | [d1, d2] => { results := [.lit (.bool false)], args := [d1, d2] }
  | _ => none }
def GroupCoversWrongFalsely : Prop := groupCoversRow.holds Try.pinned (OpenSpec.ofChange groupCoversWrong)

/-- 'viaductlaw12.GroupLess': WHATEVER THE INPUT: true; the input reads as it did. -/
def groupLessSpec : ChangeSpec := { name := "groupLess", fn := fun _ => fun
  | [d1, d2, d3] => { results := [.lit (.bool true)], args := [d1, d2, d3] }
  | _ => none }
def groupLessRow : OpenClaim := { program := "ytgfahcdhbpaofaa", sum := "260d1274cd724def1c6f9dc9030915dc95358dae3eea4187b2a613c4d93eb558", func := "viaduct/viaductlaw12.GroupLess", spec := "groupLess", apart := false }
def GroupLessSaid : Prop := groupLessRow.holds Try.pinned (OpenSpec.ofChange groupLessSpec)

/-- ITS FALSE NEIGHBOUR: 'it returns false'. Refute it at one input. -/
def groupLessWrong : ChangeSpec := { name := "groupLess", fn := fun _ => fun
  | [d1, d2, d3] => { results := [.lit (.bool false)], args := [d1, d2, d3] }
  | _ => none }
def GroupLessWrongFalsely : Prop := groupLessRow.holds Try.pinned (OpenSpec.ofChange groupLessWrong)

/-- 'viaductlaw12.GroupOrder': WHATEVER THE INPUT: true; the input reads as it did. -/
def groupOrderSpec : ChangeSpec := { name := "groupOrder", fn := fun _ => fun
  | [d1, d2, d3] => { results := [.lit (.bool true)], args := [d1, d2, d3] }
  | _ => none }
def groupOrderRow : OpenClaim := { program := "ytgfahcdhbpaofaa", sum := "260d1274cd724def1c6f9dc9030915dc95358dae3eea4187b2a613c4d93eb558", func := "viaduct/viaductlaw12.GroupOrder", spec := "groupOrder", apart := false }
def GroupOrderSaid : Prop := groupOrderRow.holds Try.pinned (OpenSpec.ofChange groupOrderSpec)

/-- ITS FALSE NEIGHBOUR: 'it returns false'. Refute it at one input. -/
def groupOrderWrong : ChangeSpec := { name := "groupOrder", fn := fun _ => fun
  | [d1, d2, d3] => { results := [.lit (.bool false)], args := [d1, d2, d3] }
  | _ => none }
def GroupOrderWrongFalsely : Prop := groupOrderRow.holds Try.pinned (OpenSpec.ofChange groupOrderWrong)

/-- 'viaductlaw12.GroupMore': WHATEVER THE INPUT: true; the input reads as it did. -/
def groupMoreSpec : ChangeSpec := { name := "groupMore", fn := fun _ => fun
  | [d1, d2, d3] => { results := [.lit (.bool true)], args := [d1, d2, d3] }
  | _ => none }
def groupMoreRow : OpenClaim := { program := "ytgfahcdhbpaofaa", sum := "260d1274cd724def1c6f9dc9030915dc95358dae3eea4187b2a613c4d93eb558", func := "viaduct/viaductlaw12.GroupMore", spec := "groupMore", apart := false }
def GroupMoreSaid : Prop := groupMoreRow.holds Try.pinned (OpenSpec.ofChange groupMoreSpec)

/-- ITS FALSE NEIGHBOUR: 'it returns false'. Refute it at one input. -/
def groupMoreWrong : ChangeSpec := { name := "groupMore", fn := fun _ => fun
  | [d1, d2, d3] => { results := [.lit (.bool false)], args := [d1, d2, d3] }
  | _ => none }
def GroupMoreWrongFalsely : Prop := groupMoreRow.holds Try.pinned (OpenSpec.ofChange groupMoreWrong)

/- THE SECOND FORM. 'bulk': how many values and letters a reading holds, each counted each time it is reached (what is shared counts as often as it is met; a slice's spare places count too). A statement '..UptoSaid' is the law's where the arguments, and the package variables that the reading takes, are together of bulk at most 1048576: NARROWER than '..Said'. Prove '..Said' where nothing that the law and all that it calls make is longer than what came in: it says more and counts as full. Else prove '..UptoSaid'. A law counts once. -/
mutual
def uptoBulk {H : Type} : DataW H → Nat
  | .lit (.string bytes) => bytes.length + 1
  | .lit _ => 1
  | .nil => 1
  | .ptr d => uptoBulk d + 1
  | .slice elems spare => uptoBulkAll elems + uptoBulkAll spare + 1
  | .agg parts => uptoBulkAll parts + 1
  | .iface _ d => uptoBulk d + 1
  | .map entries => uptoBulkEntries entries + 1
  | .held _ => 1
def uptoBulkAll {H : Type} : List (DataW H) → Nat
  | [] => 0
  | d :: r => uptoBulk d + uptoBulkAll r
def uptoBulkEntries {H : Type} : List (Lit × DataW H) → Nat
  | [] => 0
  | x :: r => uptoBulkEntry x + uptoBulkEntries r
def uptoBulkEntry {H : Type} : Lit × DataW H → Nat
  | (.string bytes, d) => bytes.length + uptoBulk d + 1
  | (_, d) => uptoBulk d + 1
 end
def uptoSmall : (H : Type) → List (DataW H) → Bool := fun _ ds => decide (uptoBulkAll ds ≤ 1048576)
def OpenSpec.upto (s : _root_.Go.ChangeSpec) : _root_.Go.OpenSpec := { _root_.Go.OpenSpec.ofChange s with cond := some uptoSmall }

/-- 'viaductlaw12.GroupAllows', WHERE WHAT IT READS IS OF BULK AT MOST 1048576: true; the input reads as it did. -/
def groupAllowsUptoRow : OpenClaim := { program := "ytgfahcdhbpaofaa", sum := "260d1274cd724def1c6f9dc9030915dc95358dae3eea4187b2a613c4d93eb558", func := "viaduct/viaductlaw12.GroupAllows", spec := "groupAllows", apart := false, narrowed := true }
def GroupAllowsUptoSaid : Prop := groupAllowsUptoRow.holds Try.pinned (OpenSpec.upto groupAllowsSpec)

/-- 'viaductlaw12.GroupCovers', WHERE WHAT IT READS IS OF BULK AT MOST 1048576: true; the input reads as it did. -/
def groupCoversUptoRow : OpenClaim := { program := "ytgfahcdhbpaofaa", sum := "260d1274cd724def1c6f9dc9030915dc95358dae3eea4187b2a613c4d93eb558", func := "viaduct/viaductlaw12.GroupCovers", spec := "groupCovers", apart := false, narrowed := true }
def GroupCoversUptoSaid : Prop := groupCoversUptoRow.holds Try.pinned (OpenSpec.upto groupCoversSpec)

/-- 'viaductlaw12.GroupLess', WHERE WHAT IT READS IS OF BULK AT MOST 1048576: true; the input reads as it did. -/
def groupLessUptoRow : OpenClaim := { program := "ytgfahcdhbpaofaa", sum := "260d1274cd724def1c6f9dc9030915dc95358dae3eea4187b2a613c4d93eb558", func := "viaduct/viaductlaw12.GroupLess", spec := "groupLess", apart := false, narrowed := true }
def GroupLessUptoSaid : Prop := groupLessUptoRow.holds Try.pinned (OpenSpec.upto groupLessSpec)

/-- 'viaductlaw12.GroupOrder', WHERE WHAT IT READS IS OF BULK AT MOST 1048576: true; the input reads as it did. -/
def groupOrderUptoRow : OpenClaim := { program := "ytgfahcdhbpaofaa", sum := "260d1274cd724def1c6f9dc9030915dc95358dae3eea4187b2a613c4d93eb558", func := "viaduct/viaductlaw12.GroupOrder", spec := "groupOrder", apart := false, narrowed := true }
def GroupOrderUptoSaid : Prop := groupOrderUptoRow.holds Try.pinned (OpenSpec.upto groupOrderSpec)

/-- 'viaductlaw12.GroupMore', WHERE WHAT IT READS IS OF BULK AT MOST 1048576: true; the input reads as it did. -/
def groupMoreUptoRow : OpenClaim := { program := "ytgfahcdhbpaofaa", sum := "260d1274cd724def1c6f9dc9030915dc95358dae3eea4187b2a613c4d93eb558", func := "viaduct/viaductlaw12.GroupMore", spec := "groupMore", apart := false, narrowed := true }
def GroupMoreUptoSaid : Prop := groupMoreUptoRow.holds Try.pinned (OpenSpec.upto groupMoreSpec)

end Rows
end Go.Proofs.Ytgfahcdhbpaofaa
