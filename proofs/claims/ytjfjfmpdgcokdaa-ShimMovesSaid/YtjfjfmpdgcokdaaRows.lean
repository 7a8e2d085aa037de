/-
  No cell of these rows narrows 'for every input' (looked for: loops, veiled, ifaces, maps, wideKeys, modest, calm, conditions, laid).
  DERIVED. THE GIVEN ROWS OF THIS SEAT. 6 by the template 'for every input the law returns true; each argument reads behind the call as it read before'; 0 by the template 'total and deterministic' (their statements: YtjfjfmpdgcokdaaTotals.lean).
  GIVEN WITH THE SEED: the statements are not yours to turn. If you find one false, say at which input.
  Laid BY PROGRAM, IN A SANDBOX (cutbox-rows.mjs): the forced cells as the released guide's own fill.sh prints them over the translation f93ce492b0c36330… (all of the seat's roots in one cut). By AI agents, Wed Nov 11 2026. No macro, syntax, notation, axiom, sorry.
-/
import Derived.Test.YtjfjfmpdgcokdaaChecked
import GoSem.Claim
import GoSem.ClaimJoined
import GoSem.ClaimMapViews
import Derived.JoinedTies
import Derived.KernelRfl
namespace Go.Proofs.Ytjfjfmpdgcokdaa
/- THE CELL 'sum', in the pinned program and in every row, IS THE sha256 OF THE DUMP (.gsa) THAT YtjfjfmpdgcokdaaProg.lean LOADS. Nothing in Lean hashes anything: it is a label: what it is worth is what the hold of that sum in a sandbox is worth. -/
noncomputable def Try.pinned : Pinned := { name := "ytjfjfmpdgcokdaa", sum := "f93ce492b0c36330ad88e120a8c51e0359153d69dc8741bcb3366c0281bf56ce", checked := Try.checked }
namespace Rows
def none {H : Type} : Left H := { results := [], args := [] }

/-- 'viaductlaw03.ShimEncodes': WHATEVER THE INPUT: true; the input reads as it did. -/
def shimEncodesSpec : ChangeSpec := { name := "shimEncodes", fn := fun _ => fun
  | [d1, d2] => { results := [.lit (.bool true)], args := [d1, d2] }
  | _ => none }
def shimEncodesRow : OpenClaim := { program := "ytjfjfmpdgcokdaa", sum := "f93ce492b0c36330ad88e120a8c51e0359153d69dc8741bcb3366c0281bf56ce", func := "viaduct/viaductlaw03.ShimEncodes", spec := "shimEncodes", apart := false }
def ShimEncodesSaid : Prop := shimEncodesRow.holds Try.pinned (OpenSpec.ofChange shimEncodesSpec)

/-- ITS FALSE NEIGHBOUR: 'it returns false'. Refute it at one input. -/
def shimEncodesWrong : ChangeSpec := { name := "shimEncodes", fn := fun _ => fun
  | [d1, d2] => { results := [.lit (.bool false)], args := [d1, d2] }
  | _ => none }
def ShimEncodesWrongFalsely : Prop := shimEncodesRow.holds Try.pinned (OpenSpec.ofChange shimEncodesWrong)

/-- 'viaductlaw03.ShimDecodes': WHATEVER THE INPUT: true; the input reads as it did. -/
def shimDecodesSpec : ChangeSpec := { name := "shimDecodes", fn := fun _ => fun
  | [d] => { results := [.lit (.bool true)], args := [d] }
  | _ => none }
def shimDecodesRow : OpenClaim := { program := "ytjfjfmpdgcokdaa", sum := "f93ce492b0c36330ad88e120a8c51e0359153d69dc8741bcb3366c0281bf56ce", func := "viaduct/viaductlaw03.ShimDecodes", spec := "shimDecodes", apart := false }
def ShimDecodesSaid : Prop := shimDecodesRow.holds Try.pinned (OpenSpec.ofChange shimDecodesSpec)

/-- ITS FALSE NEIGHBOUR: 'it returns false'. Refute it at one input. -/
def shimDecodesWrong : ChangeSpec := { name := "shimDecodes", fn := fun _ => fun
  | [d] => { results := [.lit (.bool false)], args := [d] }
  | _ => none }
def ShimDecodesWrongFalsely : Prop := shimDecodesRow.holds Try.pinned (OpenSpec.ofChange shimDecodesWrong)

/-- 'viaductlaw03.ShimMoves': WHATEVER THE INPUT: true; the input reads as it did. -/
def shimMovesSpec : ChangeSpec := { name := "shimMoves", fn := fun _ => fun
  | [d1, d2] => { results := [.lit (.bool true)], args := [d1, d2] }
  | _ => none }
def shimMovesRow : OpenClaim := { program := "ytjfjfmpdgcokdaa", sum := "f93ce492b0c36330ad88e120a8c51e0359153d69dc8741bcb3366c0281bf56ce", func := "viaduct/viaductlaw03.ShimMoves", spec := "shimMoves", apart := false }
def ShimMovesSaid : Prop := shimMovesRow.holds Try.pinned (OpenSpec.ofChange shimMovesSpec)

/-- ITS FALSE NEIGHBOUR: 'it returns false'. Refute it at one input. -/
def shimMovesWrong : ChangeSpec := { name := "shimMoves", fn := fun _ => fun
  | [d1, d2] => { results := [.lit (.bool false)], args := [d1, d2] }
  | _ => none }
def ShimMovesWrongFalsely : Prop := shimMovesRow.holds Try.pinned (OpenSpec.ofChange shimMovesWrong)

/-- 'viaductlaw03.ShimBack': WHATEVER THE INPUT: true; the input reads as it did. -/
def shimBackSpec : ChangeSpec := { name := "shimBack", fn := fun _ => fun
  | [d1, d2] => { results := [.lit (.bool true)], args := [d1, d2] }
  | _ => none }
def shimBackRow : OpenClaim := { program := "ytjfjfmpdgcokdaa", sum := "f93ce492b0c36330ad88e120a8c51e0359153d69dc8741bcb3366c0281bf56ce", func := "viaduct/viaductlaw03.ShimBack", spec := "shimBack", apart := false }
def ShimBackSaid : Prop := shimBackRow.holds Try.pinned (OpenSpec.ofChange shimBackSpec)

/-- ITS FALSE NEIGHBOUR: 'it returns false'. Refute it at one input. -/
def shimBackWrong : ChangeSpec := { name := "shimBack", fn := fun _ => fun
  | [d1, d2] => { results := [.lit (.bool false)], args := [d1, d2] }
  | _ => none }
def ShimBackWrongFalsely : Prop := shimBackRow.holds Try.pinned (OpenSpec.ofChange shimBackWrong)

/-- 'viaductlaw03.ShimLast': WHATEVER THE INPUT: true; the input reads as it did. -/
def shimLastSpec : ChangeSpec := { name := "shimLast", fn := fun _ => fun
  | [d] => { results := [.lit (.bool true)], args := [d] }
  | _ => none }
def shimLastRow : OpenClaim := { program := "ytjfjfmpdgcokdaa", sum := "f93ce492b0c36330ad88e120a8c51e0359153d69dc8741bcb3366c0281bf56ce", func := "viaduct/viaductlaw03.ShimLast", spec := "shimLast", apart := false }
def ShimLastSaid : Prop := shimLastRow.holds Try.pinned (OpenSpec.ofChange shimLastSpec)

/-- ITS FALSE NEIGHBOUR: 'it returns false'. Refute it at one input. -/
def shimLastWrong : ChangeSpec := { name := "shimLast", fn := fun _ => fun
  | [d] => { results := [.lit (.bool false)], args := [d] }
  | _ => none }
def ShimLastWrongFalsely : Prop := shimLastRow.holds Try.pinned (OpenSpec.ofChange shimLastWrong)

/-- 'viaductlaw03.ShimRest': WHATEVER THE INPUT: true; the input reads as it did. -/
def shimRestSpec : ChangeSpec := { name := "shimRest", fn := fun _ => fun
  | [d1, d2] => { results := [.lit (.bool true)], args := [d1, d2] }
  | _ => none }
def shimRestRow : OpenClaim := { program := "ytjfjfmpdgcokdaa", sum := "f93ce492b0c36330ad88e120a8c51e0359153d69dc8741bcb3366c0281bf56ce", func := "viaduct/viaductlaw03.ShimRest", spec := "shimRest", apart := false }
def ShimRestSaid : Prop := shimRestRow.holds Try.pinned (OpenSpec.ofChange shimRestSpec)

/-- ITS FALSE NEIGHBOUR: 'it returns false'. Refute it at one input. -/
def shimRestWrong : ChangeSpec := { name := "shimRest", fn := fun _ => fun
  | [d1, d2] => { results := [.lit (.bool false)], args := [d1, d2] }
  | _ => none }
def ShimRestWrongFalsely : Prop := shimRestRow.holds Try.pinned (OpenSpec.ofChange shimRestWrong)

/- THE SECOND FORM. 'bulk': how many values and letters a reading holds, each counted each time it is reached (what is shared counts as often as it is met; a slice's spare places count too). A statement '..UptoSaid' is the law's where the arguments, and the package variables that the reading takes, are together of bulk at most 1048576: NARROWER than '..Said'. Prove '..Said' where nothing that the law and all that it calls make is longer than what came in: it says more and counts as full. Else prove '..UptoSaid'. A law counts once. -/
mutual
def uptoBulk {H : Type} : DataW H → Nat
  | .lit (.string bytes) => bytes.length + 1
  | .lit _ => 1
  | .nil => 1
  | .ptr d => uptoBulk d + 1
  | .slice elems spare => uptoBulkAll elems + uptoBulkAll spare + 1
  | .agg parts => uptoBulkAll parts + 1
  | .iface _ d => uptoBulk d + 1
  | .map entries => uptoBulkEntries entries + 1
  | .held _ => 1
def uptoBulkAll {H : Type} : List (DataW H) → Nat
  | [] => 0
  | d :: r => uptoBulk d + uptoBulkAll r
def uptoBulkEntries {H : Type} : List (Lit × DataW H) → Nat
  | [] => 0
  | x :: r => uptoBulkEntry x + uptoBulkEntries r
def uptoBulkEntry {H : Type} : Lit × DataW H → Nat
  | (.string bytes, d) => bytes.length + uptoBulk d + 1
  | (_, d) => uptoBulk d + 1
 end
def uptoSmall : (H : Type) → List (DataW H) → Bool := fun _ ds => decide (uptoBulkAll ds ≤ 1048576)
def OpenSpec.upto (s : _root_.Go.ChangeSpec) : _root_.Go.OpenSpec := { _root_.Go.OpenSpec.ofChange s with cond := some uptoSmall }

/-- 'viaductlaw03.ShimEncodes', WHERE WHAT IT READS IS OF BULK AT MOST 1048576: true; the input reads as it did. -/
def shimEncodesUptoRow : OpenClaim := { program := "ytjfjfmpdgcokdaa", sum := "f93ce492b0c36330ad88e120a8c51e0359153d69dc8741bcb3366c0281bf56ce", func := "viaduct/viaductlaw03.ShimEncodes", spec := "shimEncodes", apart := false, narrowed := true }
def ShimEncodesUptoSaid : Prop := shimEncodesUptoRow.holds Try.pinned (OpenSpec.upto shimEncodesSpec)

/-- 'viaductlaw03.ShimDecodes', WHERE WHAT IT READS IS OF BULK AT MOST 1048576: true; the input reads as it did. -/
def shimDecodesUptoRow : OpenClaim := { program := "ytjfjfmpdgcokdaa", sum := "f93ce492b0c36330ad88e120a8c51e0359153d69dc8741bcb3366c0281bf56ce", func := "viaduct/viaductlaw03.ShimDecodes", spec := "shimDecodes", apart := false, narrowed := true }
def ShimDecodesUptoSaid : Prop := shimDecodesUptoRow.holds Try.pinned (OpenSpec.upto shimDecodesSpec)

/-- 'viaductlaw03.ShimMoves', WHERE WHAT IT READS IS OF BULK AT MOST 1048576: true; the input reads as it did. -/
def shimMovesUptoRow : OpenClaim := { program := "ytjfjfmpdgcokdaa", sum := "f93ce492b0c36330ad88e120a8c51e0359153d69dc8741bcb3366c0281bf56ce", func := "viaduct/viaductlaw03.ShimMoves", spec := "shimMoves", apart := false, narrowed := true }
def ShimMovesUptoSaid : Prop := shimMovesUptoRow.holds Try.pinned (OpenSpec.upto shimMovesSpec)

/-- 'viaductlaw03.ShimBack', WHERE WHAT IT READS IS OF BULK AT MOST 1048576: true; the input reads as it did. -/
def shimBackUptoRow : OpenClaim := { program := "ytjfjfmpdgcokdaa", sum := "f93ce492b0c36330ad88e120a8c51e0359153d69dc8741bcb3366c0281bf56ce", func := "viaduct/viaductlaw03.ShimBack", spec := "shimBack", apart := false, narrowed := true }
def ShimBackUptoSaid : Prop := shimBackUptoRow.holds Try.pinned (OpenSpec.upto shimBackSpec)

/-- 'viaductlaw03.ShimLast', WHERE WHAT IT READS IS OF BULK AT MOST 1048576: true; the input reads as it did. -/
def shimLastUptoRow : OpenClaim := { program := "ytjfjfmpdgcokdaa", sum := "f93ce492b0c36330ad88e120a8c51e0359153d69dc8741bcb3366c0281bf56ce", func := "viaduct/viaductlaw03.ShimLast", spec := "shimLast", apart := false, narrowed := true }
def ShimLastUptoSaid : Prop := shimLastUptoRow.holds Try.pinned (OpenSpec.upto shimLastSpec)

/-- 'viaductlaw03.ShimRest', WHERE WHAT IT READS IS OF BULK AT MOST 1048576: true; the input reads as it did. -/
def shimRestUptoRow : OpenClaim := { program := "ytjfjfmpdgcokdaa", sum := "f93ce492b0c36330ad88e120a8c51e0359153d69dc8741bcb3366c0281bf56ce", func := "viaduct/viaductlaw03.ShimRest", spec := "shimRest", apart := false, narrowed := true }
def ShimRestUptoSaid : Prop := shimRestUptoRow.holds Try.pinned (OpenSpec.upto shimRestSpec)

end Rows
end Go.Proofs.Ytjfjfmpdgcokdaa
