/-
  No cell of these rows narrows 'for every input' (looked for: loops, veiled, ifaces, maps, wideKeys, modest, calm, conditions, laid).
  DERIVED. THE GIVEN ROWS OF THIS SEAT. 5 by the template 'for every input the law returns true; each argument reads behind the call as it read before'; 0 by the template 'total and deterministic' (their statements: YtmffmoflelnmoaaTotals.lean).
  GIVEN WITH THE SEED: the statements are not yours to turn. If you find one false, say at which input.
  Laid BY PROGRAM, IN A SANDBOX (cutbox-rows.mjs): the forced cells as the released guide's own fill.sh prints them over the translation cfd1933a4999595f… (all of the seat's roots in one cut). By AI agents, Wed Nov 11 2026. No macro, syntax, notation, axiom, sorry.
-/
import Derived.Test.YtmffmoflelnmoaaChecked
import GoSem.Claim
import GoSem.ClaimJoined
import GoSem.ClaimMapViews
import Derived.JoinedTies
import Derived.KernelRfl
namespace Go.Proofs.Ytmffmoflelnmoaa
/- THE CELL 'sum', in the pinned program and in every row, IS THE sha256 OF THE DUMP (.gsa) THAT YtmffmoflelnmoaaProg.lean LOADS. Nothing in Lean hashes anything: it is a label: what it is worth is what the hold of that sum in a sandbox is worth. -/
noncomputable def Try.pinned : Pinned := { name := "ytmffmoflelnmoaa", sum := "cfd1933a4999595fe9824e4c607833a6575c7e645badf8e2eb8ebf8cca354ee4", checked := Try.checked }
namespace Rows
def none {H : Type} : Left H := { results := [], args := [] }

/-- 'viaductlaw16.PruneFits': WHATEVER THE INPUT: true; the input reads as it did. -/
def pruneFitsSpec : ChangeSpec := { name := "pruneFits", fn := fun _ => fun
  | [d1, d2] => { results := [.lit (.bool true)], args := [d1, d2] }
  | _ => none }
def pruneFitsRow : OpenClaim := { program := "ytmffmoflelnmoaa", sum := "cfd1933a4999595fe9824e4c607833a6575c7e645badf8e2eb8ebf8cca354ee4", func := "viaduct/viaductlaw16.PruneFits", spec := "pruneFits", apart := false }
def PruneFitsSaid : Prop := pruneFitsRow.holds Try.pinned (OpenSpec.ofChange pruneFitsSpec)

/-- ITS FALSE NEIGHBOUR: 'it returns false'. Refute it at one input. -/
def pruneFitsWrong : ChangeSpec := { name := "pruneFits", fn := fun _ => fun
  | [d1, d2] => { results := [.lit (.bool false)], args := [d1, d2] }
  | _ => none }
def PruneFitsWrongFalsely : Prop := pruneFitsRow.holds Try.pinned (OpenSpec.ofChange pruneFitsWrong)

/-- 'viaductlaw16.PruneMore': WHATEVER THE INPUT: true; the input reads as it did. -/
def pruneMoreSpec : ChangeSpec := { name := "pruneMore", fn := fun _ => fun
  | [d1, d2, d3] => { results := [.lit (.bool true)], args := [d1, d2, d3] }
  | _ => none }
def pruneMoreRow : OpenClaim := { program := "ytmffmoflelnmoaa", sum := "cfd1933a4999595fe9824e4c607833a6575c7e645badf8e2eb8ebf8cca354ee4", func := "viaduct/viaductlaw16.PruneMore", spec := "pruneMore", apart := false }
def PruneMoreSaid : Prop := pruneMoreRow.holds Try.pinned (OpenSpec.ofChange pruneMoreSpec)

/-- ITS FALSE NEIGHBOUR: 'it returns false'. Refute it at one input. -/
def pruneMoreWrong : ChangeSpec := { name := "pruneMore", fn := fun _ => fun
  | [d1, d2, d3] => { results := [.lit (.bool false)], args := [d1, d2, d3] }
  | _ => none }
def PruneMoreWrongFalsely : Prop := pruneMoreRow.holds Try.pinned (OpenSpec.ofChange pruneMoreWrong)

/-- 'viaductlaw16.PruneParts': WHATEVER THE INPUT: true; the input reads as it did. -/
def prunePartsSpec : ChangeSpec := { name := "pruneParts", fn := fun _ => fun
  | [d1, d2] => { results := [.lit (.bool true)], args := [d1, d2] }
  | _ => none }
def prunePartsRow : OpenClaim := { program := "ytmffmoflelnmoaa", sum := "cfd1933a4999595fe9824e4c607833a6575c7e645badf8e2eb8ebf8cca354ee4", func := "viaduct/viaductlaw16.PruneParts", spec := "pruneParts", apart := false }
def PrunePartsSaid : Prop := prunePartsRow.holds Try.pinned (OpenSpec.ofChange prunePartsSpec)

/-- ITS FALSE NEIGHBOUR: 'it returns false'. Refute it at one input. -/
def prunePartsWrong : ChangeSpec := { name := "pruneParts", fn := fun _ => fun
  | [d1, d2] => { results := [.lit (.bool false)], args := [d1, d2] }
  | _ => none }
def PrunePartsWrongFalsely : Prop := prunePartsRow.holds Try.pinned (OpenSpec.ofChange prunePartsWrong)

/-- 'viaductlaw16.PruneDown': WHATEVER THE INPUT: true; the input reads as it did. -/
def pruneDownSpec : ChangeSpec := { name := "pruneDown", fn := fun _ => fun
  | [d1, d2] => { results := [.lit (.bool true)], args := [d1, d2] }
  | _ => none }
def pruneDownRow : OpenClaim := { program := "ytmffmoflelnmoaa", sum := "cfd1933a4999595fe9824e4c607833a6575c7e645badf8e2eb8ebf8cca354ee4", func := "viaduct/viaductlaw16.PruneDown", spec := "pruneDown", apart := false }
def PruneDownSaid : Prop := pruneDownRow.holds Try.pinned (OpenSpec.ofChange pruneDownSpec)

/-- ITS FALSE NEIGHBOUR: 'it returns false'. Refute it at one input. -/
def pruneDownWrong : ChangeSpec := { name := "pruneDown", fn := fun _ => fun
  | [d1, d2] => { results := [.lit (.bool false)], args := [d1, d2] }
  | _ => none }
def PruneDownWrongFalsely : Prop := pruneDownRow.holds Try.pinned (OpenSpec.ofChange pruneDownWrong)

/-- 'viaducttop.WholeFits': WHATEVER THE INPUT: true; the input reads as it did. -/
def wholeFitsSpec : ChangeSpec := { name := "wholeFits", fn := fun _ => fun
  | [d1, d2, d3] => { results := [.lit (.bool true)], args := [d1, d2, d3] }
  | _ => none }
def wholeFitsRow : OpenClaim := { program := "ytmffmoflelnmoaa", sum := "cfd1933a4999595fe9824e4c607833a6575c7e645badf8e2eb8ebf8cca354ee4", func := "viaduct/viaducttop.WholeFits", spec := "wholeFits", unfollowed := true, recurses := true, apart := false }
def WholeFitsSaid : Prop := wholeFitsRow.holds Try.pinned (OpenSpec.ofChange wholeFitsSpec)

/-- ITS FALSE NEIGHBOUR: 'it returns false'. Refute it at one input. -/
def wholeFitsWrong : ChangeSpec := { name := "wholeFits", fn := fun _ => fun
  | [d1, d2, d3] => { results := [.lit (.bool false)], args := [d1, d2, d3] }
  | _ => none }
def WholeFitsWrongFalsely : Prop := wholeFitsRow.holds Try.pinned (OpenSpec.ofChange wholeFitsWrong)

/- THE SECOND FORM. 'bulk': how many values and letters a reading holds, each counted each time it is reached (what is shared counts as often as it is met; a slice's spare places count too). A statement '..UptoSaid' is the law's where the arguments, and the package variables that the reading takes, are together of bulk at most 1048576: NARROWER than '..Said'. Prove '..Said' where nothing that the law and all that it calls make is longer than what came in: it says more and counts as full. Else prove '..UptoSaid'. A law counts once. -/
mutual
def uptoBulk {H : Type} : DataW H → Nat
  | .lit (.string bytes) => bytes.length + 1
  | .lit _ => 1
  | .nil => 1
  | .ptr d => uptoBulk d + 1
  | .slice elems spare => uptoBulkAll elems + uptoBulkAll spare + 1
  | .agg parts => uptoBulkAll parts + 1
  | .iface _ d => uptoBulk d + 1
  | .map entries => uptoBulkEntries entries + 1
  | .held _ => 1
def uptoBulkAll {H : Type} : List (DataW H) → Nat
  | [] => 0
  | d :: r => uptoBulk d + uptoBulkAll r
def uptoBulkEntries {H : Type} : List (Lit × DataW H) → Nat
  | [] => 0
  | x :: r => uptoBulkEntry x + uptoBulkEntries r
def uptoBulkEntry {H : Type} : Lit × DataW H → Nat
  | (.string bytes, d) => bytes.length + uptoBulk d + 1
  | (_, d) => uptoBulk d + 1
 end
def uptoSmall : (H : Type) → List (DataW H) → Bool := fun _ ds => decide (uptoBulkAll ds ≤ 1048576)
def OpenSpec.upto (s : _root_.Go.ChangeSpec) : _root_.Go.OpenSpec := { _root_.Go.OpenSpec.ofChange s with cond := some uptoSmall }

/-- 'viaductlaw16.PruneFits', WHERE WHAT IT READS IS OF BULK AT MOST 1048576: true; the input reads as it did. -/
def pruneFitsUptoRow : OpenClaim := { program := "ytmffmoflelnmoaa", sum := "cfd1933a4999595fe9824e4c607833a6575c7e645badf8e2eb8ebf8cca354ee4", func := "viaduct/viaductlaw16.PruneFits", spec := "pruneFits", apart := false, narrowed := true }
def PruneFitsUptoSaid : Prop := pruneFitsUptoRow.holds Try.pinned (OpenSpec.upto pruneFitsSpec)

/-- 'viaductlaw16.PruneMore', WHERE WHAT IT READS IS OF BULK AT MOST 1048576: true; the input reads as it did. -/
def pruneMoreUptoRow : OpenClaim := { program := "ytmffmoflelnmoaa", sum := "cfd1933a4999595fe9824e4c607833a6575c7e645badf8e2eb8ebf8cca354ee4", func := "viaduct/viaductlaw16.PruneMore", spec := "pruneMore", apart := false, narrowed := true }
def PruneMoreUptoSaid : Prop := pruneMoreUptoRow.holds Try.pinned (OpenSpec.upto pruneMoreSpec)

/-- 'viaductlaw16.PruneParts', WHERE WHAT IT READS IS OF BULK AT MOST 1048576: true; the input reads as it did. -/
def prunePartsUptoRow : OpenClaim := { program := "ytmffmoflelnmoaa", sum := "cfd1933a4999595fe9824e4c607833a6575c7e645badf8e2eb8ebf8cca354ee4", func := "viaduct/viaductlaw16.PruneParts", spec := "pruneParts", apart := false, narrowed := true }
def PrunePartsUptoSaid : Prop := prunePartsUptoRow.holds Try.pinned (OpenSpec.upto prunePartsSpec)

/-- 'viaductlaw16.PruneDown', WHERE WHAT IT READS IS OF BULK AT MOST 1048576: true; the input reads as it did. -/
def pruneDownUptoRow : OpenClaim := { program := "ytmffmoflelnmoaa", sum := "cfd1933a4999595fe9824e4c607833a6575c7e645badf8e2eb8ebf8cca354ee4", func := "viaduct/viaductlaw16.PruneDown", spec := "pruneDown", apart := false, narrowed := true }
def PruneDownUptoSaid : Prop := pruneDownUptoRow.holds Try.pinned (OpenSpec.upto pruneDownSpec)

/-- 'viaducttop.WholeFits', WHERE WHAT IT READS IS OF BULK AT MOST 1048576: true; the input reads as it did. -/
def wholeFitsUptoRow : OpenClaim := { program := "ytmffmoflelnmoaa", sum := "cfd1933a4999595fe9824e4c607833a6575c7e645badf8e2eb8ebf8cca354ee4", func := "viaduct/viaducttop.WholeFits", spec := "wholeFits", unfollowed := true, recurses := true, apart := false, narrowed := true }
def WholeFitsUptoSaid : Prop := wholeFitsUptoRow.holds Try.pinned (OpenSpec.upto wholeFitsSpec)

end Rows
end Go.Proofs.Ytmffmoflelnmoaa
