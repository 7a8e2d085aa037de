/-
  No cell of these rows narrows 'for every input' (looked for: loops, veiled, ifaces, maps, wideKeys, modest, calm, conditions, laid).
  DERIVED. THE GIVEN ROWS OF THIS SEAT. 5 by the template 'for every input the law returns true; each argument reads behind the call as it read before'; 0 by the template 'total and deterministic' (their statements: YtkbbnfinmipenaaTotals.lean).
  GIVEN WITH THE SEED: the statements are not yours to turn. If you find one false, say at which input.
  Laid BY PROGRAM, IN A SANDBOX (cutbox-rows.mjs): the forced cells as the released guide's own fill.sh prints them over the translation 79c2a69331f81a3a… (all of the seat's roots in one cut). By AI agents, Wed Nov 11 2026. No macro, syntax, notation, axiom, sorry.
-/
import Derived.Test.YtkbbnfinmipenaaChecked
import GoSem.Claim
import GoSem.ClaimJoined
import GoSem.ClaimMapViews
import Derived.JoinedTies
import Derived.KernelRfl
namespace Go.Proofs.Ytkbbnfinmipenaa
/- THE CELL 'sum', in the pinned program and in every row, IS THE sha256 OF THE DUMP (.gsa) THAT YtkbbnfinmipenaaProg.lean LOADS. Nothing in Lean hashes anything: it is a label: what it is worth is what the hold of that sum in a sandbox is worth. -/
noncomputable def Try.pinned : Pinned := { name := "ytkbbnfinmipenaa", sum := "79c2a69331f81a3abe68c032dfec466ec3b64e5a31eb2c9612d1ba61b82a51b0", checked := Try.checked }
namespace Rows
def none {H : Type} : Left H := { results := [], args := [] }

/-- 'viaductlaw05.LfibActs': WHATEVER THE INPUT: true; the input reads as it did. -/
def lfibActsSpec : ChangeSpec := { name := "lfibActs", fn := fun _ => fun
  | [d1, d2] => { results := [.lit (.bool true)], args := [d1, d2] }
  | _ => none }
def lfibActsRow : OpenClaim := { program := "ytkbbnfinmipenaa", sum := "79c2a69331f81a3abe68c032dfec466ec3b64e5a31eb2c9612d1ba61b82a51b0", func := "viaduct/viaductlaw05.LfibActs", spec := "lfibActs", unfollowed := true, recurses := true, apart := false }
def LfibActsSaid : Prop := lfibActsRow.holds Try.pinned (OpenSpec.ofChange lfibActsSpec)

/-- ITS FALSE NEIGHBOUR: 'it returns false'. Refute it at one input. -/
def lfibActsWrong : ChangeSpec := { name := "lfibActs", fn := fun _ => fun
  | [d1, d2] => { results := [.lit (.bool false)], args := [d1, d2] }
  | _ => none }
def LfibActsWrongFalsely : Prop := lfibActsRow.holds Try.pinned (OpenSpec.ofChange lfibActsWrong)

/-- 'viaductlaw05.LfibTime': WHATEVER THE INPUT: true; the input reads as it did. -/
def lfibTimeSpec : ChangeSpec := { name := "lfibTime", fn := fun _ => fun
  | [d1, d2] => { results := [.lit (.bool true)], args := [d1, d2] }
  | _ => none }
def lfibTimeRow : OpenClaim := { program := "ytkbbnfinmipenaa", sum := "79c2a69331f81a3abe68c032dfec466ec3b64e5a31eb2c9612d1ba61b82a51b0", func := "viaduct/viaductlaw05.LfibTime", spec := "lfibTime", apart := false }
def LfibTimeSaid : Prop := lfibTimeRow.holds Try.pinned (OpenSpec.ofChange lfibTimeSpec)

/-- ITS FALSE NEIGHBOUR: 'it returns false'. Refute it at one input. -/
def lfibTimeWrong : ChangeSpec := { name := "lfibTime", fn := fun _ => fun
  | [d1, d2] => { results := [.lit (.bool false)], args := [d1, d2] }
  | _ => none }
def LfibTimeWrongFalsely : Prop := lfibTimeRow.holds Try.pinned (OpenSpec.ofChange lfibTimeWrong)

/-- 'viaductlaw05.LfibNobody': WHATEVER THE INPUT: true; the input reads as it did. -/
def lfibNobodySpec : ChangeSpec := { name := "lfibNobody", fn := fun _ => fun
  | [d] => { results := [.lit (.bool true)], args := [d] }
  | _ => none }
def lfibNobodyRow : OpenClaim := { program := "ytkbbnfinmipenaa", sum := "79c2a69331f81a3abe68c032dfec466ec3b64e5a31eb2c9612d1ba61b82a51b0", func := "viaduct/viaductlaw05.LfibNobody", spec := "lfibNobody", unfollowed := true, recurses := true, apart := false }
def LfibNobodySaid : Prop := lfibNobodyRow.holds Try.pinned (OpenSpec.ofChange lfibNobodySpec)

/-- ITS FALSE NEIGHBOUR: 'it returns false'. Refute it at one input. -/
def lfibNobodyWrong : ChangeSpec := { name := "lfibNobody", fn := fun _ => fun
  | [d] => { results := [.lit (.bool false)], args := [d] }
  | _ => none }
def LfibNobodyWrongFalsely : Prop := lfibNobodyRow.holds Try.pinned (OpenSpec.ofChange lfibNobodyWrong)

/-- 'viaductlaw05.LfibKeeps': WHATEVER THE INPUT: true; the input reads as it did. -/
def lfibKeepsSpec : ChangeSpec := { name := "lfibKeeps", fn := fun _ => fun
  | [d1, d2] => { results := [.lit (.bool true)], args := [d1, d2] }
  | _ => none }
def lfibKeepsRow : OpenClaim := { program := "ytkbbnfinmipenaa", sum := "79c2a69331f81a3abe68c032dfec466ec3b64e5a31eb2c9612d1ba61b82a51b0", func := "viaduct/viaductlaw05.LfibKeeps", spec := "lfibKeeps", unfollowed := true, recurses := true, apart := false }
def LfibKeepsSaid : Prop := lfibKeepsRow.holds Try.pinned (OpenSpec.ofChange lfibKeepsSpec)

/-- ITS FALSE NEIGHBOUR: 'it returns false'. Refute it at one input. -/
def lfibKeepsWrong : ChangeSpec := { name := "lfibKeeps", fn := fun _ => fun
  | [d1, d2] => { results := [.lit (.bool false)], args := [d1, d2] }
  | _ => none }
def LfibKeepsWrongFalsely : Prop := lfibKeepsRow.holds Try.pinned (OpenSpec.ofChange lfibKeepsWrong)

/-- 'viaducttop.WholeChain': WHATEVER THE INPUT: true; the input reads as it did. -/
def wholeChainSpec : ChangeSpec := { name := "wholeChain", fn := fun _ => fun
  | [d1, d2, d3] => { results := [.lit (.bool true)], args := [d1, d2, d3] }
  | _ => none }
def wholeChainRow : OpenClaim := { program := "ytkbbnfinmipenaa", sum := "79c2a69331f81a3abe68c032dfec466ec3b64e5a31eb2c9612d1ba61b82a51b0", func := "viaduct/viaducttop.WholeChain", spec := "wholeChain", apart := false }
def WholeChainSaid : Prop := wholeChainRow.holds Try.pinned (OpenSpec.ofChange wholeChainSpec)

/-- ITS FALSE NEIGHBOUR: 'it returns false'. Refute it at one input. -/
def wholeChainWrong : ChangeSpec := { name := "wholeChain", fn := fun _ => fun
  | [d1, d2, d3] => { results := [.lit (.bool false)], args := [d1, d2, d3] }
  | _ => none }
def WholeChainWrongFalsely : Prop := wholeChainRow.holds Try.pinned (OpenSpec.ofChange wholeChainWrong)

/- THE SECOND FORM. 'bulk': how many values and letters a reading holds, each counted each time it is reached (what is shared counts as often as it is met; a slice's spare places count too). A statement '..UptoSaid' is the law's where the arguments, and the package variables that the reading takes, are together of bulk at most 1048576: NARROWER than '..Said'. Prove '..Said' where nothing that the law and all that it calls make is longer than what came in: it says more and counts as full. Else prove '..UptoSaid'. A law counts once. -/
mutual
def uptoBulk {H : Type} : DataW H → Nat
  | .lit (.string bytes) => bytes.length + 1
  | .lit _ => 1
  | .nil => 1
  | .ptr d => uptoBulk d + 1
  | .slice elems spare => uptoBulkAll elems + uptoBulkAll spare + 1
  | .agg parts => uptoBulkAll parts + 1
  | .iface _ d => uptoBulk d + 1
  | .map entries => uptoBulkEntries entries + 1
  | .held _ => 1
def uptoBulkAll {H : Type} : List (DataW H) → Nat
  | [] => 0
  | d :: r => uptoBulk d + uptoBulkAll r
def uptoBulkEntries {H : Type} : List (Lit × DataW H) → Nat
  | [] => 0
  | x :: r => uptoBulkEntry x + uptoBulkEntries r
def uptoBulkEntry {H : Type} : Lit × DataW H → Nat
  | (.string bytes, d) => bytes.length + uptoBulk d + 1
  | (_, d) => uptoBulk d + 1
 end
def uptoSmall : (H : Type) → List (DataW H) → Bool := fun _ ds => decide (uptoBulkAll ds ≤ 1048576)
def OpenSpec.upto (s : _root_.Go.ChangeSpec) : _root_.Go.OpenSpec := { _root_.Go.OpenSpec.ofChange s with cond := some uptoSmall }

/-- 'viaductlaw05.LfibActs', WHERE WHAT IT READS IS OF BULK AT MOST 1048576: true; the input reads as it did. -/
def lfibActsUptoRow : OpenClaim := { program := "ytkbbnfinmipenaa", sum := "79c2a69331f81a3abe68c032dfec466ec3b64e5a31eb2c9612d1ba61b82a51b0", func := "viaduct/viaductlaw05.LfibActs", spec := "lfibActs", unfollowed := true, recurses := true, apart := false, narrowed := true }
def LfibActsUptoSaid : Prop := lfibActsUptoRow.holds Try.pinned (OpenSpec.upto lfibActsSpec)

/-- 'viaductlaw05.LfibTime', WHERE WHAT IT READS IS OF BULK AT MOST 1048576: true; the input reads as it did. -/
def lfibTimeUptoRow : OpenClaim := { program := "ytkbbnfinmipenaa", sum := "79c2a69331f81a3abe68c032dfec466ec3b64e5a31eb2c9612d1ba61b82a51b0", func := "viaduct/viaductlaw05.LfibTime", spec := "lfibTime", apart := false, narrowed := true }
def LfibTimeUptoSaid : Prop := lfibTimeUptoRow.holds Try.pinned (OpenSpec.upto lfibTimeSpec)

/-- 'viaductlaw05.LfibNobody', WHERE WHAT IT READS IS OF BULK AT MOST 1048576: true; the input reads as it did. -/
def lfibNobodyUptoRow : OpenClaim := { program := "ytkbbnfinmipenaa", sum := "79c2a69331f81a3abe68c032dfec466ec3b64e5a31eb2c9612d1ba61b82a51b0", func := "viaduct/viaductlaw05.LfibNobody", spec := "lfibNobody", unfollowed := true, recurses := true, apart := false, narrowed := true }
def LfibNobodyUptoSaid : Prop := lfibNobodyUptoRow.holds Try.pinned (OpenSpec.upto lfibNobodySpec)

/-- 'viaductlaw05.LfibKeeps', WHERE WHAT IT READS IS OF BULK AT MOST 1048576: true; the input reads as it did. -/
def lfibKeepsUptoRow : OpenClaim := { program := "ytkbbnfinmipenaa", sum := "79c2a69331f81a3abe68c032dfec466ec3b64e5a31eb2c9612d1ba61b82a51b0", func := "viaduct/viaductlaw05.LfibKeeps", spec := "lfibKeeps", unfollowed := true, recurses := true, apart := false, narrowed := true }
def LfibKeepsUptoSaid : Prop := lfibKeepsUptoRow.holds Try.pinned (OpenSpec.upto lfibKeepsSpec)

/-- 'viaducttop.WholeChain', WHERE WHAT IT READS IS OF BULK AT MOST 1048576: true; the input reads as it did. -/
def wholeChainUptoRow : OpenClaim := { program := "ytkbbnfinmipenaa", sum := "79c2a69331f81a3abe68c032dfec466ec3b64e5a31eb2c9612d1ba61b82a51b0", func := "viaduct/viaducttop.WholeChain", spec := "wholeChain", apart := false, narrowed := true }
def WholeChainUptoSaid : Prop := wholeChainUptoRow.holds Try.pinned (OpenSpec.upto wholeChainSpec)

end Rows
end Go.Proofs.Ytkbbnfinmipenaa
