/-
  No cell of these rows narrows 'for every input' (looked for: loops, veiled, ifaces, maps, wideKeys, modest, calm, conditions, laid).
  DERIVED. THE GIVEN ROWS OF THIS SEAT. 4 by the template 'for every input the law returns true; each argument reads behind the call as it read before'; 0 by the template 'total and deterministic' (their statements: YtogijfebfffobaaTotals.lean).
  GIVEN WITH THE SEED: the statements are not yours to turn. If you find one false, say at which input.
  Laid BY PROGRAM, IN A SANDBOX (cutbox-rows.mjs): the forced cells as the released guide's own fill.sh prints them over the translation 74a78637aa99e4b7… (all of the seat's roots in one cut). By AI agents, Wed Nov 11 2026. No macro, syntax, notation, axiom, sorry.
-/
import Derived.Test.YtogijfebfffobaaChecked
import GoSem.Claim
import GoSem.ClaimJoined
import GoSem.ClaimMapViews
import Derived.JoinedTies
import Derived.KernelRfl
namespace Go.Proofs.Ytogijfebfffobaa
/- THE CELL 'sum', in the pinned program and in every row, IS THE sha256 OF THE DUMP (.gsa) THAT YtogijfebfffobaaProg.lean LOADS. Nothing in Lean hashes anything: it is a label: what it is worth is what the hold of that sum in a sandbox is worth. -/
noncomputable def Try.pinned : Pinned := { name := "ytogijfebfffobaa", sum := "74a78637aa99e4b7fba60973c9000634f9af2b8ea2aeb421237c18c84bed09e0", checked := Try.checked }
namespace Rows
def none {H : Type} : Left H := { results := [], args := [] }

/-- 'viaductlaw18.SoftActs': WHATEVER THE INPUT: true; the input reads as it did. -/
def softActsSpec : ChangeSpec := { name := "softActs", fn := fun _ => fun
  | [d1, d2] => { results := [.lit (.bool true)], args := [d1, d2] }
  | _ => none }
def softActsRow : OpenClaim := { program := "ytogijfebfffobaa", sum := "74a78637aa99e4b7fba60973c9000634f9af2b8ea2aeb421237c18c84bed09e0", func := "viaduct/viaductlaw18.SoftActs", spec := "softActs", inPlace := ["slices.overlaps[viaduct/soft.State]"], unfollowed := true, recurses := true, apart := false }
def SoftActsSaid : Prop := softActsRow.holds Try.pinned (OpenSpec.ofChange softActsSpec)

/-- ITS FALSE NEIGHBOUR: 'it returns false'. Refute it at one input. -/
def softActsWrong : ChangeSpec := { name := "softActs", fn := fun _ => fun
  | [d1, d2] => { results := [.lit (.bool false)], args := [d1, d2] }
  | _ => none }
def SoftActsWrongFalsely : Prop := softActsRow.holds Try.pinned (OpenSpec.ofChange softActsWrong)

/-- 'viaductlaw18.SoftTime': WHATEVER THE INPUT: true; the input reads as it did. -/
def softTimeSpec : ChangeSpec := { name := "softTime", fn := fun _ => fun
  | [d1, d2, d3] => { results := [.lit (.bool true)], args := [d1, d2, d3] }
  | _ => none }
def softTimeRow : OpenClaim := { program := "ytogijfebfffobaa", sum := "74a78637aa99e4b7fba60973c9000634f9af2b8ea2aeb421237c18c84bed09e0", func := "viaduct/viaductlaw18.SoftTime", spec := "softTime", inPlace := ["slices.overlaps[viaduct/soft.State]"], unfollowed := true, recurses := true, apart := false }
def SoftTimeSaid : Prop := softTimeRow.holds Try.pinned (OpenSpec.ofChange softTimeSpec)

/-- ITS FALSE NEIGHBOUR: 'it returns false'. Refute it at one input. -/
def softTimeWrong : ChangeSpec := { name := "softTime", fn := fun _ => fun
  | [d1, d2, d3] => { results := [.lit (.bool false)], args := [d1, d2, d3] }
  | _ => none }
def SoftTimeWrongFalsely : Prop := softTimeRow.holds Try.pinned (OpenSpec.ofChange softTimeWrong)

/-- 'viaductlaw18.SoftOwn': WHATEVER THE INPUT: true; the input reads as it did. -/
def softOwnSpec : ChangeSpec := { name := "softOwn", fn := fun _ => fun
  | [d1, d2] => { results := [.lit (.bool true)], args := [d1, d2] }
  | _ => none }
def softOwnRow : OpenClaim := { program := "ytogijfebfffobaa", sum := "74a78637aa99e4b7fba60973c9000634f9af2b8ea2aeb421237c18c84bed09e0", func := "viaduct/viaductlaw18.SoftOwn", spec := "softOwn", inPlace := ["slices.overlaps[viaduct/soft.State]"], unfollowed := true, recurses := true, apart := false }
def SoftOwnSaid : Prop := softOwnRow.holds Try.pinned (OpenSpec.ofChange softOwnSpec)

/-- ITS FALSE NEIGHBOUR: 'it returns false'. Refute it at one input. -/
def softOwnWrong : ChangeSpec := { name := "softOwn", fn := fun _ => fun
  | [d1, d2] => { results := [.lit (.bool false)], args := [d1, d2] }
  | _ => none }
def SoftOwnWrongFalsely : Prop := softOwnRow.holds Try.pinned (OpenSpec.ofChange softOwnWrong)

/-- 'viaductlaw18.SoftPuts': WHATEVER THE INPUT: true; the input reads as it did. -/
def softPutsSpec : ChangeSpec := { name := "softPuts", fn := fun _ => fun
  | [d1, d2] => { results := [.lit (.bool true)], args := [d1, d2] }
  | _ => none }
def softPutsRow : OpenClaim := { program := "ytogijfebfffobaa", sum := "74a78637aa99e4b7fba60973c9000634f9af2b8ea2aeb421237c18c84bed09e0", func := "viaduct/viaductlaw18.SoftPuts", spec := "softPuts", inPlace := ["slices.overlaps[viaduct/soft.State]"], unfollowed := true, recurses := true, apart := false }
def SoftPutsSaid : Prop := softPutsRow.holds Try.pinned (OpenSpec.ofChange softPutsSpec)

/-- ITS FALSE NEIGHBOUR: 'it returns false'. Refute it at one input. -/
def softPutsWrong : ChangeSpec := { name := "softPuts", fn := fun _ => fun
  | [d1, d2] => { results := [.lit (.bool false)], args := [d1, d2] }
  | _ => none }
def SoftPutsWrongFalsely : Prop := softPutsRow.holds Try.pinned (OpenSpec.ofChange softPutsWrong)

/- THE SECOND FORM. 'bulk': how many values and letters a reading holds, each counted each time it is reached (what is shared counts as often as it is met; a slice's spare places count too). A statement '..UptoSaid' is the law's where the arguments, and the package variables that the reading takes, are together of bulk at most 1048576: NARROWER than '..Said'. Prove '..Said' where nothing that the law and all that it calls make is longer than what came in: it says more and counts as full. Else prove '..UptoSaid'. A law counts once. -/
mutual
def uptoBulk {H : Type} : DataW H → Nat
  | .lit (.string bytes) => bytes.length + 1
  | .lit _ => 1
  | .nil => 1
  | .ptr d => uptoBulk d + 1
  | .slice elems spare => uptoBulkAll elems + uptoBulkAll spare + 1
  | .agg parts => uptoBulkAll parts + 1
  | .iface _ d => uptoBulk d + 1
  | .map entries => uptoBulkEntries entries + 1
  | .held _ => 1
def uptoBulkAll {H : Type} : List (DataW H) → Nat
  | [] => 0
  | d :: r => uptoBulk d + uptoBulkAll r
def uptoBulkEntries {H : Type} : List (Lit × DataW H) → Nat
  | [] => 0
  | x :: r => uptoBulkEntry x + uptoBulkEntries r
def uptoBulkEntry {H : Type} : Lit × DataW H → Nat
  | (.string bytes, d) => bytes.length + uptoBulk d + 1
  | (_, d) => uptoBulk d + 1
 end
def uptoSmall : (H : Type) → List (DataW H) → Bool := fun _ ds => decide (uptoBulkAll ds ≤ 1048576)
def OpenSpec.upto (s : _root_.Go.ChangeSpec) : _root_.Go.OpenSpec := { _root_.Go.OpenSpec.ofChange s with cond := some uptoSmall }

/-- 'viaductlaw18.SoftActs', WHERE WHAT IT READS IS OF BULK AT MOST 1048576: true; the input reads as it did. -/
def softActsUptoRow : OpenClaim := { program := "ytogijfebfffobaa", sum := "74a78637aa99e4b7fba60973c9000634f9af2b8ea2aeb421237c18c84bed09e0", func := "viaduct/viaductlaw18.SoftActs", spec := "softActs", inPlace := ["slices.overlaps[viaduct/soft.State]"], unfollowed := true, recurses := true, apart := false, narrowed := true }
def SoftActsUptoSaid : Prop := softActsUptoRow.holds Try.pinned (OpenSpec.upto softActsSpec)

/-- 'viaductlaw18.SoftTime', WHERE WHAT IT READS IS OF BULK AT MOST 1048576: true; the input reads as it did. -/
def softTimeUptoRow : OpenClaim := { program := "ytogijfebfffobaa", sum := "74a78637aa99e4b7fba60973c9000634f9af2b8ea2aeb421237c18c84bed09e0", func := "viaduct/viaductlaw18.SoftTime", spec := "softTime", inPlace := ["slices.overlaps[viaduct/soft.State]"], unfollowed := true, recurses := true, apart := false, narrowed := true }
def SoftTimeUptoSaid : Prop := softTimeUptoRow.holds Try.pinned (OpenSpec.upto softTimeSpec)

/-- 'viaductlaw18.SoftOwn', WHERE WHAT IT READS IS OF BULK AT MOST 1048576: true; the input reads as it did. -/
def softOwnUptoRow : OpenClaim := { program := "ytogijfebfffobaa", sum := "74a78637aa99e4b7fba60973c9000634f9af2b8ea2aeb421237c18c84bed09e0", func := "viaduct/viaductlaw18.SoftOwn", spec := "softOwn", inPlace := ["slices.overlaps[viaduct/soft.State]"], unfollowed := true, recurses := true, apart := false, narrowed := true }
def SoftOwnUptoSaid : Prop := softOwnUptoRow.holds Try.pinned (OpenSpec.upto softOwnSpec)

/-- 'viaductlaw18.SoftPuts', WHERE WHAT IT READS IS OF BULK AT MOST 1048576: true; the input reads as it did. -/
def softPutsUptoRow : OpenClaim := { program := "ytogijfebfffobaa", sum := "74a78637aa99e4b7fba60973c9000634f9af2b8ea2aeb421237c18c84bed09e0", func := "viaduct/viaductlaw18.SoftPuts", spec := "softPuts", inPlace := ["slices.overlaps[viaduct/soft.State]"], unfollowed := true, recurses := true, apart := false, narrowed := true }
def SoftPutsUptoSaid : Prop := softPutsUptoRow.holds Try.pinned (OpenSpec.upto softPutsSpec)

end Rows
end Go.Proofs.Ytogijfebfffobaa
