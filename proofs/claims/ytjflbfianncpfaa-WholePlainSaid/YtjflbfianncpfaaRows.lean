/-
  No cell of these rows narrows 'for every input' (looked for: loops, veiled, ifaces, maps, wideKeys, modest, calm, conditions, laid).
  DERIVED. THE GIVEN ROWS OF THIS SEAT. 6 by the template 'for every input the law returns true; each argument reads behind the call as it read before'; 0 by the template 'total and deterministic' (their statements: YtjflbfianncpfaaTotals.lean).
  GIVEN WITH THE SEED: the statements are not yours to turn. If you find one false, say at which input.
  Laid BY PROGRAM, IN A SANDBOX (cutbox-rows.mjs): the forced cells as the released guide's own fill.sh prints them over the translation ae4c2e80ddb43285… (all of the seat's roots in one cut). By AI agents, Wed Nov 11 2026. No macro, syntax, notation, axiom, sorry.
-/
import Derived.Test.YtjflbfianncpfaaChecked
import GoSem.Claim
import GoSem.ClaimJoined
import GoSem.ClaimMapViews
import Derived.JoinedTies
import Derived.KernelRfl
namespace Go.Proofs.Ytjflbfianncpfaa
/- THE CELL 'sum', in the pinned program and in every row, IS THE sha256 OF THE DUMP (.gsa) THAT YtjflbfianncpfaaProg.lean LOADS. Nothing in Lean hashes anything: it is a label: what it is worth is what the hold of that sum in a sandbox is worth. -/
noncomputable def Try.pinned : Pinned := { name := "ytjflbfianncpfaa", sum := "ae4c2e80ddb4328592b0f71500e5c806ba5f1610236f85ef335a2dc202362b83", checked := Try.checked }
namespace Rows
def none {H : Type} : Left H := { results := [], args := [] }

/-- 'viaductlaw17.CspfFinds': WHATEVER THE INPUT: true; the input reads as it did. -/
def cspfFindsSpec : ChangeSpec := { name := "cspfFinds", fn := fun _ => fun
  | [d1, d2] => { results := [.lit (.bool true)], args := [d1, d2] }
  | _ => none }
def cspfFindsRow : OpenClaim := { program := "ytjflbfianncpfaa", sum := "ae4c2e80ddb4328592b0f71500e5c806ba5f1610236f85ef335a2dc202362b83", func := "viaduct/viaductlaw17.CspfFinds", spec := "cspfFinds", unfollowed := true, recurses := true, plainKeys := false, apart := false }
def CspfFindsSaid : Prop := cspfFindsRow.holds Try.pinned (OpenSpec.ofChange cspfFindsSpec)

/-- ITS FALSE NEIGHBOUR: 'it returns false'. Refute it at one input. -/
def cspfFindsWrong : ChangeSpec := { name := "cspfFinds", fn := fun _ => fun
  | [d1, d2] => { results := [.lit (.bool false)], args := [d1, d2] }
  | _ => none }
def CspfFindsWrongFalsely : Prop := cspfFindsRow.holds Try.pinned (OpenSpec.ofChange cspfFindsWrong)

/-- 'viaductlaw17.CspfMeets': WHATEVER THE INPUT: true; the input reads as it did. -/
def cspfMeetsSpec : ChangeSpec := { name := "cspfMeets", fn := fun _ => fun
  | [d1, d2] => { results := [.lit (.bool true)], args := [d1, d2] }
  | _ => none }
def cspfMeetsRow : OpenClaim := { program := "ytjflbfianncpfaa", sum := "ae4c2e80ddb4328592b0f71500e5c806ba5f1610236f85ef335a2dc202362b83", func := "viaduct/viaductlaw17.CspfMeets", spec := "cspfMeets", unfollowed := true, recurses := true, plainKeys := false, apart := false }
def CspfMeetsSaid : Prop := cspfMeetsRow.holds Try.pinned (OpenSpec.ofChange cspfMeetsSpec)

/-- ITS FALSE NEIGHBOUR: 'it returns false'. Refute it at one input. -/
def cspfMeetsWrong : ChangeSpec := { name := "cspfMeets", fn := fun _ => fun
  | [d1, d2] => { results := [.lit (.bool false)], args := [d1, d2] }
  | _ => none }
def CspfMeetsWrongFalsely : Prop := cspfMeetsRow.holds Try.pinned (OpenSpec.ofChange cspfMeetsWrong)

/-- 'viaductlaw17.CspfNone': WHATEVER THE INPUT: true; the input reads as it did. -/
def cspfNoneSpec : ChangeSpec := { name := "cspfNone", fn := fun _ => fun
  | [d1, d2, d3] => { results := [.lit (.bool true)], args := [d1, d2, d3] }
  | _ => none }
def cspfNoneRow : OpenClaim := { program := "ytjflbfianncpfaa", sum := "ae4c2e80ddb4328592b0f71500e5c806ba5f1610236f85ef335a2dc202362b83", func := "viaduct/viaductlaw17.CspfNone", spec := "cspfNone", unfollowed := true, recurses := true, plainKeys := false, apart := false }
def CspfNoneSaid : Prop := cspfNoneRow.holds Try.pinned (OpenSpec.ofChange cspfNoneSpec)

/-- ITS FALSE NEIGHBOUR: 'it returns false'. Refute it at one input. -/
def cspfNoneWrong : ChangeSpec := { name := "cspfNone", fn := fun _ => fun
  | [d1, d2, d3] => { results := [.lit (.bool false)], args := [d1, d2, d3] }
  | _ => none }
def CspfNoneWrongFalsely : Prop := cspfNoneRow.holds Try.pinned (OpenSpec.ofChange cspfNoneWrong)

/-- 'viaductlaw17.CspfFewer': WHATEVER THE INPUT: true; the input reads as it did. -/
def cspfFewerSpec : ChangeSpec := { name := "cspfFewer", fn := fun _ => fun
  | [d1, d2, d3] => { results := [.lit (.bool true)], args := [d1, d2, d3] }
  | _ => none }
def cspfFewerRow : OpenClaim := { program := "ytjflbfianncpfaa", sum := "ae4c2e80ddb4328592b0f71500e5c806ba5f1610236f85ef335a2dc202362b83", func := "viaduct/viaductlaw17.CspfFewer", spec := "cspfFewer", unfollowed := true, recurses := true, plainKeys := false, apart := false }
def CspfFewerSaid : Prop := cspfFewerRow.holds Try.pinned (OpenSpec.ofChange cspfFewerSpec)

/-- ITS FALSE NEIGHBOUR: 'it returns false'. Refute it at one input. -/
def cspfFewerWrong : ChangeSpec := { name := "cspfFewer", fn := fun _ => fun
  | [d1, d2, d3] => { results := [.lit (.bool false)], args := [d1, d2, d3] }
  | _ => none }
def CspfFewerWrongFalsely : Prop := cspfFewerRow.holds Try.pinned (OpenSpec.ofChange cspfFewerWrong)

/-- 'viaductlaw17.CspfHops': WHATEVER THE INPUT: true; the input reads as it did. -/
def cspfHopsSpec : ChangeSpec := { name := "cspfHops", fn := fun _ => fun
  | [d1, d2] => { results := [.lit (.bool true)], args := [d1, d2] }
  | _ => none }
def cspfHopsRow : OpenClaim := { program := "ytjflbfianncpfaa", sum := "ae4c2e80ddb4328592b0f71500e5c806ba5f1610236f85ef335a2dc202362b83", func := "viaduct/viaductlaw17.CspfHops", spec := "cspfHops", unfollowed := true, recurses := true, plainKeys := false, apart := false }
def CspfHopsSaid : Prop := cspfHopsRow.holds Try.pinned (OpenSpec.ofChange cspfHopsSpec)

/-- ITS FALSE NEIGHBOUR: 'it returns false'. Refute it at one input. -/
def cspfHopsWrong : ChangeSpec := { name := "cspfHops", fn := fun _ => fun
  | [d1, d2] => { results := [.lit (.bool false)], args := [d1, d2] }
  | _ => none }
def CspfHopsWrongFalsely : Prop := cspfHopsRow.holds Try.pinned (OpenSpec.ofChange cspfHopsWrong)

/-- 'viaducttop.WholePlain': WHATEVER THE INPUT: true; the input reads as it did. -/
def wholePlainSpec : ChangeSpec := { name := "wholePlain", fn := fun _ => fun
  | [d1, d2, d3] => { results := [.lit (.bool true)], args := [d1, d2, d3] }
  | _ => none }
def wholePlainRow : OpenClaim := { program := "ytjflbfianncpfaa", sum := "ae4c2e80ddb4328592b0f71500e5c806ba5f1610236f85ef335a2dc202362b83", func := "viaduct/viaducttop.WholePlain", spec := "wholePlain", unfollowed := true, recurses := true, plainKeys := false, apart := false }
def WholePlainSaid : Prop := wholePlainRow.holds Try.pinned (OpenSpec.ofChange wholePlainSpec)

/-- ITS FALSE NEIGHBOUR: 'it returns false'. Refute it at one input. -/
def wholePlainWrong : ChangeSpec := { name := "wholePlain", fn := fun _ => fun
  | [d1, d2, d3] => { results := [.lit (.bool false)], args := [d1, d2, d3] }
  | _ => none }
def WholePlainWrongFalsely : Prop := wholePlainRow.holds Try.pinned (OpenSpec.ofChange wholePlainWrong)

/- THE SECOND FORM. 'bulk': how many values and letters a reading holds, each counted each time it is reached (what is shared counts as often as it is met; a slice's spare places count too). A statement '..UptoSaid' is the law's where the arguments, and the package variables that the reading takes, are together of bulk at most 1048576: NARROWER than '..Said'. Prove '..Said' where nothing that the law and all that it calls make is longer than what came in: it says more and counts as full. Else prove '..UptoSaid'. A law counts once. -/
mutual
def uptoBulk {H : Type} : DataW H → Nat
  | .lit (.string bytes) => bytes.length + 1
  | .lit _ => 1
  | .nil => 1
  | .ptr d => uptoBulk d + 1
  | .slice elems spare => uptoBulkAll elems + uptoBulkAll spare + 1
  | .agg parts => uptoBulkAll parts + 1
  | .iface _ d => uptoBulk d + 1
  | .map entries => uptoBulkEntries entries + 1
  | .held _ => 1
def uptoBulkAll {H : Type} : List (DataW H) → Nat
  | [] => 0
  | d :: r => uptoBulk d + uptoBulkAll r
def uptoBulkEntries {H : Type} : List (Lit × DataW H) → Nat
  | [] => 0
  | x :: r => uptoBulkEntry x + uptoBulkEntries r
def uptoBulkEntry {H : Type} : Lit × DataW H → Nat
  | (.string bytes, d) => bytes.length + uptoBulk d + 1
  | (_, d) => uptoBulk d + 1
 end
def uptoSmall : (H : Type) → List (DataW H) → Bool := fun _ ds => decide (uptoBulkAll ds ≤ 1048576)
def OpenSpec.upto (s : _root_.Go.ChangeSpec) : _root_.Go.OpenSpec := { _root_.Go.OpenSpec.ofChange s with cond := some uptoSmall }

/-- 'viaductlaw17.CspfFinds', WHERE WHAT IT READS IS OF BULK AT MOST 1048576: true; the input reads as it did. -/
def cspfFindsUptoRow : OpenClaim := { program := "ytjflbfianncpfaa", sum := "ae4c2e80ddb4328592b0f71500e5c806ba5f1610236f85ef335a2dc202362b83", func := "viaduct/viaductlaw17.CspfFinds", spec := "cspfFinds", unfollowed := true, recurses := true, plainKeys := false, apart := false, narrowed := true }
def CspfFindsUptoSaid : Prop := cspfFindsUptoRow.holds Try.pinned (OpenSpec.upto cspfFindsSpec)

/-- 'viaductlaw17.CspfMeets', WHERE WHAT IT READS IS OF BULK AT MOST 1048576: true; the input reads as it did. -/
def cspfMeetsUptoRow : OpenClaim := { program := "ytjflbfianncpfaa", sum := "ae4c2e80ddb4328592b0f71500e5c806ba5f1610236f85ef335a2dc202362b83", func := "viaduct/viaductlaw17.CspfMeets", spec := "cspfMeets", unfollowed := true, recurses := true, plainKeys := false, apart := false, narrowed := true }
def CspfMeetsUptoSaid : Prop := cspfMeetsUptoRow.holds Try.pinned (OpenSpec.upto cspfMeetsSpec)

/-- 'viaductlaw17.CspfNone', WHERE WHAT IT READS IS OF BULK AT MOST 1048576: true; the input reads as it did. -/
def cspfNoneUptoRow : OpenClaim := { program := "ytjflbfianncpfaa", sum := "ae4c2e80ddb4328592b0f71500e5c806ba5f1610236f85ef335a2dc202362b83", func := "viaduct/viaductlaw17.CspfNone", spec := "cspfNone", unfollowed := true, recurses := true, plainKeys := false, apart := false, narrowed := true }
def CspfNoneUptoSaid : Prop := cspfNoneUptoRow.holds Try.pinned (OpenSpec.upto cspfNoneSpec)

/-- 'viaductlaw17.CspfFewer', WHERE WHAT IT READS IS OF BULK AT MOST 1048576: true; the input reads as it did. -/
def cspfFewerUptoRow : OpenClaim := { program := "ytjflbfianncpfaa", sum := "ae4c2e80ddb4328592b0f71500e5c806ba5f1610236f85ef335a2dc202362b83", func := "viaduct/viaductlaw17.CspfFewer", spec := "cspfFewer", unfollowed := true, recurses := true, plainKeys := false, apart := false, narrowed := true }
def CspfFewerUptoSaid : Prop := cspfFewerUptoRow.holds Try.pinned (OpenSpec.upto cspfFewerSpec)

/-- 'viaductlaw17.CspfHops', WHERE WHAT IT READS IS OF BULK AT MOST 1048576: true; the input reads as it did. -/
def cspfHopsUptoRow : OpenClaim := { program := "ytjflbfianncpfaa", sum := "ae4c2e80ddb4328592b0f71500e5c806ba5f1610236f85ef335a2dc202362b83", func := "viaduct/viaductlaw17.CspfHops", spec := "cspfHops", unfollowed := true, recurses := true, plainKeys := false, apart := false, narrowed := true }
def CspfHopsUptoSaid : Prop := cspfHopsUptoRow.holds Try.pinned (OpenSpec.upto cspfHopsSpec)

/-- 'viaducttop.WholePlain', WHERE WHAT IT READS IS OF BULK AT MOST 1048576: true; the input reads as it did. -/
def wholePlainUptoRow : OpenClaim := { program := "ytjflbfianncpfaa", sum := "ae4c2e80ddb4328592b0f71500e5c806ba5f1610236f85ef335a2dc202362b83", func := "viaduct/viaducttop.WholePlain", spec := "wholePlain", unfollowed := true, recurses := true, plainKeys := false, apart := false, narrowed := true }
def WholePlainUptoSaid : Prop := wholePlainUptoRow.holds Try.pinned (OpenSpec.upto wholePlainSpec)

end Rows
end Go.Proofs.Ytjflbfianncpfaa
