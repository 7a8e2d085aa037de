/-
  No cell of these rows narrows 'for every input' (looked for: loops, veiled, ifaces, maps, wideKeys, modest, calm, conditions, laid).
  DERIVED. THE GIVEN ROWS OF THIS SEAT. 8 by the template 'for every input the law returns true; each argument reads behind the call as it read before'; 0 by the template 'total and deterministic' (their statements: YtmfmjdkeoiebpaaTotals.lean).
  GIVEN WITH THE SEED: the statements are not yours to turn. If you find one false, say at which input.
  Laid BY PROGRAM, IN A SANDBOX (cutbox-rows.mjs): the forced cells as the released guide's own fill.sh prints them over the translation 3aa3b89e276fe3ab… (all of the seat's roots in one cut). By AI agents, Wed Nov 11 2026. No macro, syntax, notation, axiom, sorry.
-/
import Derived.Test.YtmfmjdkeoiebpaaChecked
import GoSem.Claim
import GoSem.ClaimJoined
import GoSem.ClaimMapViews
import Derived.JoinedTies
import Derived.KernelRfl
namespace Go.Proofs.Ytmfmjdkeoiebpaa
/- THE CELL 'sum', in the pinned program and in every row, IS THE sha256 OF THE DUMP (.gsa) THAT YtmfmjdkeoiebpaaProg.lean LOADS. Nothing in Lean hashes anything: it is a label: what it is worth is what the hold of that sum in a sandbox is worth. -/
noncomputable def Try.pinned : Pinned := { name := "ytmfmjdkeoiebpaa", sum := "3aa3b89e276fe3ab7c0a61da2f1250f3b5bc011bf68105121094defd045d6343", checked := Try.checked }
namespace Rows
def none {H : Type} : Left H := { results := [], args := [] }

/-- 'viaductlaw15.TedbActs': WHATEVER THE INPUT: true; the input reads as it did. -/
def tedbActsSpec : ChangeSpec := { name := "tedbActs", fn := fun _ => fun
  | [d1, d2] => { results := [.lit (.bool true)], args := [d1, d2] }
  | _ => none }
def tedbActsRow : OpenClaim := { program := "ytmfmjdkeoiebpaa", sum := "3aa3b89e276fe3ab7c0a61da2f1250f3b5bc011bf68105121094defd045d6343", func := "viaduct/viaductlaw15.TedbActs", spec := "tedbActs", unfollowed := true, recurses := true, plainKeys := false, apart := false }
def TedbActsSaid : Prop := tedbActsRow.holds Try.pinned (OpenSpec.ofChange tedbActsSpec)

/-- ITS FALSE NEIGHBOUR: 'it returns false'. Refute it at one input. -/
def tedbActsWrong : ChangeSpec := { name := "tedbActs", fn := fun _ => fun
  | [d1, d2] => { results := [.lit (.bool false)], args := [d1, d2] }
  | _ => none }
def TedbActsWrongFalsely : Prop := tedbActsRow.holds Try.pinned (OpenSpec.ofChange tedbActsWrong)

/-- 'viaductlaw15.TedbBytes': WHATEVER THE INPUT: true; the input reads as it did. -/
def tedbBytesSpec : ChangeSpec := { name := "tedbBytes", fn := fun _ => fun
  | [d1, d2] => { results := [.lit (.bool true)], args := [d1, d2] }
  | _ => none }
def tedbBytesRow : OpenClaim := { program := "ytmfmjdkeoiebpaa", sum := "3aa3b89e276fe3ab7c0a61da2f1250f3b5bc011bf68105121094defd045d6343", func := "viaduct/viaductlaw15.TedbBytes", spec := "tedbBytes", unfollowed := true, recurses := true, plainKeys := false, apart := false }
def TedbBytesSaid : Prop := tedbBytesRow.holds Try.pinned (OpenSpec.ofChange tedbBytesSpec)

/-- ITS FALSE NEIGHBOUR: 'it returns false'. Refute it at one input. -/
def tedbBytesWrong : ChangeSpec := { name := "tedbBytes", fn := fun _ => fun
  | [d1, d2] => { results := [.lit (.bool false)], args := [d1, d2] }
  | _ => none }
def TedbBytesWrongFalsely : Prop := tedbBytesRow.holds Try.pinned (OpenSpec.ofChange tedbBytesWrong)

/-- 'viaductlaw15.TedbOrder': WHATEVER THE INPUT: true; the input reads as it did. -/
def tedbOrderSpec : ChangeSpec := { name := "tedbOrder", fn := fun _ => fun
  | [d1, d2, d3] => { results := [.lit (.bool true)], args := [d1, d2, d3] }
  | _ => none }
def tedbOrderRow : OpenClaim := { program := "ytmfmjdkeoiebpaa", sum := "3aa3b89e276fe3ab7c0a61da2f1250f3b5bc011bf68105121094defd045d6343", func := "viaduct/viaductlaw15.TedbOrder", spec := "tedbOrder", unfollowed := true, recurses := true, plainKeys := false, apart := false }
def TedbOrderSaid : Prop := tedbOrderRow.holds Try.pinned (OpenSpec.ofChange tedbOrderSpec)

/-- ITS FALSE NEIGHBOUR: 'it returns false'. Refute it at one input. -/
def tedbOrderWrong : ChangeSpec := { name := "tedbOrder", fn := fun _ => fun
  | [d1, d2, d3] => { results := [.lit (.bool false)], args := [d1, d2, d3] }
  | _ => none }
def TedbOrderWrongFalsely : Prop := tedbOrderRow.holds Try.pinned (OpenSpec.ofChange tedbOrderWrong)

/-- 'viaductlaw15.TedbNewer': WHATEVER THE INPUT: true; the input reads as it did. -/
def tedbNewerSpec : ChangeSpec := { name := "tedbNewer", fn := fun _ => fun
  | [d1, d2] => { results := [.lit (.bool true)], args := [d1, d2] }
  | _ => none }
def tedbNewerRow : OpenClaim := { program := "ytmfmjdkeoiebpaa", sum := "3aa3b89e276fe3ab7c0a61da2f1250f3b5bc011bf68105121094defd045d6343", func := "viaduct/viaductlaw15.TedbNewer", spec := "tedbNewer", unfollowed := true, recurses := true, plainKeys := false, apart := false }
def TedbNewerSaid : Prop := tedbNewerRow.holds Try.pinned (OpenSpec.ofChange tedbNewerSpec)

/-- ITS FALSE NEIGHBOUR: 'it returns false'. Refute it at one input. -/
def tedbNewerWrong : ChangeSpec := { name := "tedbNewer", fn := fun _ => fun
  | [d1, d2] => { results := [.lit (.bool false)], args := [d1, d2] }
  | _ => none }
def TedbNewerWrongFalsely : Prop := tedbNewerRow.holds Try.pinned (OpenSpec.ofChange tedbNewerWrong)

/-- 'viaductlaw15.TedbBack': WHATEVER THE INPUT: true; the input reads as it did. -/
def tedbBackSpec : ChangeSpec := { name := "tedbBack", fn := fun _ => fun
  | [d1, d2] => { results := [.lit (.bool true)], args := [d1, d2] }
  | _ => none }
def tedbBackRow : OpenClaim := { program := "ytmfmjdkeoiebpaa", sum := "3aa3b89e276fe3ab7c0a61da2f1250f3b5bc011bf68105121094defd045d6343", func := "viaduct/viaductlaw15.TedbBack", spec := "tedbBack", unfollowed := true, recurses := true, plainKeys := false, apart := false }
def TedbBackSaid : Prop := tedbBackRow.holds Try.pinned (OpenSpec.ofChange tedbBackSpec)

/-- ITS FALSE NEIGHBOUR: 'it returns false'. Refute it at one input. -/
def tedbBackWrong : ChangeSpec := { name := "tedbBack", fn := fun _ => fun
  | [d1, d2] => { results := [.lit (.bool false)], args := [d1, d2] }
  | _ => none }
def TedbBackWrongFalsely : Prop := tedbBackRow.holds Try.pinned (OpenSpec.ofChange tedbBackWrong)

/-- 'viaductlaw15.TedbNobody': WHATEVER THE INPUT: true; the input reads as it did. -/
def tedbNobodySpec : ChangeSpec := { name := "tedbNobody", fn := fun _ => fun
  | [d] => { results := [.lit (.bool true)], args := [d] }
  | _ => none }
def tedbNobodyRow : OpenClaim := { program := "ytmfmjdkeoiebpaa", sum := "3aa3b89e276fe3ab7c0a61da2f1250f3b5bc011bf68105121094defd045d6343", func := "viaduct/viaductlaw15.TedbNobody", spec := "tedbNobody", unfollowed := true, recurses := true, plainKeys := false, apart := false }
def TedbNobodySaid : Prop := tedbNobodyRow.holds Try.pinned (OpenSpec.ofChange tedbNobodySpec)

/-- ITS FALSE NEIGHBOUR: 'it returns false'. Refute it at one input. -/
def tedbNobodyWrong : ChangeSpec := { name := "tedbNobody", fn := fun _ => fun
  | [d] => { results := [.lit (.bool false)], args := [d] }
  | _ => none }
def TedbNobodyWrongFalsely : Prop := tedbNobodyRow.holds Try.pinned (OpenSpec.ofChange tedbNobodyWrong)

/-- 'viaductlaw15.TedbKeeps': WHATEVER THE INPUT: true; the input reads as it did. -/
def tedbKeepsSpec : ChangeSpec := { name := "tedbKeeps", fn := fun _ => fun
  | [d1, d2, d3] => { results := [.lit (.bool true)], args := [d1, d2, d3] }
  | _ => none }
def tedbKeepsRow : OpenClaim := { program := "ytmfmjdkeoiebpaa", sum := "3aa3b89e276fe3ab7c0a61da2f1250f3b5bc011bf68105121094defd045d6343", func := "viaduct/viaductlaw15.TedbKeeps", spec := "tedbKeeps", unfollowed := true, recurses := true, plainKeys := false, apart := false }
def TedbKeepsSaid : Prop := tedbKeepsRow.holds Try.pinned (OpenSpec.ofChange tedbKeepsSpec)

/-- ITS FALSE NEIGHBOUR: 'it returns false'. Refute it at one input. -/
def tedbKeepsWrong : ChangeSpec := { name := "tedbKeeps", fn := fun _ => fun
  | [d1, d2, d3] => { results := [.lit (.bool false)], args := [d1, d2, d3] }
  | _ => none }
def TedbKeepsWrongFalsely : Prop := tedbKeepsRow.holds Try.pinned (OpenSpec.ofChange tedbKeepsWrong)

/-- 'viaducttop.WholeFlood': WHATEVER THE INPUT: true; the input reads as it did. -/
def wholeFloodSpec : ChangeSpec := { name := "wholeFlood", fn := fun _ => fun
  | [d1, d2, d3] => { results := [.lit (.bool true)], args := [d1, d2, d3] }
  | _ => none }
def wholeFloodRow : OpenClaim := { program := "ytmfmjdkeoiebpaa", sum := "3aa3b89e276fe3ab7c0a61da2f1250f3b5bc011bf68105121094defd045d6343", func := "viaduct/viaducttop.WholeFlood", spec := "wholeFlood", unfollowed := true, recurses := true, plainKeys := false, apart := false }
def WholeFloodSaid : Prop := wholeFloodRow.holds Try.pinned (OpenSpec.ofChange wholeFloodSpec)

/-- ITS FALSE NEIGHBOUR: 'it returns false'. Refute it at one input. -/
def wholeFloodWrong : ChangeSpec := { name := "wholeFlood", fn := fun _ => fun
  | [d1, d2, d3] => { results := [.lit (.bool false)], args := [d1, d2, d3] }
  | _ => none }
def WholeFloodWrongFalsely : Prop := wholeFloodRow.holds Try.pinned (OpenSpec.ofChange wholeFloodWrong)

/- THE SECOND FORM. 'bulk': how many values and letters a reading holds, each counted each time it is reached (what is shared counts as often as it is met; a slice's spare places count too). A statement '..UptoSaid' is the law's where the arguments, and the package variables that the reading takes, are together of bulk at most 1048576: NARROWER than '..Said'. Prove '..Said' where nothing that the law and all that it calls make is longer than what came in: it says more and counts as full. Else prove '..UptoSaid'. A law counts once. -/
mutual
def uptoBulk {H : Type} : DataW H → Nat
  | .lit (.string bytes) => bytes.length + 1
  | .lit _ => 1
  | .nil => 1
  | .ptr d => uptoBulk d + 1
  | .slice elems spare => uptoBulkAll elems + uptoBulkAll spare + 1
  | .agg parts => uptoBulkAll parts + 1
  | .iface _ d => uptoBulk d + 1
  | .map entries => uptoBulkEntries entries + 1
  | .held _ => 1
def uptoBulkAll {H : Type} : List (DataW H) → Nat
  | [] => 0
  | d :: r => uptoBulk d + uptoBulkAll r
def uptoBulkEntries {H : Type} : List (Lit × DataW H) → Nat
  | [] => 0
  | x :: r => uptoBulkEntry x + uptoBulkEntries r
def uptoBulkEntry {H : Type} : Lit × DataW H → Nat
  | (.string bytes, d) => bytes.length + uptoBulk d + 1
  | (_, d) => uptoBulk d + 1
 end
def uptoSmall : (H : Type) → List (DataW H) → Bool := fun _ ds => decide (uptoBulkAll ds ≤ 1048576)
def OpenSpec.upto (s : _root_.Go.ChangeSpec) : _root_.Go.OpenSpec := { _root_.Go.OpenSpec.ofChange s with cond := some uptoSmall }

/-- 'viaductlaw15.TedbActs', WHERE WHAT IT READS IS OF BULK AT MOST 1048576: true; the input reads as it did. -/
def tedbActsUptoRow : OpenClaim := { program := "ytmfmjdkeoiebpaa", sum := "3aa3b89e276fe3ab7c0a61da2f1250f3b5bc011bf68105121094defd045d6343", func := "viaduct/viaductlaw15.TedbActs", spec := "tedbActs", unfollowed := true, recurses := true, plainKeys := false, apart := false, narrowed := true }
def TedbActsUptoSaid : Prop := tedbActsUptoRow.holds Try.pinned (OpenSpec.upto tedbActsSpec)

/-- 'viaductlaw15.TedbBytes', WHERE WHAT IT READS IS OF BULK AT MOST 1048576: true; the input reads as it did. -/
def tedbBytesUptoRow : OpenClaim := { program := "ytmfmjdkeoiebpaa", sum := "3aa3b89e276fe3ab7c0a61da2f1250f3b5bc011bf68105121094defd045d6343", func := "viaduct/viaductlaw15.TedbBytes", spec := "tedbBytes", unfollowed := true, recurses := true, plainKeys := false, apart := false, narrowed := true }
def TedbBytesUptoSaid : Prop := tedbBytesUptoRow.holds Try.pinned (OpenSpec.upto tedbBytesSpec)

/-- 'viaductlaw15.TedbOrder', WHERE WHAT IT READS IS OF BULK AT MOST 1048576: true; the input reads as it did. -/
def tedbOrderUptoRow : OpenClaim := { program := "ytmfmjdkeoiebpaa", sum := "3aa3b89e276fe3ab7c0a61da2f1250f3b5bc011bf68105121094defd045d6343", func := "viaduct/viaductlaw15.TedbOrder", spec := "tedbOrder", unfollowed := true, recurses := true, plainKeys := false, apart := false, narrowed := true }
def TedbOrderUptoSaid : Prop := tedbOrderUptoRow.holds Try.pinned (OpenSpec.upto tedbOrderSpec)

/-- 'viaductlaw15.TedbNewer', WHERE WHAT IT READS IS OF BULK AT MOST 1048576: true; the input reads as it did. -/
def tedbNewerUptoRow : OpenClaim := { program := "ytmfmjdkeoiebpaa", sum := "3aa3b89e276fe3ab7c0a61da2f1250f3b5bc011bf68105121094defd045d6343", func := "viaduct/viaductlaw15.TedbNewer", spec := "tedbNewer", unfollowed := true, recurses := true, plainKeys := false, apart := false, narrowed := true }
def TedbNewerUptoSaid : Prop := tedbNewerUptoRow.holds Try.pinned (OpenSpec.upto tedbNewerSpec)

/-- 'viaductlaw15.TedbBack', WHERE WHAT IT READS IS OF BULK AT MOST 1048576: true; the input reads as it did. -/
def tedbBackUptoRow : OpenClaim := { program := "ytmfmjdkeoiebpaa", sum := "3aa3b89e276fe3ab7c0a61da2f1250f3b5bc011bf68105121094defd045d6343", func := "viaduct/viaductlaw15.TedbBack", spec := "tedbBack", unfollowed := true, recurses := true, plainKeys := false, apart := false, narrowed := true }
def TedbBackUptoSaid : Prop := tedbBackUptoRow.holds Try.pinned (OpenSpec.upto tedbBackSpec)

/-- 'viaductlaw15.TedbNobody', WHERE WHAT IT READS IS OF BULK AT MOST 1048576: true; the input reads as it did. -/
def tedbNobodyUptoRow : OpenClaim := { program := "ytmfmjdkeoiebpaa", sum := "3aa3b89e276fe3ab7c0a61da2f1250f3b5bc011bf68105121094defd045d6343", func := "viaduct/viaductlaw15.TedbNobody", spec := "tedbNobody", unfollowed := true, recurses := true, plainKeys := false, apart := false, narrowed := true }
def TedbNobodyUptoSaid : Prop := tedbNobodyUptoRow.holds Try.pinned (OpenSpec.upto tedbNobodySpec)

/-- 'viaductlaw15.TedbKeeps', WHERE WHAT IT READS IS OF BULK AT MOST 1048576: true; the input reads as it did. -/
def tedbKeepsUptoRow : OpenClaim := { program := "ytmfmjdkeoiebpaa", sum := "3aa3b89e276fe3ab7c0a61da2f1250f3b5bc011bf68105121094defd045d6343", func := "viaduct/viaductlaw15.TedbKeeps", spec := "tedbKeeps", unfollowed := true, recurses := true, plainKeys := false, apart := false, narrowed := true }
def TedbKeepsUptoSaid : Prop := tedbKeepsUptoRow.holds Try.pinned (OpenSpec.upto tedbKeepsSpec)

/-- 'viaducttop.WholeFlood', WHERE WHAT IT READS IS OF BULK AT MOST 1048576: true; the input reads as it did. -/
def wholeFloodUptoRow : OpenClaim := { program := "ytmfmjdkeoiebpaa", sum := "3aa3b89e276fe3ab7c0a61da2f1250f3b5bc011bf68105121094defd045d6343", func := "viaduct/viaducttop.WholeFlood", spec := "wholeFlood", unfollowed := true, recurses := true, plainKeys := false, apart := false, narrowed := true }
def WholeFloodUptoSaid : Prop := wholeFloodUptoRow.holds Try.pinned (OpenSpec.upto wholeFloodSpec)

end Rows
end Go.Proofs.Ytmfmjdkeoiebpaa
