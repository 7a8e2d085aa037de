/-
  No cell of these rows narrows 'for every input' (looked for: loops, veiled, ifaces, maps, wideKeys, modest, calm, conditions, laid).
  DERIVED. THE GIVEN ROWS OF THIS SEAT. 6 by the template 'for every input the law returns true; each argument reads behind the call as it read before'; 0 by the template 'total and deterministic' (their statements: YtkagfgnjfdlicaaTotals.lean).
  GIVEN WITH THE SEED: the statements are not yours to turn. If you find one false, say at which input.
  Laid BY PROGRAM, IN A SANDBOX (cutbox-rows.mjs): the forced cells as the released guide's own fill.sh prints them over the translation 48dce2934d0ee082… (all of the seat's roots in one cut). By AI agents, Wed Nov 11 2026. No macro, syntax, notation, axiom, sorry.
-/
import Derived.Test.YtkagfgnjfdlicaaChecked
import GoSem.Claim
import GoSem.ClaimJoined
import GoSem.ClaimMapViews
import Derived.JoinedTies
import Derived.KernelRfl
namespace Go.Proofs.Ytkagfgnjfdlicaa
/- THE CELL 'sum', in the pinned program and in every row, IS THE sha256 OF THE DUMP (.gsa) THAT YtkagfgnjfdlicaaProg.lean LOADS. Nothing in Lean hashes anything: it is a label: what it is worth is what the hold of that sum in a sandbox is worth. -/
noncomputable def Try.pinned : Pinned := { name := "ytkagfgnjfdlicaa", sum := "48dce2934d0ee082116f4047e11f61f3b6c7f3ac0f8cb7cc78bab60c547c65a7", checked := Try.checked }
namespace Rows
def none {H : Type} : Left H := { results := [], args := [] }

/-- 'viaductlaw11.SpfBetter': WHATEVER THE INPUT: true; the input reads as it did. -/
def spfBetterSpec : ChangeSpec := { name := "spfBetter", fn := fun _ => fun
  | [d1, d2, d3] => { results := [.lit (.bool true)], args := [d1, d2, d3] }
  | _ => none }
def spfBetterRow : OpenClaim := { program := "ytkagfgnjfdlicaa", sum := "48dce2934d0ee082116f4047e11f61f3b6c7f3ac0f8cb7cc78bab60c547c65a7", func := "viaduct/viaductlaw11.SpfBetter", spec := "spfBetter", unfollowed := true, recurses := true, plainKeys := false, apart := false }
def SpfBetterSaid : Prop := spfBetterRow.holds Try.pinned (OpenSpec.ofChange spfBetterSpec)

/-- ITS FALSE NEIGHBOUR: 'it returns false'. Refute it at one input. -/
def spfBetterWrong : ChangeSpec := { name := "spfBetter", fn := fun _ => fun
  | [d1, d2, d3] => { results := [.lit (.bool false)], args := [d1, d2, d3] }
  | _ => none }
def SpfBetterWrongFalsely : Prop := spfBetterRow.holds Try.pinned (OpenSpec.ofChange spfBetterWrong)

/-- 'viaductlaw11.SpfAll': WHATEVER THE INPUT: true; the input reads as it did. -/
def spfAllSpec : ChangeSpec := { name := "spfAll", fn := fun _ => fun
  | [d1, d2, d3] => { results := [.lit (.bool true)], args := [d1, d2, d3] }
  | _ => none }
def spfAllRow : OpenClaim := { program := "ytkagfgnjfdlicaa", sum := "48dce2934d0ee082116f4047e11f61f3b6c7f3ac0f8cb7cc78bab60c547c65a7", func := "viaduct/viaductlaw11.SpfAll", spec := "spfAll", unfollowed := true, recurses := true, plainKeys := false, apart := false }
def SpfAllSaid : Prop := spfAllRow.holds Try.pinned (OpenSpec.ofChange spfAllSpec)

/-- ITS FALSE NEIGHBOUR: 'it returns false'. Refute it at one input. -/
def spfAllWrong : ChangeSpec := { name := "spfAll", fn := fun _ => fun
  | [d1, d2, d3] => { results := [.lit (.bool false)], args := [d1, d2, d3] }
  | _ => none }
def SpfAllWrongFalsely : Prop := spfAllRow.holds Try.pinned (OpenSpec.ofChange spfAllWrong)

/-- 'viaductlaw11.SpfBest': WHATEVER THE INPUT: true; the input reads as it did. -/
def spfBestSpec : ChangeSpec := { name := "spfBest", fn := fun _ => fun
  | [d1, d2, d3] => { results := [.lit (.bool true)], args := [d1, d2, d3] }
  | _ => none }
def spfBestRow : OpenClaim := { program := "ytkagfgnjfdlicaa", sum := "48dce2934d0ee082116f4047e11f61f3b6c7f3ac0f8cb7cc78bab60c547c65a7", func := "viaduct/viaductlaw11.SpfBest", spec := "spfBest", unfollowed := true, recurses := true, plainKeys := false, apart := false }
def SpfBestSaid : Prop := spfBestRow.holds Try.pinned (OpenSpec.ofChange spfBestSpec)

/-- ITS FALSE NEIGHBOUR: 'it returns false'. Refute it at one input. -/
def spfBestWrong : ChangeSpec := { name := "spfBest", fn := fun _ => fun
  | [d1, d2, d3] => { results := [.lit (.bool false)], args := [d1, d2, d3] }
  | _ => none }
def SpfBestWrongFalsely : Prop := spfBestRow.holds Try.pinned (OpenSpec.ofChange spfBestWrong)

/-- 'viaductlaw11.SpfNone': WHATEVER THE INPUT: true; the input reads as it did. -/
def spfNoneSpec : ChangeSpec := { name := "spfNone", fn := fun _ => fun
  | [d1, d2, d3] => { results := [.lit (.bool true)], args := [d1, d2, d3] }
  | _ => none }
def spfNoneRow : OpenClaim := { program := "ytkagfgnjfdlicaa", sum := "48dce2934d0ee082116f4047e11f61f3b6c7f3ac0f8cb7cc78bab60c547c65a7", func := "viaduct/viaductlaw11.SpfNone", spec := "spfNone", unfollowed := true, recurses := true, plainKeys := false, apart := false }
def SpfNoneSaid : Prop := spfNoneRow.holds Try.pinned (OpenSpec.ofChange spfNoneSpec)

/-- ITS FALSE NEIGHBOUR: 'it returns false'. Refute it at one input. -/
def spfNoneWrong : ChangeSpec := { name := "spfNone", fn := fun _ => fun
  | [d1, d2, d3] => { results := [.lit (.bool false)], args := [d1, d2, d3] }
  | _ => none }
def SpfNoneWrongFalsely : Prop := spfNoneRow.holds Try.pinned (OpenSpec.ofChange spfNoneWrong)

/-- 'viaductlaw11.SpfParts': WHATEVER THE INPUT: true; the input reads as it did. -/
def spfPartsSpec : ChangeSpec := { name := "spfParts", fn := fun _ => fun
  | [d1, d2, d3] => { results := [.lit (.bool true)], args := [d1, d2, d3] }
  | _ => none }
def spfPartsRow : OpenClaim := { program := "ytkagfgnjfdlicaa", sum := "48dce2934d0ee082116f4047e11f61f3b6c7f3ac0f8cb7cc78bab60c547c65a7", func := "viaduct/viaductlaw11.SpfParts", spec := "spfParts", unfollowed := true, recurses := true, plainKeys := false, apart := false }
def SpfPartsSaid : Prop := spfPartsRow.holds Try.pinned (OpenSpec.ofChange spfPartsSpec)

/-- ITS FALSE NEIGHBOUR: 'it returns false'. Refute it at one input. -/
def spfPartsWrong : ChangeSpec := { name := "spfParts", fn := fun _ => fun
  | [d1, d2, d3] => { results := [.lit (.bool false)], args := [d1, d2, d3] }
  | _ => none }
def SpfPartsWrongFalsely : Prop := spfPartsRow.holds Try.pinned (OpenSpec.ofChange spfPartsWrong)

/-- 'viaductlaw11.SpfReaches': WHATEVER THE INPUT: true; the input reads as it did. -/
def spfReachesSpec : ChangeSpec := { name := "spfReaches", fn := fun _ => fun
  | [d1, d2, d3] => { results := [.lit (.bool true)], args := [d1, d2, d3] }
  | _ => none }
def spfReachesRow : OpenClaim := { program := "ytkagfgnjfdlicaa", sum := "48dce2934d0ee082116f4047e11f61f3b6c7f3ac0f8cb7cc78bab60c547c65a7", func := "viaduct/viaductlaw11.SpfReaches", spec := "spfReaches", unfollowed := true, recurses := true, plainKeys := false, apart := false }
def SpfReachesSaid : Prop := spfReachesRow.holds Try.pinned (OpenSpec.ofChange spfReachesSpec)

/-- ITS FALSE NEIGHBOUR: 'it returns false'. Refute it at one input. -/
def spfReachesWrong : ChangeSpec := { name := "spfReaches", fn := fun _ => fun
  | [d1, d2, d3] => { results := [.lit (.bool false)], args := [d1, d2, d3] }
  | _ => none }
def SpfReachesWrongFalsely : Prop := spfReachesRow.holds Try.pinned (OpenSpec.ofChange spfReachesWrong)

/- THE SECOND FORM. 'bulk': how many values and letters a reading holds, each counted each time it is reached (what is shared counts as often as it is met; a slice's spare places count too). A statement '..UptoSaid' is the law's where the arguments, and the package variables that the reading takes, are together of bulk at most 1048576: NARROWER than '..Said'. Prove '..Said' where nothing that the law and all that it calls make is longer than what came in: it says more and counts as full. Else prove '..UptoSaid'. A law counts once. -/
mutual
def uptoBulk {H : Type} : DataW H → Nat
  | .lit (.string bytes) => bytes.length + 1
  | .lit _ => 1
  | .nil => 1
  | .ptr d => uptoBulk d + 1
  | .slice elems spare => uptoBulkAll elems + uptoBulkAll spare + 1
  | .agg parts => uptoBulkAll parts + 1
  | .iface _ d => uptoBulk d + 1
  | .map entries => uptoBulkEntries entries + 1
  | .held _ => 1
def uptoBulkAll {H : Type} : List (DataW H) → Nat
  | [] => 0
  | d :: r => uptoBulk d + uptoBulkAll r
def uptoBulkEntries {H : Type} : List (Lit × DataW H) → Nat
  | [] => 0
  | x :: r => uptoBulkEntry x + uptoBulkEntries r
def uptoBulkEntry {H : Type} : Lit × DataW H → Nat
  | (.string bytes, d) => bytes.length + uptoBulk d + 1
  | (_, d) => uptoBulk d + 1
 end
def uptoSmall : (H : Type) → List (DataW H) → Bool := fun _ ds => decide (uptoBulkAll ds ≤ 1048576)
def OpenSpec.upto (s : _root_.Go.ChangeSpec) : _root_.Go.OpenSpec := { _root_.Go.OpenSpec.ofChange s with cond := some uptoSmall }

/-- 'viaductlaw11.SpfBetter', WHERE WHAT IT READS IS OF BULK AT MOST 1048576: true; the input reads as it did. -/
def spfBetterUptoRow : OpenClaim := { program := "ytkagfgnjfdlicaa", sum := "48dce2934d0ee082116f4047e11f61f3b6c7f3ac0f8cb7cc78bab60c547c65a7", func := "viaduct/viaductlaw11.SpfBetter", spec := "spfBetter", unfollowed := true, recurses := true, plainKeys := false, apart := false, narrowed := true }
def SpfBetterUptoSaid : Prop := spfBetterUptoRow.holds Try.pinned (OpenSpec.upto spfBetterSpec)

/-- 'viaductlaw11.SpfAll', WHERE WHAT IT READS IS OF BULK AT MOST 1048576: true; the input reads as it did. -/
def spfAllUptoRow : OpenClaim := { program := "ytkagfgnjfdlicaa", sum := "48dce2934d0ee082116f4047e11f61f3b6c7f3ac0f8cb7cc78bab60c547c65a7", func := "viaduct/viaductlaw11.SpfAll", spec := "spfAll", unfollowed := true, recurses := true, plainKeys := false, apart := false, narrowed := true }
def SpfAllUptoSaid : Prop := spfAllUptoRow.holds Try.pinned (OpenSpec.upto spfAllSpec)

/-- 'viaductlaw11.SpfBest', WHERE WHAT IT READS IS OF BULK AT MOST 1048576: true; the input reads as it did. -/
def spfBestUptoRow : OpenClaim := { program := "ytkagfgnjfdlicaa", sum := "48dce2934d0ee082116f4047e11f61f3b6c7f3ac0f8cb7cc78bab60c547c65a7", func := "viaduct/viaductlaw11.SpfBest", spec := "spfBest", unfollowed := true, recurses := true, plainKeys := false, apart := false, narrowed := true }
def SpfBestUptoSaid : Prop := spfBestUptoRow.holds Try.pinned (OpenSpec.upto spfBestSpec)

/-- 'viaductlaw11.SpfNone', WHERE WHAT IT READS IS OF BULK AT MOST 1048576: true; the input reads as it did. -/
def spfNoneUptoRow : OpenClaim := { program := "ytkagfgnjfdlicaa", sum := "48dce2934d0ee082116f4047e11f61f3b6c7f3ac0f8cb7cc78bab60c547c65a7", func := "viaduct/viaductlaw11.SpfNone", spec := "spfNone", unfollowed := true, recurses := true, plainKeys := false, apart := false, narrowed := true }
def SpfNoneUptoSaid : Prop := spfNoneUptoRow.holds Try.pinned (OpenSpec.upto spfNoneSpec)

/-- 'viaductlaw11.SpfParts', WHERE WHAT IT READS IS OF BULK AT MOST 1048576: true; the input reads as it did. -/
def spfPartsUptoRow : OpenClaim := { program := "ytkagfgnjfdlicaa", sum := "48dce2934d0ee082116f4047e11f61f3b6c7f3ac0f8cb7cc78bab60c547c65a7", func := "viaduct/viaductlaw11.SpfParts", spec := "spfParts", unfollowed := true, recurses := true, plainKeys := false, apart := false, narrowed := true }
def SpfPartsUptoSaid : Prop := spfPartsUptoRow.holds Try.pinned (OpenSpec.upto spfPartsSpec)

/-- 'viaductlaw11.SpfReaches', WHERE WHAT IT READS IS OF BULK AT MOST 1048576: true; the input reads as it did. -/
def spfReachesUptoRow : OpenClaim := { program := "ytkagfgnjfdlicaa", sum := "48dce2934d0ee082116f4047e11f61f3b6c7f3ac0f8cb7cc78bab60c547c65a7", func := "viaduct/viaductlaw11.SpfReaches", spec := "spfReaches", unfollowed := true, recurses := true, plainKeys := false, apart := false, narrowed := true }
def SpfReachesUptoSaid : Prop := spfReachesUptoRow.holds Try.pinned (OpenSpec.upto spfReachesSpec)

end Rows
end Go.Proofs.Ytkagfgnjfdlicaa
