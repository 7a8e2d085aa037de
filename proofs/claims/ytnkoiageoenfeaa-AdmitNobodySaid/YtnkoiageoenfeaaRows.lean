/-
  No cell of these rows narrows 'for every input' (looked for: loops, veiled, ifaces, maps, wideKeys, modest, calm, conditions, laid).
  DERIVED. THE GIVEN ROWS OF THIS SEAT. 8 by the template 'for every input the law returns true; each argument reads behind the call as it read before'; 0 by the template 'total and deterministic' (their statements: YtnkoiageoenfeaaTotals.lean).
  GIVEN WITH THE SEED: the statements are not yours to turn. If you find one false, say at which input.
  Laid BY PROGRAM, IN A SANDBOX (cutbox-rows.mjs): the forced cells as the released guide's own fill.sh prints them over the translation d31d14018f7689dc… (all of the seat's roots in one cut). By AI agents, Wed Nov 11 2026. No macro, syntax, notation, axiom, sorry.
-/
import Derived.Test.YtnkoiageoenfeaaChecked
import GoSem.Claim
import GoSem.ClaimJoined
import GoSem.ClaimMapViews
import Derived.JoinedTies
import Derived.KernelRfl
namespace Go.Proofs.Ytnkoiageoenfeaa
/- THE CELL 'sum', in the pinned program and in every row, IS THE sha256 OF THE DUMP (.gsa) THAT YtnkoiageoenfeaaProg.lean LOADS. Nothing in Lean hashes anything: it is a label: what it is worth is what the hold of that sum in a sandbox is worth. -/
noncomputable def Try.pinned : Pinned := { name := "ytnkoiageoenfeaa", sum := "d31d14018f7689dcc1d587d765ef32df233efc64e3e2b488599058c663df689b", checked := Try.checked }
namespace Rows
def none {H : Type} : Left H := { results := [], args := [] }

/-- 'viaductlaw14.AdmitKeys': WHATEVER THE INPUT: true; the input reads as it did. -/
def admitKeysSpec : ChangeSpec := { name := "admitKeys", fn := fun _ => fun
  | [d1, d2] => { results := [.lit (.bool true)], args := [d1, d2] }
  | _ => none }
def admitKeysRow : OpenClaim := { program := "ytnkoiageoenfeaa", sum := "d31d14018f7689dcc1d587d765ef32df233efc64e3e2b488599058c663df689b", func := "viaduct/viaductlaw14.AdmitKeys", spec := "admitKeys", unfollowed := true, recurses := true, apart := false }
def AdmitKeysSaid : Prop := admitKeysRow.holds Try.pinned (OpenSpec.ofChange admitKeysSpec)

/-- ITS FALSE NEIGHBOUR: 'it returns false'. Refute it at one input. -/
def admitKeysWrong : ChangeSpec := { name := "admitKeys", fn := fun _ => fun
  | [d1, d2] => { results := [.lit (.bool false)], args := [d1, d2] }
  | _ => none }
def AdmitKeysWrongFalsely : Prop := admitKeysRow.holds Try.pinned (OpenSpec.ofChange admitKeysWrong)

/-- 'viaductlaw14.AdmitActs': WHATEVER THE INPUT: true; the input reads as it did. -/
def admitActsSpec : ChangeSpec := { name := "admitActs", fn := fun _ => fun
  | [d1, d2] => { results := [.lit (.bool true)], args := [d1, d2] }
  | _ => none }
def admitActsRow : OpenClaim := { program := "ytnkoiageoenfeaa", sum := "d31d14018f7689dcc1d587d765ef32df233efc64e3e2b488599058c663df689b", func := "viaduct/viaductlaw14.AdmitActs", spec := "admitActs", unfollowed := true, recurses := true, apart := false }
def AdmitActsSaid : Prop := admitActsRow.holds Try.pinned (OpenSpec.ofChange admitActsSpec)

/-- ITS FALSE NEIGHBOUR: 'it returns false'. Refute it at one input. -/
def admitActsWrong : ChangeSpec := { name := "admitActs", fn := fun _ => fun
  | [d1, d2] => { results := [.lit (.bool false)], args := [d1, d2] }
  | _ => none }
def AdmitActsWrongFalsely : Prop := admitActsRow.holds Try.pinned (OpenSpec.ofChange admitActsWrong)

/-- 'viaductlaw14.AdmitRight': WHATEVER THE INPUT: true; the input reads as it did. -/
def admitRightSpec : ChangeSpec := { name := "admitRight", fn := fun _ => fun
  | [d1, d2] => { results := [.lit (.bool true)], args := [d1, d2] }
  | _ => none }
def admitRightRow : OpenClaim := { program := "ytnkoiageoenfeaa", sum := "d31d14018f7689dcc1d587d765ef32df233efc64e3e2b488599058c663df689b", func := "viaduct/viaductlaw14.AdmitRight", spec := "admitRight", unfollowed := true, recurses := true, apart := false }
def AdmitRightSaid : Prop := admitRightRow.holds Try.pinned (OpenSpec.ofChange admitRightSpec)

/-- ITS FALSE NEIGHBOUR: 'it returns false'. Refute it at one input. -/
def admitRightWrong : ChangeSpec := { name := "admitRight", fn := fun _ => fun
  | [d1, d2] => { results := [.lit (.bool false)], args := [d1, d2] }
  | _ => none }
def AdmitRightWrongFalsely : Prop := admitRightRow.holds Try.pinned (OpenSpec.ofChange admitRightWrong)

/-- 'viaductlaw14.AdmitGives': WHATEVER THE INPUT: true; the input reads as it did. -/
def admitGivesSpec : ChangeSpec := { name := "admitGives", fn := fun _ => fun
  | [d1, d2] => { results := [.lit (.bool true)], args := [d1, d2] }
  | _ => none }
def admitGivesRow : OpenClaim := { program := "ytnkoiageoenfeaa", sum := "d31d14018f7689dcc1d587d765ef32df233efc64e3e2b488599058c663df689b", func := "viaduct/viaductlaw14.AdmitGives", spec := "admitGives", unfollowed := true, recurses := true, apart := false }
def AdmitGivesSaid : Prop := admitGivesRow.holds Try.pinned (OpenSpec.ofChange admitGivesSpec)

/-- ITS FALSE NEIGHBOUR: 'it returns false'. Refute it at one input. -/
def admitGivesWrong : ChangeSpec := { name := "admitGives", fn := fun _ => fun
  | [d1, d2] => { results := [.lit (.bool false)], args := [d1, d2] }
  | _ => none }
def AdmitGivesWrongFalsely : Prop := admitGivesRow.holds Try.pinned (OpenSpec.ofChange admitGivesWrong)

/-- 'viaductlaw14.AdmitRefused': WHATEVER THE INPUT: true; the input reads as it did. -/
def admitRefusedSpec : ChangeSpec := { name := "admitRefused", fn := fun _ => fun
  | [d1, d2] => { results := [.lit (.bool true)], args := [d1, d2] }
  | _ => none }
def admitRefusedRow : OpenClaim := { program := "ytnkoiageoenfeaa", sum := "d31d14018f7689dcc1d587d765ef32df233efc64e3e2b488599058c663df689b", func := "viaduct/viaductlaw14.AdmitRefused", spec := "admitRefused", unfollowed := true, recurses := true, apart := false }
def AdmitRefusedSaid : Prop := admitRefusedRow.holds Try.pinned (OpenSpec.ofChange admitRefusedSpec)

/-- ITS FALSE NEIGHBOUR: 'it returns false'. Refute it at one input. -/
def admitRefusedWrong : ChangeSpec := { name := "admitRefused", fn := fun _ => fun
  | [d1, d2] => { results := [.lit (.bool false)], args := [d1, d2] }
  | _ => none }
def AdmitRefusedWrongFalsely : Prop := admitRefusedRow.holds Try.pinned (OpenSpec.ofChange admitRefusedWrong)

/-- 'viaductlaw14.AdmitShares': WHATEVER THE INPUT: true; the input reads as it did. -/
def admitSharesSpec : ChangeSpec := { name := "admitShares", fn := fun _ => fun
  | [d1, d2, d3] => { results := [.lit (.bool true)], args := [d1, d2, d3] }
  | _ => none }
def admitSharesRow : OpenClaim := { program := "ytnkoiageoenfeaa", sum := "d31d14018f7689dcc1d587d765ef32df233efc64e3e2b488599058c663df689b", func := "viaduct/viaductlaw14.AdmitShares", spec := "admitShares", unfollowed := true, recurses := true, apart := false }
def AdmitSharesSaid : Prop := admitSharesRow.holds Try.pinned (OpenSpec.ofChange admitSharesSpec)

/-- ITS FALSE NEIGHBOUR: 'it returns false'. Refute it at one input. -/
def admitSharesWrong : ChangeSpec := { name := "admitShares", fn := fun _ => fun
  | [d1, d2, d3] => { results := [.lit (.bool false)], args := [d1, d2, d3] }
  | _ => none }
def AdmitSharesWrongFalsely : Prop := admitSharesRow.holds Try.pinned (OpenSpec.ofChange admitSharesWrong)

/-- 'viaductlaw14.AdmitNobody': WHATEVER THE INPUT: true; the input reads as it did. -/
def admitNobodySpec : ChangeSpec := { name := "admitNobody", fn := fun _ => fun
  | [d] => { results := [.lit (.bool true)], args := [d] }
  | _ => none }
def admitNobodyRow : OpenClaim := { program := "ytnkoiageoenfeaa", sum := "d31d14018f7689dcc1d587d765ef32df233efc64e3e2b488599058c663df689b", func := "viaduct/viaductlaw14.AdmitNobody", spec := "admitNobody", unfollowed := true, recurses := true, apart := false }
def AdmitNobodySaid : Prop := admitNobodyRow.holds Try.pinned (OpenSpec.ofChange admitNobodySpec)

/-- ITS FALSE NEIGHBOUR: 'it returns false'. Refute it at one input. -/
def admitNobodyWrong : ChangeSpec := { name := "admitNobody", fn := fun _ => fun
  | [d] => { results := [.lit (.bool false)], args := [d] }
  | _ => none }
def AdmitNobodyWrongFalsely : Prop := admitNobodyRow.holds Try.pinned (OpenSpec.ofChange admitNobodyWrong)

/-- 'viaductlaw14.AdmitBack': WHATEVER THE INPUT: true; the input reads as it did. -/
def admitBackSpec : ChangeSpec := { name := "admitBack", fn := fun _ => fun
  | [d1, d2, d3] => { results := [.lit (.bool true)], args := [d1, d2, d3] }
  | _ => none }
def admitBackRow : OpenClaim := { program := "ytnkoiageoenfeaa", sum := "d31d14018f7689dcc1d587d765ef32df233efc64e3e2b488599058c663df689b", func := "viaduct/viaductlaw14.AdmitBack", spec := "admitBack", unfollowed := true, recurses := true, apart := false }
def AdmitBackSaid : Prop := admitBackRow.holds Try.pinned (OpenSpec.ofChange admitBackSpec)

/-- ITS FALSE NEIGHBOUR: 'it returns false'. Refute it at one input. -/
def admitBackWrong : ChangeSpec := { name := "admitBack", fn := fun _ => fun
  | [d1, d2, d3] => { results := [.lit (.bool false)], args := [d1, d2, d3] }
  | _ => none }
def AdmitBackWrongFalsely : Prop := admitBackRow.holds Try.pinned (OpenSpec.ofChange admitBackWrong)

/- THE SECOND FORM. 'bulk': how many values and letters a reading holds, each counted each time it is reached (what is shared counts as often as it is met; a slice's spare places count too). A statement '..UptoSaid' is the law's where the arguments, and the package variables that the reading takes, are together of bulk at most 1048576: NARROWER than '..Said'. Prove '..Said' where nothing that the law and all that it calls make is longer than what came in: it says more and counts as full. Else prove '..UptoSaid'. A law counts once. -/
mutual
def uptoBulk {H : Type} : DataW H → Nat
  | .lit (.string bytes) => bytes.length + 1
  | .lit _ => 1
  | .nil => 1
  | .ptr d => uptoBulk d + 1
  | .slice elems spare => uptoBulkAll elems + uptoBulkAll spare + 1
  | .agg parts => uptoBulkAll parts + 1
  | .iface _ d => uptoBulk d + 1
  | .map entries => uptoBulkEntries entries + 1
  | .held _ => 1
def uptoBulkAll {H : Type} : List (DataW H) → Nat
  | [] => 0
  | d :: r => uptoBulk d + uptoBulkAll r
def uptoBulkEntries {H : Type} : List (Lit × DataW H) → Nat
  | [] => 0
  | x :: r => uptoBulkEntry x + uptoBulkEntries r
def uptoBulkEntry {H : Type} : Lit × DataW H → Nat
  | (.string bytes, d) => bytes.length + uptoBulk d + 1
  | (_, d) => uptoBulk d + 1
 end
def uptoSmall : (H : Type) → List (DataW H) → Bool := fun _ ds => decide (uptoBulkAll ds ≤ 1048576)
def OpenSpec.upto (s : _root_.Go.ChangeSpec) : _root_.Go.OpenSpec := { _root_.Go.OpenSpec.ofChange s with cond := some uptoSmall }

/-- 'viaductlaw14.AdmitKeys', WHERE WHAT IT READS IS OF BULK AT MOST 1048576: true; the input reads as it did. -/
def admitKeysUptoRow : OpenClaim := { program := "ytnkoiageoenfeaa", sum := "d31d14018f7689dcc1d587d765ef32df233efc64e3e2b488599058c663df689b", func := "viaduct/viaductlaw14.AdmitKeys", spec := "admitKeys", unfollowed := true, recurses := true, apart := false, narrowed := true }
def AdmitKeysUptoSaid : Prop := admitKeysUptoRow.holds Try.pinned (OpenSpec.upto admitKeysSpec)

/-- 'viaductlaw14.AdmitActs', WHERE WHAT IT READS IS OF BULK AT MOST 1048576: true; the input reads as it did. -/
def admitActsUptoRow : OpenClaim := { program := "ytnkoiageoenfeaa", sum := "d31d14018f7689dcc1d587d765ef32df233efc64e3e2b488599058c663df689b", func := "viaduct/viaductlaw14.AdmitActs", spec := "admitActs", unfollowed := true, recurses := true, apart := false, narrowed := true }
def AdmitActsUptoSaid : Prop := admitActsUptoRow.holds Try.pinned (OpenSpec.upto admitActsSpec)

/-- 'viaductlaw14.AdmitRight', WHERE WHAT IT READS IS OF BULK AT MOST 1048576: true; the input reads as it did. -/
def admitRightUptoRow : OpenClaim := { program := "ytnkoiageoenfeaa", sum := "d31d14018f7689dcc1d587d765ef32df233efc64e3e2b488599058c663df689b", func := "viaduct/viaductlaw14.AdmitRight", spec := "admitRight", unfollowed := true, recurses := true, apart := false, narrowed := true }
def AdmitRightUptoSaid : Prop := admitRightUptoRow.holds Try.pinned (OpenSpec.upto admitRightSpec)

/-- 'viaductlaw14.AdmitGives', WHERE WHAT IT READS IS OF BULK AT MOST 1048576: true; the input reads as it did. -/
def admitGivesUptoRow : OpenClaim := { program := "ytnkoiageoenfeaa", sum := "d31d14018f7689dcc1d587d765ef32df233efc64e3e2b488599058c663df689b", func := "viaduct/viaductlaw14.AdmitGives", spec := "admitGives", unfollowed := true, recurses := true, apart := false, narrowed := true }
def AdmitGivesUptoSaid : Prop := admitGivesUptoRow.holds Try.pinned (OpenSpec.upto admitGivesSpec)

/-- 'viaductlaw14.AdmitRefused', WHERE WHAT IT READS IS OF BULK AT MOST 1048576: true; the input reads as it did. -/
def admitRefusedUptoRow : OpenClaim := { program := "ytnkoiageoenfeaa", sum := "d31d14018f7689dcc1d587d765ef32df233efc64e3e2b488599058c663df689b", func := "viaduct/viaductlaw14.AdmitRefused", spec := "admitRefused", unfollowed := true, recurses := true, apart := false, narrowed := true }
def AdmitRefusedUptoSaid : Prop := admitRefusedUptoRow.holds Try.pinned (OpenSpec.upto admitRefusedSpec)

/-- 'viaductlaw14.AdmitShares', WHERE WHAT IT READS IS OF BULK AT MOST 1048576: true; the input reads as it did. -/
def admitSharesUptoRow : OpenClaim := { program := "ytnkoiageoenfeaa", sum := "d31d14018f7689dcc1d587d765ef32df233efc64e3e2b488599058c663df689b", func := "viaduct/viaductlaw14.AdmitShares", spec := "admitShares", unfollowed := true, recurses := true, apart := false, narrowed := true }
def AdmitSharesUptoSaid : Prop := admitSharesUptoRow.holds Try.pinned (OpenSpec.upto admitSharesSpec)

/-- 'viaductlaw14.AdmitNobody', WHERE WHAT IT READS IS OF BULK AT MOST 1048576: true; the input reads as it did. -/
def admitNobodyUptoRow : OpenClaim := { program := "ytnkoiageoenfeaa", sum := "d31d14018f7689dcc1d587d765ef32df233efc64e3e2b488599058c663df689b", func := "viaduct/viaductlaw14.AdmitNobody", spec := "admitNobody", unfollowed := true, recurses := true, apart := false, narrowed := true }
def AdmitNobodyUptoSaid : Prop := admitNobodyUptoRow.holds Try.pinned (OpenSpec.upto admitNobodySpec)

/-- 'viaductlaw14.AdmitBack', WHERE WHAT IT READS IS OF BULK AT MOST 1048576: true; the input reads as it did. -/
def admitBackUptoRow : OpenClaim := { program := "ytnkoiageoenfeaa", sum := "d31d14018f7689dcc1d587d765ef32df233efc64e3e2b488599058c663df689b", func := "viaduct/viaductlaw14.AdmitBack", spec := "admitBack", unfollowed := true, recurses := true, apart := false, narrowed := true }
def AdmitBackUptoSaid : Prop := admitBackUptoRow.holds Try.pinned (OpenSpec.upto admitBackSpec)

end Rows
end Go.Proofs.Ytnkoiageoenfeaa
