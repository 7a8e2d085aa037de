/-
  No cell of these rows narrows 'for every input' (looked for: loops, veiled, ifaces, maps, wideKeys, modest, calm, conditions, laid).
  DERIVED. THE GIVEN ROWS OF THIS SEAT. 7 by the template 'for every input the law returns true; each argument reads behind the call as it read before'; 0 by the template 'total and deterministic' (their statements: YtpnjjeplgkaaoaaTotals.lean).
  GIVEN WITH THE SEED: the statements are not yours to turn. If you find one false, say at which input.
  Laid BY PROGRAM, IN A SANDBOX (cutbox-rows.mjs): the forced cells as the released guide's own fill.sh prints them over the translation 51b64ccc9519f2d7… (all of the seat's roots in one cut). By AI agents, Wed Nov 11 2026. No macro, syntax, notation, axiom, sorry.
-/
import Derived.Test.YtpnjjeplgkaaoaaChecked
import GoSem.Claim
import GoSem.ClaimJoined
import GoSem.ClaimMapViews
import Derived.JoinedTies
import Derived.KernelRfl
namespace Go.Proofs.Ytpnjjeplgkaaoaa
/- THE CELL 'sum', in the pinned program and in every row, IS THE sha256 OF THE DUMP (.gsa) THAT YtpnjjeplgkaaoaaProg.lean LOADS. Nothing in Lean hashes anything: it is a label: what it is worth is what the hold of that sum in a sandbox is worth. -/
noncomputable def Try.pinned : Pinned := { name := "ytpnjjeplgkaaoaa", sum := "51b64ccc9519f2d76f7071638dfb17b473f7535f38d6767176bd02d408320b35", checked := Try.checked }
namespace Rows
def none {H : Type} : Left H := { results := [], args := [] }

/-- 'viaductlaw13.LedgerAsks': WHATEVER THE INPUT: true; the input reads as it did. -/
def ledgerAsksSpec : ChangeSpec := { name := "ledgerAsks", fn := fun _ => fun
  | [d1, d2, d3] => { results := [.lit (.bool true)], args := [d1, d2, d3] }
  | _ => none }
def ledgerAsksRow : OpenClaim := { program := "ytpnjjeplgkaaoaa", sum := "51b64ccc9519f2d76f7071638dfb17b473f7535f38d6767176bd02d408320b35", func := "viaduct/viaductlaw13.LedgerAsks", spec := "ledgerAsks", apart := false }
def LedgerAsksSaid : Prop := ledgerAsksRow.holds Try.pinned (OpenSpec.ofChange ledgerAsksSpec)

/-- ITS FALSE NEIGHBOUR: 'it returns false'. Refute it at one input. -/
def ledgerAsksWrong : ChangeSpec := { name := "ledgerAsks", fn := fun _ => fun
  | [d1, d2, d3] => { results := [.lit (.bool false)], args := [d1, d2, d3] }
  | _ => none }
def LedgerAsksWrongFalsely : Prop := ledgerAsksRow.holds Try.pinned (OpenSpec.ofChange ledgerAsksWrong)

/-- 'viaductlaw13.LedgerMoves': WHATEVER THE INPUT: true; the input reads as it did. -/
def ledgerMovesSpec : ChangeSpec := { name := "ledgerMoves", fn := fun _ => fun
  | [d1, d2, d3] => { results := [.lit (.bool true)], args := [d1, d2, d3] }
  | _ => none }
def ledgerMovesRow : OpenClaim := { program := "ytpnjjeplgkaaoaa", sum := "51b64ccc9519f2d76f7071638dfb17b473f7535f38d6767176bd02d408320b35", func := "viaduct/viaductlaw13.LedgerMoves", spec := "ledgerMoves", apart := false }
def LedgerMovesSaid : Prop := ledgerMovesRow.holds Try.pinned (OpenSpec.ofChange ledgerMovesSpec)

/-- ITS FALSE NEIGHBOUR: 'it returns false'. Refute it at one input. -/
def ledgerMovesWrong : ChangeSpec := { name := "ledgerMoves", fn := fun _ => fun
  | [d1, d2, d3] => { results := [.lit (.bool false)], args := [d1, d2, d3] }
  | _ => none }
def LedgerMovesWrongFalsely : Prop := ledgerMovesRow.holds Try.pinned (OpenSpec.ofChange ledgerMovesWrong)

/-- 'viaductlaw13.LedgerBack': WHATEVER THE INPUT: true; the input reads as it did. -/
def ledgerBackSpec : ChangeSpec := { name := "ledgerBack", fn := fun _ => fun
  | [d1, d2, d3] => { results := [.lit (.bool true)], args := [d1, d2, d3] }
  | _ => none }
def ledgerBackRow : OpenClaim := { program := "ytpnjjeplgkaaoaa", sum := "51b64ccc9519f2d76f7071638dfb17b473f7535f38d6767176bd02d408320b35", func := "viaduct/viaductlaw13.LedgerBack", spec := "ledgerBack", apart := false }
def LedgerBackSaid : Prop := ledgerBackRow.holds Try.pinned (OpenSpec.ofChange ledgerBackSpec)

/-- ITS FALSE NEIGHBOUR: 'it returns false'. Refute it at one input. -/
def ledgerBackWrong : ChangeSpec := { name := "ledgerBack", fn := fun _ => fun
  | [d1, d2, d3] => { results := [.lit (.bool false)], args := [d1, d2, d3] }
  | _ => none }
def LedgerBackWrongFalsely : Prop := ledgerBackRow.holds Try.pinned (OpenSpec.ofChange ledgerBackWrong)

/-- 'viaductlaw13.LedgerFalls': WHATEVER THE INPUT: true; the input reads as it did. -/
def ledgerFallsSpec : ChangeSpec := { name := "ledgerFalls", fn := fun _ => fun
  | [d] => { results := [.lit (.bool true)], args := [d] }
  | _ => none }
def ledgerFallsRow : OpenClaim := { program := "ytpnjjeplgkaaoaa", sum := "51b64ccc9519f2d76f7071638dfb17b473f7535f38d6767176bd02d408320b35", func := "viaduct/viaductlaw13.LedgerFalls", spec := "ledgerFalls", apart := false }
def LedgerFallsSaid : Prop := ledgerFallsRow.holds Try.pinned (OpenSpec.ofChange ledgerFallsSpec)

/-- ITS FALSE NEIGHBOUR: 'it returns false'. Refute it at one input. -/
def ledgerFallsWrong : ChangeSpec := { name := "ledgerFalls", fn := fun _ => fun
  | [d] => { results := [.lit (.bool false)], args := [d] }
  | _ => none }
def LedgerFallsWrongFalsely : Prop := ledgerFallsRow.holds Try.pinned (OpenSpec.ofChange ledgerFallsWrong)

/-- 'viaductlaw13.LedgerRight': WHATEVER THE INPUT: true; the input reads as it did. -/
def ledgerRightSpec : ChangeSpec := { name := "ledgerRight", fn := fun _ => fun
  | [d1, d2] => { results := [.lit (.bool true)], args := [d1, d2] }
  | _ => none }
def ledgerRightRow : OpenClaim := { program := "ytpnjjeplgkaaoaa", sum := "51b64ccc9519f2d76f7071638dfb17b473f7535f38d6767176bd02d408320b35", func := "viaduct/viaductlaw13.LedgerRight", spec := "ledgerRight", apart := false }
def LedgerRightSaid : Prop := ledgerRightRow.holds Try.pinned (OpenSpec.ofChange ledgerRightSpec)

/-- ITS FALSE NEIGHBOUR: 'it returns false'. Refute it at one input. -/
def ledgerRightWrong : ChangeSpec := { name := "ledgerRight", fn := fun _ => fun
  | [d1, d2] => { results := [.lit (.bool false)], args := [d1, d2] }
  | _ => none }
def LedgerRightWrongFalsely : Prop := ledgerRightRow.holds Try.pinned (OpenSpec.ofChange ledgerRightWrong)

/-- 'viaductlaw13.LedgerTakes': WHATEVER THE INPUT: true; the input reads as it did. -/
def ledgerTakesSpec : ChangeSpec := { name := "ledgerTakes", fn := fun _ => fun
  | [d1, d2, d3] => { results := [.lit (.bool true)], args := [d1, d2, d3] }
  | _ => none }
def ledgerTakesRow : OpenClaim := { program := "ytpnjjeplgkaaoaa", sum := "51b64ccc9519f2d76f7071638dfb17b473f7535f38d6767176bd02d408320b35", func := "viaduct/viaductlaw13.LedgerTakes", spec := "ledgerTakes", apart := false }
def LedgerTakesSaid : Prop := ledgerTakesRow.holds Try.pinned (OpenSpec.ofChange ledgerTakesSpec)

/-- ITS FALSE NEIGHBOUR: 'it returns false'. Refute it at one input. -/
def ledgerTakesWrong : ChangeSpec := { name := "ledgerTakes", fn := fun _ => fun
  | [d1, d2, d3] => { results := [.lit (.bool false)], args := [d1, d2, d3] }
  | _ => none }
def LedgerTakesWrongFalsely : Prop := ledgerTakesRow.holds Try.pinned (OpenSpec.ofChange ledgerTakesWrong)

/-- 'viaductlaw13.LedgerEither': WHATEVER THE INPUT: true; the input reads as it did. -/
def ledgerEitherSpec : ChangeSpec := { name := "ledgerEither", fn := fun _ => fun
  | [d1, d2, d3] => { results := [.lit (.bool true)], args := [d1, d2, d3] }
  | _ => none }
def ledgerEitherRow : OpenClaim := { program := "ytpnjjeplgkaaoaa", sum := "51b64ccc9519f2d76f7071638dfb17b473f7535f38d6767176bd02d408320b35", func := "viaduct/viaductlaw13.LedgerEither", spec := "ledgerEither", apart := false }
def LedgerEitherSaid : Prop := ledgerEitherRow.holds Try.pinned (OpenSpec.ofChange ledgerEitherSpec)

/-- ITS FALSE NEIGHBOUR: 'it returns false'. Refute it at one input. -/
def ledgerEitherWrong : ChangeSpec := { name := "ledgerEither", fn := fun _ => fun
  | [d1, d2, d3] => { results := [.lit (.bool false)], args := [d1, d2, d3] }
  | _ => none }
def LedgerEitherWrongFalsely : Prop := ledgerEitherRow.holds Try.pinned (OpenSpec.ofChange ledgerEitherWrong)

/- THE SECOND FORM. 'bulk': how many values and letters a reading holds, each counted each time it is reached (what is shared counts as often as it is met; a slice's spare places count too). A statement '..UptoSaid' is the law's where the arguments, and the package variables that the reading takes, are together of bulk at most 1048576: NARROWER than '..Said'. Prove '..Said' where nothing that the law and all that it calls make is longer than what came in: it says more and counts as full. Else prove '..UptoSaid'. A law counts once. -/
mutual
def uptoBulk {H : Type} : DataW H → Nat
  | .lit (.string bytes) => bytes.length + 1
  | .lit _ => 1
  | .nil => 1
  | .ptr d => uptoBulk d + 1
  | .slice elems spare => uptoBulkAll elems + uptoBulkAll spare + 1
  | .agg parts => uptoBulkAll parts + 1
  | .iface _ d => uptoBulk d + 1
  | .map entries => uptoBulkEntries entries + 1
  | .held _ => 1
def uptoBulkAll {H : Type} : List (DataW H) → Nat
  | [] => 0
  | d :: r => uptoBulk d + uptoBulkAll r
def uptoBulkEntries {H : Type} : List (Lit × DataW H) → Nat
  | [] => 0
  | x :: r => uptoBulkEntry x + uptoBulkEntries r
def uptoBulkEntry {H : Type} : Lit × DataW H → Nat
  | (.string bytes, d) => bytes.length + uptoBulk d + 1
  | (_, d) => uptoBulk d + 1
 end
def uptoSmall : (H : Type) → List (DataW H) → Bool := fun _ ds => decide (uptoBulkAll ds ≤ 1048576)
def OpenSpec.upto (s : _root_.Go.ChangeSpec) : _root_.Go.OpenSpec := { _root_.Go.OpenSpec.ofChange s with cond := some uptoSmall }

/-- 'viaductlaw13.LedgerAsks', WHERE WHAT IT READS IS OF BULK AT MOST 1048576: true; the input reads as it did. -/
def ledgerAsksUptoRow : OpenClaim := { program := "ytpnjjeplgkaaoaa", sum := "51b64ccc9519f2d76f7071638dfb17b473f7535f38d6767176bd02d408320b35", func := "viaduct/viaductlaw13.LedgerAsks", spec := "ledgerAsks", apart := false, narrowed := true }
def LedgerAsksUptoSaid : Prop := ledgerAsksUptoRow.holds Try.pinned (OpenSpec.upto ledgerAsksSpec)

/-- 'viaductlaw13.LedgerMoves', WHERE WHAT IT READS IS OF BULK AT MOST 1048576: true; the input reads as it did. -/
def ledgerMovesUptoRow : OpenClaim := { program := "ytpnjjeplgkaaoaa", sum := "51b64ccc9519f2d76f7071638dfb17b473f7535f38d6767176bd02d408320b35", func := "viaduct/viaductlaw13.LedgerMoves", spec := "ledgerMoves", apart := false, narrowed := true }
def LedgerMovesUptoSaid : Prop := ledgerMovesUptoRow.holds Try.pinned (OpenSpec.upto ledgerMovesSpec)

/-- 'viaductlaw13.LedgerBack', WHERE WHAT IT READS IS OF BULK AT MOST 1048576: true; the input reads as it did. -/
def ledgerBackUptoRow : OpenClaim := { program := "ytpnjjeplgkaaoaa", sum := "51b64ccc9519f2d76f7071638dfb17b473f7535f38d6767176bd02d408320b35", func := "viaduct/viaductlaw13.LedgerBack", spec := "ledgerBack", apart := false, narrowed := true }
def LedgerBackUptoSaid : Prop := ledgerBackUptoRow.holds Try.pinned (OpenSpec.upto ledgerBackSpec)

/-- 'viaductlaw13.LedgerFalls', WHERE WHAT IT READS IS OF BULK AT MOST 1048576: true; the input reads as it did. -/
def ledgerFallsUptoRow : OpenClaim := { program := "ytpnjjeplgkaaoaa", sum := "51b64ccc9519f2d76f7071638dfb17b473f7535f38d6767176bd02d408320b35", func := "viaduct/viaductlaw13.LedgerFalls", spec := "ledgerFalls", apart := false, narrowed := true }
def LedgerFallsUptoSaid : Prop := ledgerFallsUptoRow.holds Try.pinned (OpenSpec.upto ledgerFallsSpec)

/-- 'viaductlaw13.LedgerRight', WHERE WHAT IT READS IS OF BULK AT MOST 1048576: true; the input reads as it did. -/
def ledgerRightUptoRow : OpenClaim := { program := "ytpnjjeplgkaaoaa", sum := "51b64ccc9519f2d76f7071638dfb17b473f7535f38d6767176bd02d408320b35", func := "viaduct/viaductlaw13.LedgerRight", spec := "ledgerRight", apart := false, narrowed := true }
def LedgerRightUptoSaid : Prop := ledgerRightUptoRow.holds Try.pinned (OpenSpec.upto ledgerRightSpec)

/-- 'viaductlaw13.LedgerTakes', WHERE WHAT IT READS IS OF BULK AT MOST 1048576: true; the input reads as it did. -/
def ledgerTakesUptoRow : OpenClaim := { program := "ytpnjjeplgkaaoaa", sum := "51b64ccc9519f2d76f7071638dfb17b473f7535f38d6767176bd02d408320b35", func := "viaduct/viaductlaw13.LedgerTakes", spec := "ledgerTakes", apart := false, narrowed := true }
def LedgerTakesUptoSaid : Prop := ledgerTakesUptoRow.holds Try.pinned (OpenSpec.upto ledgerTakesSpec)

/-- 'viaductlaw13.LedgerEither', WHERE WHAT IT READS IS OF BULK AT MOST 1048576: true; the input reads as it did. -/
def ledgerEitherUptoRow : OpenClaim := { program := "ytpnjjeplgkaaoaa", sum := "51b64ccc9519f2d76f7071638dfb17b473f7535f38d6767176bd02d408320b35", func := "viaduct/viaductlaw13.LedgerEither", spec := "ledgerEither", apart := false, narrowed := true }
def LedgerEitherUptoSaid : Prop := ledgerEitherUptoRow.holds Try.pinned (OpenSpec.upto ledgerEitherSpec)

end Rows
end Go.Proofs.Ytpnjjeplgkaaoaa
