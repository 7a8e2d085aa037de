/-
  The laws' None, all (viaductlaw15). Condition: fewer than 2^30 adverts.
-/
import Derived.Test.YtjflbfianncpfaaTedAE
namespace Go.Proofs.Ytjflbfianncpfaa
set_option maxRecDepth 100000
set_option linter.unusedVariables false
open Go.RowKit

def OurT15 (l : List Ad) (w : World) (e : Ending) (w' : World) : Prop := ∃ A c, e = .returned (.slice A l.length c) ∧ AccT15 w' w.heap.size A c l ∧ Below w.heap.size w w'
theorem theirs15_lit (x : Ad) (w : World) : Calls Try.prog 38 #[.agg #[.int .i64 x.k.f, .int .i64 x.k.t, .int .u64 x.k.c, .int .i64 x.k.m, .int .u32 x.k.g, .int .i64 x.q, .bool x.up, .int .u64 ((x.f[0]?.getD 0 : Nat) : Int), .int .u64 ((x.f[1]?.getD 0 : Nat) : Int), .int .u64 ((x.f[2]?.getD 0 : Nat) : Int), .int .u64 ((x.f[3]?.getD 0 : Nat) : Int), .int .u64 ((x.f[4]?.getD 0 : Nat) : Int), .int .u64 ((x.f[5]?.getD 0 : Nat) : Int), .int .u64 ((x.f[6]?.getD 0 : Nat) : Int), .int .u64 ((x.f[7]?.getD 0 : Nat) : Int)]] w fun e w' => e = .returned (.agg #[.int .i64 x.k.f, .int .i64 x.k.t, .int .u64 x.k.c, .int .i64 x.k.m, .int .u32 x.k.g, .int .i64 x.q, .bool x.up, .int .u64 ((x.f[0]?.getD 0 : Nat) : Int), .int .u64 ((x.f[1]?.getD 0 : Nat) : Int), .int .u64 ((x.f[2]?.getD 0 : Nat) : Int), .int .u64 ((x.f[3]?.getD 0 : Nat) : Int), .int .u64 ((x.f[4]?.getD 0 : Nat) : Int), .int .u64 ((x.f[5]?.getD 0 : Nat) : Int), .int .u64 ((x.f[6]?.getD 0 : Nat) : Int), .int .u64 ((x.f[7]?.getD 0 : Nat) : Int)]) ∧ Below w.heap.size w w' := theirs15_calls x w
end Go.Proofs.Ytjflbfianncpfaa
