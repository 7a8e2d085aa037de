/-
  The code of layer 16 (prune): slices.Index and slices.Contains of pairs, owned, excluded; a question in memory. Condition: fewer than 2^30 elements in each list.
  The code of layer 16 (prune): excluded, hasRoom, Fits, Links. Condition: numbers as large as their types allow; fewer than 2^30 elements in each list.
  The code of layer 16 (prune): Links. Condition: numbers as large as their types allow; fewer than 2^30 elements in each list.
-/
import Derived.Test.YtogijfebfffobaaPruM
import Derived.Test.YtogijfebfffobaaTedAE
import Derived.Test.YtogijfebfffobaaTecA
import Derived.Test.YtogijfebfffobaaGraphAC
import Derived.Test.YtogijfebfffobaaGroupMC
import Derived.Test.YtogijfebfffobaaLedgMK
import Derived.Test.YtogijfebfffobaaBase
namespace Go.Proofs.Ytogijfebfffobaa
set_option maxRecDepth 100000
set_option linter.unusedVariables false
open Go.RowKit

/-- The cells of what a tunnel has of a link; of a pair. -/
def owc (o : Ow) : List Value := [.int .i64 o.f, .int .i64 o.t, .int .u64 (o.b : Int)]
def prc (p : Int × Int) : List Value := [.int .i64 p.1, .int .i64 p.2]
theorem owc_length (o : Ow) : (owc o).length = 3 := rfl
theorem prc_length (p : Int × Int) : (prc p).length = 2 := rfl
theorem owc_one (o : Ow) : ∀ u ∈ owc o, u.oneCell' = true := by
  intro u hu
  simp only [owc, List.mem_cons, List.not_mem_nil, or_false] at hu
  rcases hu with rfl | rfl | rfl <;> rfl
theorem prc_one (o : Int × Int) : ∀ u ∈ prc o, u.oneCell' = true := by
  intro u hu
  simp only [prc, List.mem_cons, List.not_mem_nil, or_false] at hu
  rcases hu with rfl | rfl <;> rfl
/-- Where the lists of a question lie, and its Hops. -/
structure Pl where
  a1 : Option Addr
  n1 : Nat
  c1 : Nat
  a2 : Option Addr
  n2 : Nat
  c2 : Nat
  a3 : Option Addr
  n3 : Nat
  c3 : Nat
  h : Int
/-- The cells of a question. -/
def akc (w : Wn) (p : Pl) : List Value := [.int .u64 (w.bw : Int), .int .i64 w.su, .int .i64 w.ho, .int .u32 (w.an : Int), .int .u32 (w.al : Int), .int .u32 (w.no : Int), .slice p.a1 p.n1 p.c1, .slice p.a2 p.n2 p.c2, .slice p.a3 p.n3 p.c3, .int .i64 p.h]
theorem akc_length (w : Wn) (p : Pl) : (akc w p).length = 10 := rfl
theorem akc_one (w : Wn) (p : Pl) : ∀ u ∈ akc w p, u.oneCell' = true := by
  intro u hu
  simp only [akc, List.mem_cons, List.not_mem_nil, or_false] at hu
  rcases hu with rfl | rfl | rfl | rfl | rfl | rfl | rfl | rfl | rfl | rfl <;> rfl
theorem akc_range {w : Wn} {p : Pl} {W : World} {g : Nat} {T : TypeId} (h : Blk W g T (akc w p)) : W.rangeAt g 0 (wnc w) := fun j v hv => by
  rw [Nat.zero_add, h.cell j]
  have hj : j < 6 := (List.getElem?_eq_some_iff.1 hv).1
  rw [← hv]
  rcases j with _ | _ | _ | _ | _ | _ | j
  iterate 6 rfl
  omega
theorem adc_range {a : Ad} {W : World} {g : Nat} {T : TypeId} (h : Blk W g T (adc a)) : W.rangeAt g 0 (lkc a.k) := fun j v hv => by
  rw [Nat.zero_add, h.cell j]
  unfold adc
  rw [List.getElem?_append_left (List.getElem?_eq_some_iff.1 hv).1]
  exact hv
/-- A question's lists lie in memory below B. -/
structure AkIn (W : World) (B : Nat) (a : Ak) (p : Pl) : Prop where
  nn : Row ei W B p.a1 p.n1 a.nn
  nl : Row prc W B p.a2 p.n2 a.nl
  ow : Row owc W B p.a3 p.n3 a.ow
  b1 : p.n1 ≤ 1073741824
  b2 : p.n2 ≤ 1073741824
  b3 : p.n3 ≤ 1073741824
theorem AkIn.below {W W' : World} {a : Ak} {p : Pl} (h : AkIn W W.heap.size a p) (hb : Below W.heap.size W W') : AkIn W' W'.heap.size a p :=
  ⟨(h.nn.below hb).more hb.size, (h.nl.below hb).more hb.size, (h.ow.below hb).more hb.size, h.b1, h.b2, h.b3⟩
def Num16 (n : Nat) (w : World) (e : Ending) (w' : World) : Prop := e = .returned (.int .u64 ((n : Nat) : Int)) ∧ Below w.heap.size w w'
theorem infoWn16 : (Try.prog.info? 34).map (·.size) = some 6 := by kernel_rfl
end Go.Proofs.Ytogijfebfffobaa

namespace Go.Proofs.Ytogijfebfffobaa
set_option maxRecDepth 100000
set_option linter.unusedVariables false
open Go.RowKit

theorem free16 {x : Ad} (hx : AdOk x) (i : Nat) : x.f.getD i 0 < 18446744073709551616 := by
  rw [List.getD_eq_getElem?_getD]
  cases e : x.f[i]? with
  | none => simp
  | some y => exact hx.num y (List.mem_of_getElem? e)
end Go.Proofs.Ytogijfebfffobaa

namespace Go.Proofs.Ytogijfebfffobaa
set_option maxRecDepth 100000
set_option linter.unusedVariables false
open Go.RowKit

/-- Fifteen noughts. -/
def zr16 : List Value := #[.int .i64 0, .int .i64 0, .int .u64 0, .int .i64 0, .int .u32 0, .int .i64 0, .bool false, .int .u64 0, .int .u64 0, .int .u64 0, .int .u64 0, .int .u64 0, .int .u64 0, .int .u64 0, .int .u64 0].toList
end Go.Proofs.Ytogijfebfffobaa
