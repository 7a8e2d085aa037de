/-
  Lists that are appended to nothing, and to what was gathered. Condition: at most 2^30 elements each.
-/
import Derived.Test.YtmffmoflelnmoaaPruU
import Derived.Test.YtmffmoflelnmoaaPruOpen
namespace Go.Proofs.Ytmffmoflelnmoaa
set_option maxRecDepth 100000
set_option linter.unusedVariables false
open Go.RowKit

section
variable {α : Type} {en : α → List Value} {k : Nat} {v u : World} {T S ty : TypeId} {z : Value} {bytes : Nat}
theorem grow16 (hk : ∀ x, (en x).length = k) (h1 : ∀ x, ∀ u ∈ en x, u.oneCell' = true) (hk0 : 0 < k) (ht : Try.prog.underlying S = some (.slice T)) (hinfo : (Try.prog.info? T).map (fun i => (i.zero, i.size, i.bytes)) = some (some z, k, bytes)) (hzs : z.cells.size = k) (hby : bytes ≤ 64)
    (hu : Below v.heap.size v u) {a : Option Addr} {n c : Nat} {l : List α} (hl : Row en v v.heap.size a n l) (hn : n ≤ 1073741824) :
    ∃ A1 c1 w1, (Builtin.append_ #[S, S] ty #[.slice none 0 0, .slice a n c]).run Try.prog u = .ok (.slice A1 n c1) w1 ∧ AccR en k w1 v.heap.size T A1 c1 l ∧ Below v.heap.size v w1 ∧ Below u.heap.size u w1 := by
  have h0 : AccR en k u v.heap.size T none 0 ([] : List α) := AccR.nil _ _ _
  obtain ⟨A1, c1, w1, r1, a1, g1, _⟩ := accr_append (P := Try.prog) hk h1 hk0 h0 (cc := c) (hl.below hu) (ty := ty) ht hinfo hzs hu.size (by
    simp only [List.length_nil, Nat.zero_add]
    calc n * bytes ≤ 1073741824 * 64 := Nat.mul_le_mul hn hby
      _ ≤ 140737488355328 := by decide) (by simp; omega)
  rw [List.nil_append] at a1
  have r2 : (Builtin.append_ #[S, S] ty #[.slice none 0 0, .slice a n c]).run Try.prog u = .ok (.slice A1 n c1) w1 := by
    have e : ([] : List α).length + n = n := by simp
    rw [e] at r1
    exact r1
  refine ⟨A1, c1, w1, r2, a1, belr_acc hu h0 g1, ⟨g1.os, g1.tape, g1.output, g1.size, fun i hi => g1.block i hi (by intro e; cases e)⟩⟩
theorem more16 (hk : ∀ x, (en x).length = k) (h1 : ∀ x, ∀ u ∈ en x, u.oneCell' = true) (hk0 : 0 < k) (ht : Try.prog.underlying S = some (.slice T)) (hinfo : (Try.prog.info? T).map (fun i => (i.zero, i.size, i.bytes)) = some (some z, k, bytes)) (hzs : z.cells.size = k) (hby : bytes ≤ 64)
    (hu : Below v.heap.size v u) {A : Option Addr} {c n : Nat} {l : List α} (ha : AccR en k u v.heap.size T A c l) (hnl : l.length = n) {b : Option Addr} {B m d : Nat} {l2 : List α} (hm : Row en u B b m l2) (hn : n + m ≤ 1099511627776) :
    ∃ A2 c2 w2, (Builtin.append_ #[S, S] ty #[.slice A n c, .slice b m d]).run Try.prog u = .ok (.slice A2 (n + m) c2) w2 ∧ AccR en k w2 v.heap.size T A2 c2 (l ++ l2) ∧ Below v.heap.size v w2 := by
  subst hnl
  obtain ⟨A2, c2, w2, r2, a2, g2, _⟩ := accr_append (P := Try.prog) hk h1 hk0 ha (cc := d) hm (ty := ty) ht hinfo hzs hu.size (by
    calc (l.length + m) * bytes ≤ 1099511627776 * 64 := Nat.mul_le_mul hn hby
      _ ≤ 140737488355328 := by decide) (by omega)
  exact ⟨A2, c2, w2, r2, a2, belr_acc hu ha g2⟩
end
theorem infoPrA16 : (Try.prog.info? 56).map (fun i => (i.zero, i.size, i.bytes)) = some (some (.agg #[.int .i64 0, .int .i64 0]), 2, 16) := by kernel_rfl
end Go.Proofs.Ytmffmoflelnmoaa
