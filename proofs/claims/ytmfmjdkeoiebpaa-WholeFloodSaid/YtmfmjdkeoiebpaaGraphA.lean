/-
  Contracts of package graph: within, isNode, endsOf, valid; links as plain data and as they lie in memory. No condition beside what each names.
-/
import Derived.Test.YtmfmjdkeoiebpaaStepS
import Derived.Test.YtmfmjdkeoiebpaaInts
import Derived.Test.YtmfmjdkeoiebpaaSeq
import Derived.LoopN
namespace Go.Proofs.Ytmfmjdkeoiebpaa
set_option maxRecDepth 100000
open Go.RowKit

/-- A link as plain data. -/
structure Lk where
  f : Int
  t : Int
  c : Int
  m : Int
  g : Int
  deriving DecidableEq, Inhabited
/-- .. and its cells. -/
def lkc (x : Lk) : List Value := [.int .i64 x.f, .int .i64 x.t, .int .u64 x.c, .int .i64 x.m, .int .u32 x.g]
theorem lkc_length (x : Lk) : (lkc x).length = 5 := rfl
theorem lkc_one (x : Lk) : ∀ u ∈ lkc x, u.oneCell' = true := by
  intro u hu
  simp [lkc] at hu
  rcases hu with rfl | rfl | rfl | rfl | rfl <;> rfl
theorem infoLink : (Try.prog.info? 37).map (·.size) = some 5 := by kernel_rfl
/-- A link in a row. -/
theorem row_link {w : World} {B n : Nat} {a : Option Addr} {L : List Lk} (h : Row lkc w B a n L) (hn : 0 < n) : ∃ b o : Nat, a = some ⟨b, o, none⟩ ∧ b < B ∧ ∀ (i : Nat) (hi : i < L.length), w.rangeAt b (o + i * 5) (lkc L[i]) := by
  obtain ⟨b, o, e, hb, hc⟩ := h.cells lkc_length hn
  refine ⟨b, o, e, hb, fun i hi j v hv => ?_⟩
  have hj : j < 5 := by
    rcases Nat.lt_or_ge j 5 with h | h
    · exact h
    · rw [List.getElem?_eq_none (by rw [lkc_length]; exact h)] at hv; cases hv
  rw [hc i hi j hj]; exact hv
theorem link_cells {w : World} {b k : Nat} {x : Lk} (h : w.rangeAt b k (lkc x)) : w.cell? ⟨b, k, none⟩ = some (.int .i64 x.f) ∧ w.cell? ⟨b, k + 1, none⟩ = some (.int .i64 x.t) ∧ w.cell? ⟨b, k + 2, none⟩ = some (.int .u64 x.c) ∧ w.cell? ⟨b, k + 3, none⟩ = some (.int .i64 x.m) ∧ w.cell? ⟨b, k + 4, none⟩ = some (.int .u32 x.g) :=
  ⟨h 0 _ rfl, h 1 _ rfl, h 2 _ rfl, h 3 _ rfl, h 4 _ rfl⟩

def gwn (x lo hi : Int) : Bool := decide (lo ≤ x) && decide (x ≤ hi)
theorem gwithin_calls (x lo hi : Int) (w : World) : Calls Try.prog 46 #[.int .i64 x, .int .i64 lo, .int .i64 hi] w fun e w' => e = .returned (.bool (gwn x lo hi)) ∧ w' = w := by
  go_enter Try.func46, Try.ntmps46
  by_cases h1 : lo ≤ x
  · by_cases h2 : x ≤ hi
    · go_wp2_with fail
      go_ret
      exact ⟨by simp [gwn, h1, h2], rfl⟩
    · go_wp2_with fail
      go_ret
      exact ⟨by simp [gwn, h1, h2], rfl⟩
  · go_wp2_with fail
    go_ret
    exact ⟨by simp [gwn]; omega, rfl⟩
theorem isnode_calls (n x : Int) (h1 : -9223372036854775808 < n) (h2 : n ≤ 9223372036854775807) (w : World) : Calls Try.prog 60 #[.int .i64 n, .int .i64 x] w fun e w' => e = .returned (.bool (gwn x 0 (n - 1))) ∧ w' = w := by
  have hc := gwithin_calls x 0 (n - 1) w
  have e1 : -9223372036854775808 ≤ n - 1 ∧ n - 1 ≤ 9223372036854775807 := by omega
  go_enter Try.func60, Try.ntmps60
  go_wp2_with fail
  ((with_reducible refine hc.mono ?_))
  rintro e w' ⟨rfl, rfl⟩
  go_wp2
  go_ret
  exact ⟨rfl, rfl⟩
/-- The link's ends as a value. -/
def ev (x : Lk) : Value := .agg #[.int .i64 x.f, .int .i64 x.t]
theorem endsof_calls (x : Lk) (w : World) : Calls Try.prog 49 #[.agg (lkc x).toArray] w fun e w' => e = .returned (ev x) ∧ Below w.heap.size w w' := by
  have b0 := Lib.hid (bel_new (bel_new (Below.refl w.heap.size w) (.cells (lkc x).toArray 37)) (.cells #[.int .i64 x.f, .int .i64 x.t] 94))
  unfold lkc at *
  go_enter Try.func49, Try.ntmps49
  go_wp2_with fail
  have hb : Blk ((w.alloc (.cells #[.int .i64 x.f, .int .i64 x.t, .int .u64 x.c, .int .i64 x.m, .int .u32 x.g] 37)).alloc (.cells #[.int .i64 x.f, .int .i64 x.t] 94)) (w.heap.size + 1) 94 [.int .i64 x.f, .int .i64 x.t] := by
    have := Blk.new (w.alloc (.cells #[.int .i64 x.f, .int .i64 x.t, .int .u64 x.c, .int .i64 x.m, .int .u32 x.g] 37)) 94 [.int .i64 x.f, .int .i64 x.t]
    simpa using this
  refine bodyPost_ret (results_one8 rfl _ rfl hb Try.underlying94 rfl rfl) rfl ?_
  exact ⟨rfl, b0.out⟩

/-- May a link be, whatever the others are? -/
def vld (n : Int) (x : Lk) : Bool := gwn x.f 0 (n - 1) && gwn x.t 0 (n - 1) && !(x.f == x.t) && gwn x.m 1 65535
set_option maxHeartbeats 1600000 in
theorem valid_calls (n : Int) (x : Lk) (h1 : -9223372036854775808 < n) (h2 : n ≤ 9223372036854775807) (w : World) : Calls Try.prog 48 #[.int .i64 n, .agg (lkc x).toArray] w fun e w' => e = .returned (.bool (vld n x)) ∧ Below w.heap.size w w' := by
  have b0 := Lib.hid (bel_new (Below.refl w.heap.size w) (.cells (lkc x).toArray 37))
  have c1 := fun w => isnode_calls n x.f h1 h2 w
  have c2 := fun w => isnode_calls n x.t h1 h2 w
  have c3 := fun w => gwithin_calls x.m 1 65535 w
  unfold lkc at *
  go_enter Try.func48, Try.ntmps48
  go_wp2_with fail
  ((with_reducible refine (c1 _).mono ?_))
  rintro e w' ⟨rfl, rfl⟩
  cases q1 : gwn x.f 0 (n - 1) with
  | false =>
    go_wp2_with fail
    go_ret
    exact ⟨by simp [vld, q1], b0.out⟩
  | true =>
    go_wp2_with fail
    ((with_reducible refine (c2 _).mono ?_))
    rintro e w' ⟨rfl, rfl⟩
    cases q2 : gwn x.t 0 (n - 1) with
    | false =>
      go_wp2_with fail
      go_ret
      exact ⟨by simp [vld, q1, q2], b0.out⟩
    | true =>
      by_cases q3 : x.f = x.t
      · have q4 : (x.f != x.t) = false := by simp [q3]
        have Q3 := Lib.hid q3
        clear q3
        go_wp2_with fail
        go_ret
        exact ⟨by simp [vld, Q3.out], b0.out⟩
      · have q4 : (x.f != x.t) = true := by simp [q3]
        go_wp2_with fail
        ((with_reducible refine (c3 _).mono ?_))
        rintro e w' ⟨rfl, rfl⟩
        go_wp2_with fail
        go_ret
        exact ⟨by simp [vld, q1, q2, q3], b0.out⟩
end Go.Proofs.Ytmfmjdkeoiebpaa
