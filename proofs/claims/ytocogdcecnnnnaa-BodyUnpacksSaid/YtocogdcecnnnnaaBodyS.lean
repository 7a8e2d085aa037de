/-
  Contract of the document's own shape for layer 7. No condition.
-/
import Derived.Test.YtocogdcecnnnnaaBodyR
namespace Go.Proofs.Ytocogdcecnnnnaa
open Go.RowKit

set_option maxRecDepth 100000 in
set_option maxHeartbeats 3200000 in
theorem shape_calls (x : It) (w : World) : Calls Try.prog 36 #[.agg x.cells.toArray] w (ConvPost w (shpI x)) := by
  obtain ⟨xcl, xa, xb, xc, xu, xla, xln, xlc, xl, xbw, xsu, xho, xan, xal, xno⟩ := x
  simp only [It.cells]
  by_cases e0 : xcl = 1
  · subst e0
    have hs : shpI ⟨1, xa, xb, xc, xu, xla, xln, xlc, xl, ⟨xbw, xsu, xho, xan, xal, xno⟩⟩ = ⟨0, 0, 0, 0, xu, xla, xln, xlc, xl, ⟨xbw, xsu, xho, xan, xal, xno⟩⟩ := by simp [shpI]
    rw [hs]
    clear hs
    go_enter Try.func36, Try.ntmps36
    go_wp2
    refine bodyPost_ret (v := .agg #[.int .i64 0, .int .i64 0, .int .i64 0, .int .i64 0, .int .u64 (xu : Int), .slice xla xln xlc, .int .u64 (xbw : Int), .int .i64 xsu, .int .i64 xho, .int .u32 (xan : Int), .int .u32 (xal : Int), .int .u32 (xno : Int)]) (by simp [results, Try.results36, go_sem]) rfl ?_
    exact ⟨rfl, bel_new (bel_new (Below.refl _ _) _) _⟩
  by_cases e1 : xcl = 6
  · subst e1
    have hs : shpI ⟨6, xa, xb, xc, xu, xla, xln, xlc, xl, ⟨xbw, xsu, xho, xan, xal, xno⟩⟩ = ⟨0, 0, 0, 0, xu, xla, xln, xlc, xl, ⟨xbw, xsu, xho, xan, xal, xno⟩⟩ := by simp [shpI]
    rw [hs]
    clear hs
    go_enter Try.func36, Try.ntmps36
    go_wp2
    refine bodyPost_ret (v := .agg #[.int .i64 0, .int .i64 0, .int .i64 0, .int .i64 0, .int .u64 (xu : Int), .slice xla xln xlc, .int .u64 (xbw : Int), .int .i64 xsu, .int .i64 xho, .int .u32 (xan : Int), .int .u32 (xal : Int), .int .u32 (xno : Int)]) (by simp [results, Try.results36, go_sem]) rfl ?_
    exact ⟨rfl, bel_new (bel_new (Below.refl _ _) _) _⟩
  by_cases e2 : xcl = 3
  · subst e2
    have hs : shpI ⟨3, xa, xb, xc, xu, xla, xln, xlc, xl, ⟨xbw, xsu, xho, xan, xal, xno⟩⟩ = ⟨0, 0, xb, xc, xu, xla, xln, xlc, xl, ⟨xbw, xsu, xho, xan, xal, xno⟩⟩ := by simp [shpI]
    rw [hs]
    clear hs
    go_enter Try.func36, Try.ntmps36
    go_wp2
    refine bodyPost_ret (v := .agg #[.int .i64 0, .int .i64 0, .int .i64 xb, .int .i64 xc, .int .u64 (xu : Int), .slice xla xln xlc, .int .u64 (xbw : Int), .int .i64 xsu, .int .i64 xho, .int .u32 (xan : Int), .int .u32 (xal : Int), .int .u32 (xno : Int)]) (by simp [results, Try.results36, go_sem]) rfl ?_
    exact ⟨rfl, bel_new (bel_new (Below.refl _ _) _) _⟩
  by_cases e3 : xcl = 16
  · subst e3
    have hs : shpI ⟨16, xa, xb, xc, xu, xla, xln, xlc, xl, ⟨xbw, xsu, xho, xan, xal, xno⟩⟩ = ⟨0, 0, xb, xc, xu, xla, xln, xlc, xl, ⟨xbw, xsu, xho, xan, xal, xno⟩⟩ := by simp [shpI]
    rw [hs]
    clear hs
    go_enter Try.func36, Try.ntmps36
    go_wp2
    refine bodyPost_ret (v := .agg #[.int .i64 0, .int .i64 0, .int .i64 xb, .int .i64 xc, .int .u64 (xu : Int), .slice xla xln xlc, .int .u64 (xbw : Int), .int .i64 xsu, .int .i64 xho, .int .u32 (xan : Int), .int .u32 (xal : Int), .int .u32 (xno : Int)]) (by simp [results, Try.results36, go_sem]) rfl ?_
    exact ⟨rfl, bel_new (bel_new (Below.refl _ _) _) _⟩
  by_cases e4 : xcl = 19
  · subst e4
    have hs : shpI ⟨19, xa, xb, xc, xu, xla, xln, xlc, xl, ⟨xbw, xsu, xho, xan, xal, xno⟩⟩ = ⟨0, 0, xb, xc, xu, xla, xln, xlc, xl, ⟨xbw, xsu, xho, xan, xal, xno⟩⟩ := by simp [shpI]
    rw [hs]
    clear hs
    go_enter Try.func36, Try.ntmps36
    go_wp2
    refine bodyPost_ret (v := .agg #[.int .i64 0, .int .i64 0, .int .i64 xb, .int .i64 xc, .int .u64 (xu : Int), .slice xla xln xlc, .int .u64 (xbw : Int), .int .i64 xsu, .int .i64 xho, .int .u32 (xan : Int), .int .u32 (xal : Int), .int .u32 (xno : Int)]) (by simp [results, Try.results36, go_sem]) rfl ?_
    exact ⟨rfl, bel_new (bel_new (Below.refl _ _) _) _⟩
  by_cases e5 : xcl = 5
  · subst e5
    have hs : shpI ⟨5, xa, xb, xc, xu, xla, xln, xlc, xl, ⟨xbw, xsu, xho, xan, xal, xno⟩⟩ = ⟨0, xa, xb, xc, 0, xla, xln, xlc, xl, ⟨xbw, xsu, xho, xan, xal, xno⟩⟩ := by simp [shpI]
    rw [hs]
    clear hs
    go_enter Try.func36, Try.ntmps36
    go_wp2
    refine bodyPost_ret (v := .agg #[.int .i64 0, .int .i64 xa, .int .i64 xb, .int .i64 xc, .int .u64 0, .slice xla xln xlc, .int .u64 (xbw : Int), .int .i64 xsu, .int .i64 xho, .int .u32 (xan : Int), .int .u32 (xal : Int), .int .u32 (xno : Int)]) (by simp [results, Try.results36, go_sem]) rfl ?_
    exact ⟨rfl, bel_new (bel_new (Below.refl _ _) _) _⟩
  by_cases e6 : xcl = 9
  · subst e6
    have hs : shpI ⟨9, xa, xb, xc, xu, xla, xln, xlc, xl, ⟨xbw, xsu, xho, xan, xal, xno⟩⟩ = ⟨0, xa, xb, xc, 0, xla, xln, xlc, xl, ⟨xbw, xsu, xho, xan, xal, xno⟩⟩ := by simp [shpI]
    rw [hs]
    clear hs
    go_enter Try.func36, Try.ntmps36
    go_wp2
    refine bodyPost_ret (v := .agg #[.int .i64 0, .int .i64 xa, .int .i64 xb, .int .i64 xc, .int .u64 0, .slice xla xln xlc, .int .u64 (xbw : Int), .int .i64 xsu, .int .i64 xho, .int .u32 (xan : Int), .int .u32 (xal : Int), .int .u32 (xno : Int)]) (by simp [results, Try.results36, go_sem]) rfl ?_
    exact ⟨rfl, bel_new (bel_new (Below.refl _ _) _) _⟩
  by_cases e7 : xcl = 12
  · subst e7
    have hs : shpI ⟨12, xa, xb, xc, xu, xla, xln, xlc, xl, ⟨xbw, xsu, xho, xan, xal, xno⟩⟩ = ⟨0, xa, xb, xc, 0, xla, xln, xlc, xl, ⟨xbw, xsu, xho, xan, xal, xno⟩⟩ := by simp [shpI]
    rw [hs]
    clear hs
    go_enter Try.func36, Try.ntmps36
    go_wp2
    refine bodyPost_ret (v := .agg #[.int .i64 0, .int .i64 xa, .int .i64 xb, .int .i64 xc, .int .u64 0, .slice xla xln xlc, .int .u64 (xbw : Int), .int .i64 xsu, .int .i64 xho, .int .u32 (xan : Int), .int .u32 (xal : Int), .int .u32 (xno : Int)]) (by simp [results, Try.results36, go_sem]) rfl ?_
    exact ⟨rfl, bel_new (bel_new (Below.refl _ _) _) _⟩
  by_cases e8 : xcl = 23
  · subst e8
    have hs : shpI ⟨23, xa, xb, xc, xu, xla, xln, xlc, xl, ⟨xbw, xsu, xho, xan, xal, xno⟩⟩ = ⟨0, xa, xb, xc, 0, xla, xln, xlc, xl, ⟨xbw, xsu, xho, xan, xal, xno⟩⟩ := by simp [shpI]
    rw [hs]
    clear hs
    go_enter Try.func36, Try.ntmps36
    go_wp2
    refine bodyPost_ret (v := .agg #[.int .i64 0, .int .i64 xa, .int .i64 xb, .int .i64 xc, .int .u64 0, .slice xla xln xlc, .int .u64 (xbw : Int), .int .i64 xsu, .int .i64 xho, .int .u32 (xan : Int), .int .u32 (xal : Int), .int .u32 (xno : Int)]) (by simp [results, Try.results36, go_sem]) rfl ?_
    exact ⟨rfl, bel_new (bel_new (Below.refl _ _) _) _⟩
  by_cases e9 : xcl = 10
  · subst e9
    have hs : shpI ⟨10, xa, xb, xc, xu, xla, xln, xlc, xl, ⟨xbw, xsu, xho, xan, xal, xno⟩⟩ = ⟨0, 0, 0, xc, xu, xla, xln, xlc, xl, ⟨xbw, xsu, xho, xan, xal, xno⟩⟩ := by simp [shpI]
    rw [hs]
    clear hs
    go_enter Try.func36, Try.ntmps36
    go_wp2
    refine bodyPost_ret (v := .agg #[.int .i64 0, .int .i64 0, .int .i64 0, .int .i64 xc, .int .u64 (xu : Int), .slice xla xln xlc, .int .u64 (xbw : Int), .int .i64 xsu, .int .i64 xho, .int .u32 (xan : Int), .int .u32 (xal : Int), .int .u32 (xno : Int)]) (by simp [results, Try.results36, go_sem]) rfl ?_
    exact ⟨rfl, bel_new (bel_new (Below.refl _ _) _) _⟩
  by_cases e10 : xcl = 11
  · subst e10
    have hs : shpI ⟨11, xa, xb, xc, xu, xla, xln, xlc, xl, ⟨xbw, xsu, xho, xan, xal, xno⟩⟩ = ⟨0, 0, 0, xc, xu, xla, xln, xlc, xl, ⟨xbw, xsu, xho, xan, xal, xno⟩⟩ := by simp [shpI]
    rw [hs]
    clear hs
    go_enter Try.func36, Try.ntmps36
    go_wp2
    refine bodyPost_ret (v := .agg #[.int .i64 0, .int .i64 0, .int .i64 0, .int .i64 xc, .int .u64 (xu : Int), .slice xla xln xlc, .int .u64 (xbw : Int), .int .i64 xsu, .int .i64 xho, .int .u32 (xan : Int), .int .u32 (xal : Int), .int .u32 (xno : Int)]) (by simp [results, Try.results36, go_sem]) rfl ?_
    exact ⟨rfl, bel_new (bel_new (Below.refl _ _) _) _⟩
  by_cases e11 : xcl = 20
  · subst e11
    have hs : shpI ⟨20, xa, xb, xc, xu, xla, xln, xlc, xl, ⟨xbw, xsu, xho, xan, xal, xno⟩⟩ = ⟨0, xa, xb, xc, xu, none, 0, 0, [], ⟨xbw, xsu, xho, xan, xal, xno⟩⟩ := by simp [shpI]
    rw [hs]
    clear hs
    go_enter Try.func36, Try.ntmps36
    go_wp2
    refine bodyPost_ret (v := .agg #[.int .i64 0, .int .i64 xa, .int .i64 xb, .int .i64 xc, .int .u64 (xu : Int), .slice none 0 0, .int .u64 (xbw : Int), .int .i64 xsu, .int .i64 xho, .int .u32 (xan : Int), .int .u32 (xal : Int), .int .u32 (xno : Int)]) (by simp [results, Try.results36, go_sem]) rfl ?_
    exact ⟨rfl, bel_new (bel_new (Below.refl _ _) _) _⟩
  by_cases e12 : xcl = 21
  · subst e12
    have hs : shpI ⟨21, xa, xb, xc, xu, xla, xln, xlc, xl, ⟨xbw, xsu, xho, xan, xal, xno⟩⟩ = ⟨0, xa, xb, xc, xu, none, 0, 0, [], ⟨xbw, xsu, xho, xan, xal, xno⟩⟩ := by simp [shpI]
    rw [hs]
    clear hs
    go_enter Try.func36, Try.ntmps36
    go_wp2
    refine bodyPost_ret (v := .agg #[.int .i64 0, .int .i64 xa, .int .i64 xb, .int .i64 xc, .int .u64 (xu : Int), .slice none 0 0, .int .u64 (xbw : Int), .int .i64 xsu, .int .i64 xho, .int .u32 (xan : Int), .int .u32 (xal : Int), .int .u32 (xno : Int)]) (by simp [results, Try.results36, go_sem]) rfl ?_
    exact ⟨rfl, bel_new (bel_new (Below.refl _ _) _) _⟩
  by_cases e13 : xcl = 207
  · subst e13
    have hs : shpI ⟨207, xa, xb, xc, xu, xla, xln, xlc, xl, ⟨xbw, xsu, xho, xan, xal, xno⟩⟩ = ⟨0, xa, xb, xc, xu, xla, xln, xlc, xl, ⟨0, 0, 0, 0, 0, 0⟩⟩ := by simp [shpI, Wnt.zero]
    rw [hs]
    clear hs
    go_enter Try.func36, Try.ntmps36
    go_wp2
    refine bodyPost_ret (v := .agg #[.int .i64 0, .int .i64 xa, .int .i64 xb, .int .i64 xc, .int .u64 (xu : Int), .slice xla xln xlc, .int .u64 0, .int .i64 0, .int .i64 0, .int .u32 0, .int .u32 0, .int .u32 0]) (by simp [results, Try.results36, go_sem]) rfl ?_
    exact ⟨rfl, bel_new (bel_new (Below.refl _ _) _) _⟩
  have hs : shpI ⟨xcl, xa, xb, xc, xu, xla, xln, xlc, xl, ⟨xbw, xsu, xho, xan, xal, xno⟩⟩ = ⟨0, xa, xb, xc, xu, xla, xln, xlc, xl, ⟨xbw, xsu, xho, xan, xal, xno⟩⟩ := by simp [shpI, e0, e1, e2, e3, e4, e5, e6, e7, e8, e9, e10, e11, e12, e13]
  rw [hs]
  clear hs
  go_enter Try.func36, Try.ntmps36
  go_wp2
  refine bodyPost_ret (v := .agg #[.int .i64 0, .int .i64 xa, .int .i64 xb, .int .i64 xc, .int .u64 (xu : Int), .slice xla xln xlc, .int .u64 (xbw : Int), .int .i64 xsu, .int .i64 xho, .int .u32 (xan : Int), .int .u32 (xal : Int), .int .u32 (xno : Int)]) (by simp [results, Try.results36, go_sem]) rfl ?_
  exact ⟨rfl, bel_new (bel_new (Below.refl _ _) _) _⟩
end Go.Proofs.Ytocogdcecnnnnaa
