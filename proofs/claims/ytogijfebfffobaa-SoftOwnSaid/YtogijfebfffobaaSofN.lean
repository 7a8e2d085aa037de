/-
  A table of layer 18 that New did not make: nil, or the zero value. Contracts: an error, nothing. No condition beside what is said.
-/
import Derived.Test.YtogijfebfffobaaSofH
namespace Go.Proofs.Ytogijfebfffobaa
set_option maxRecDepth 100000
set_option linter.unusedVariables false
open Go.RowKit

/-- A table that New did not make. -/
def Nm18 (w : World) (v : Value) : Prop := v = .pointer none ∨ ∃ q, v = .pointer (some ⟨q, 0, none⟩) ∧ Blk w q 68 [.int .i64 0, .slice none 0 0]
theorem Nm18.below {w w' : World} {v : Value} (h : Nm18 w v) (hb : Below w.heap.size w w') : Nm18 w' v := by
  rcases h with h | ⟨q, h, hq⟩
  · exact .inl h
  · exact .inr ⟨q, h, hq.below hb⟩
theorem made18_nm {w : World} {v : Value} (h : Nm18 w v) : Calls Try.prog 33 #[v] w fun e w' => e = .returned (.bool false) ∧ w' = w := by
  rcases h with rfl | ⟨q, rfl, hq⟩
  · exact made18_nil w
  · exact made18_calls q 0 w (hq.cell 0) false (by decide)
theorem get18_nm {w : World} {v : Value} (k : Ky) (h : Nm18 w v) : Calls Try.prog 9 #[v, .agg #[.int .i64 k.tail, .int .i64 k.tun, .int .i64 k.head, .int .i64 k.lsp]] w fun e w' => e = .returned (.tuple #[.agg (ssc z18).toArray, .int .i64 1]) ∧ Below w.heap.size w w' := by
  have bz := bel_new (bel_new (Below.refl w.heap.size w) (.cells #[.int .i64 k.tail, .int .i64 k.tun, .int .i64 k.head, .int .i64 k.lsp] 30)) (.cells #[.int .i64 0, .int .i64 0, .int .i64 0, .int .i64 0, .int .u64 0, .int .i64 0, .int .i64 0, .int .u32 0, .int .u32 0, .int .u32 0, .slice none 0 0, .int .i64 0, .int .i64 0, .int .i64 0, .int .i64 0, .int .i64 0, .int .i64 0] 40)
  have b2 : Blk ((w.alloc (.cells #[.int .i64 k.tail, .int .i64 k.tun, .int .i64 k.head, .int .i64 k.lsp] 30)).alloc (.cells #[.int .i64 0, .int .i64 0, .int .i64 0, .int .i64 0, .int .u64 0, .int .i64 0, .int .i64 0, .int .u32 0, .int .u32 0, .int .u32 0, .slice none 0 0, .int .i64 0, .int .i64 0, .int .i64 0, .int .i64 0, .int .i64 0, .int .i64 0] 40)) (w.alloc (.cells #[.int .i64 k.tail, .int .i64 k.tun, .int .i64 k.head, .int .i64 k.lsp] 30)).heap.size 40 (ssc z18) := Blk.new (w.alloc (.cells #[.int .i64 k.tail, .int .i64 k.tun, .int .i64 k.head, .int .i64 k.lsp] 30)) 40 (ssc z18)
  rw [show (w.alloc (.cells #[.int .i64 k.tail, .int .i64 k.tun, .int .i64 k.head, .int .i64 k.lsp] 30)).heap.size = w.heap.size + 1 by simp] at b2
  have HL := Lib.hid bz
  have HB := Lib.hid b2
  have HM := Lib.hid (made18_nm (h.below bz))
  have HIN := Lib.hid (fun s : Ss => (show (Try.prog.info? 40).map (·.size) = some (ssc s).length from infoSsC))
  have HON := Lib.hid ssc_one
  clear bz b2 h
  go_enter Try.func9, Try.ntmps9
  go_upto_region 1 with fail
  generalize ((w.alloc (.cells #[.int .i64 k.tail, .int .i64 k.tun, .int .i64 k.head, .int .i64 k.lsp] 30)).alloc (.cells #[.int .i64 0, .int .i64 0, .int .i64 0, .int .i64 0, .int .u64 0, .int .i64 0, .int .i64 0, .int .u32 0, .int .u32 0, .int .u32 0, .slice none 0 0, .int .i64 0, .int .i64 0, .int .i64 0, .int .i64 0, .int .i64 0, .int .i64 0] 40)) = w1 at *
  go_wp2_with fail
  ((with_reducible refine HM.out.mono ?_))
  rintro e w9 ⟨rfl, rfl⟩
  go_wp2_with ((with_reducible refine step_store (o := ⟨none, _, _, _, _, _⟩) (vs := ssc z18) (ty := 40) (x := .tmp 4) (y := .tmp 11) ?_ ?_ ?_ ?_ HB.out (HIN.out _) rfl (HON.out _) ?_); (rfl); (rfl); (rfl); (rfl); intro w4 hb4 hg4 hs4)
  refine bodyPost_ret (v := .tuple #[.agg (ssc z18).toArray, .int .i64 1]) (results_two8 rfl _ rfl hb4 Try.underlying40 rfl (HIN.out _) rfl) rfl ?_
  exact ⟨rfl, bel_upd HL.out hg4 (Nat.le_refl _) (by omega)⟩
theorem put18_nm {w : World} {v : Value} (s : Ss) (h : Nm18 w v) : Calls Try.prog 19 #[v, .agg (ssc s).toArray] w fun e w' => e = .returned (.int .i64 1) ∧ Below w.heap.size w w' := by
  have bz := bel_new (Below.refl w.heap.size w) (.cells (ssc s).toArray 40)
  have HL := Lib.hid bz
  have HM := Lib.hid (made18_nm (h.below bz))
  clear bz h
  go_enter Try.func19, Try.ntmps19
  go_upto_region 1 with fail
  generalize (w.alloc (.cells (ssc s).toArray 40)) = w1 at *
  go_wp2_with fail
  ((with_reducible refine HM.out.mono ?_))
  rintro e w9 ⟨rfl, rfl⟩
  go_wp2_with fail
  go_ret
  exact ⟨rfl, HL.out⟩
theorem drop18_nm {w : World} {v : Value} (k : Ky) (h : Nm18 w v) : Calls Try.prog 17 #[v, .agg #[.int .i64 k.tail, .int .i64 k.tun, .int .i64 k.head, .int .i64 k.lsp]] w fun e w' => e = .returned (.int .i64 1) ∧ Below w.heap.size w w' := by
  have bz := bel_new (Below.refl w.heap.size w) (.cells #[.int .i64 k.tail, .int .i64 k.tun, .int .i64 k.head, .int .i64 k.lsp] 30)
  have HL := Lib.hid bz
  have HM := Lib.hid (made18_nm (h.below bz))
  clear bz h
  go_enter Try.func17, Try.ntmps17
  go_upto_region 1 with fail
  generalize (w.alloc (.cells #[.int .i64 k.tail, .int .i64 k.tun, .int .i64 k.head, .int .i64 k.lsp] 30)) = w1 at *
  go_wp2_with fail
  ((with_reducible refine HM.out.mono ?_))
  rintro e w9 ⟨rfl, rfl⟩
  go_wp2_with fail
  go_ret
  exact ⟨rfl, HL.out⟩
theorem all18_nm {w : World} {v : Value} (h : Nm18 w v) : Calls Try.prog 22 #[v] w fun e w' => e = .returned (.slice none 0 0) ∧ w' = w := by
  have HM := Lib.hid (made18_nm h)
  clear h
  go_enter Try.func22, Try.ntmps22
  go_wp2_with fail
  ((with_reducible refine HM.out.mono ?_))
  rintro e w9 ⟨rfl, rfl⟩
  go_wp2_with fail
  go_ret
  exact ⟨rfl, rfl⟩
theorem len18_nm {w : World} {v : Value} (h : Nm18 w v) : Calls Try.prog 23 #[v] w fun e w' => e = .returned (.int .i64 0) ∧ w' = w := by
  have HM := Lib.hid (made18_nm h)
  clear h
  go_enter Try.func23, Try.ntmps23
  go_wp2_with fail
  ((with_reducible refine HM.out.mono ?_))
  rintro e w9 ⟨rfl, rfl⟩
  go_wp2_with fail
  go_ret
  exact ⟨rfl, rfl⟩
theorem keys18_nm {w : World} {v f : Value} (h : Nm18 w v) : Calls Try.prog 48 #[v, f] w fun e w' => e = .returned (.slice none 0 0) ∧ w' = w := by
  have HM := Lib.hid (made18_nm h)
  clear h
  go_enter Try.func48, Try.ntmps48
  go_wp2_with fail
  ((with_reducible refine HM.out.mono ?_))
  rintro e w9 ⟨rfl, rfl⟩
  go_wp2_with fail
  go_ret
  exact ⟨rfl, rfl⟩
theorem late18_nm {w : World} {v : Value} (now : Int) (h : Nm18 w v) : Calls Try.prog 25 #[v, .int .i64 now] w fun e w' => e = .returned (.slice none 0 0) ∧ Below w.heap.size w w' := by
  have bz := bel_new (Below.refl w.heap.size w) (.cells #[.int .i64 now] 3)
  have HL := Lib.hid bz
  have HK := Lib.hid (fun f => keys18_nm (f := f) (h.below bz))
  clear bz h
  go_enter Try.func25, Try.ntmps25
  go_upto_region 1 with fail
  generalize (w.alloc (.cells #[.int .i64 now] 3)) = w1 at *
  go_wp2_with fail
  ((with_reducible refine (HK.out _).mono ?_))
  rintro e w9 ⟨rfl, rfl⟩
  go_wp2_with fail
  go_ret
  exact ⟨rfl, HL.out⟩
theorem laps18_nm {w : World} {v : Value} (now : Int) (h : Nm18 w v) : Calls Try.prog 27 #[v, .int .i64 now] w fun e w' => e = .returned (.slice none 0 0) ∧ Below w.heap.size w w' := by
  have bz := bel_new (Below.refl w.heap.size w) (.cells #[.int .i64 now] 3)
  have HL := Lib.hid bz
  have HK := Lib.hid (fun f => keys18_nm (f := f) (h.below bz))
  clear bz h
  go_enter Try.func27, Try.ntmps27
  go_upto_region 1 with fail
  generalize (w.alloc (.cells #[.int .i64 now] 3)) = w1 at *
  go_wp2_with fail
  ((with_reducible refine (HK.out _).mono ?_))
  rintro e w9 ⟨rfl, rfl⟩
  go_wp2_with fail
  go_ret
  exact ⟨rfl, HL.out⟩
end Go.Proofs.Ytogijfebfffobaa
