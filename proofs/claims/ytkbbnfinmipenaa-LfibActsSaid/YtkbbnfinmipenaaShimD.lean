/-
  Contracts of the document's own answers for layer 3: May, Same (of like stacks), Encode. Conditions: the entries that come in read as a list; Same: of at most 2^40.
-/
import Derived.Test.YtkbbnfinmipenaaShimC
import Derived.Test.YtkbbnfinmipenaaSeq
namespace Go.Proofs.Ytkbbnfinmipenaa
open Go.RowKit

theorem refmay_calls (x y z : Int) (w : World) :
    Calls Try.prog 52 #[.agg #[.int .i64 x, .int .i64 y, .int .i64 z]] w fun e w' => e = .returned (.bool (may x y z)) ∧ w' = w.alloc (.cells #[.int .i64 x, .int .i64 y, .int .i64 z] 61) := by
  by_cases h1 : 0 ≤ x
  · by_cases h2 : x ≤ 1048575
    · by_cases h3 : 0 ≤ y
      · by_cases h4 : y ≤ 7
        · by_cases h5 : 0 ≤ z
          · have hm : may x y z = decide (z ≤ 255) := by simp [may, wi, h1, h2, h3, h4, h5]
            go_enter Try.func52, Try.ntmps52
            go_wp2
            go_ret
            exact ⟨by first | rfl | (rw [hm]; rfl), rfl⟩
          · have hm : may x y z = false := by simp [may, wi, h5]
            go_enter Try.func52, Try.ntmps52
            go_wp2
            go_ret
            exact ⟨by first | rfl | (rw [hm]; rfl), rfl⟩
        · have hm : may x y z = false := by simp [may, wi, h4]
          go_enter Try.func52, Try.ntmps52
          go_wp2
          go_ret
          exact ⟨by first | rfl | (rw [hm]; rfl), rfl⟩
      · have hm : may x y z = false := by simp [may, wi, h3]
        go_enter Try.func52, Try.ntmps52
        go_wp2
        go_ret
        exact ⟨by first | rfl | (rw [hm]; rfl), rfl⟩
    · have hm : may x y z = false := by simp [may, wi, h2]
      go_enter Try.func52, Try.ntmps52
      go_wp2
      go_ret
      exact ⟨by first | rfl | (rw [hm]; rfl), rfl⟩
  · have hm : may x y z = false := by simp [may, wi, h1]
    go_enter Try.func52, Try.ntmps52
    go_wp2
    go_ret
    exact ⟨by first | rfl | (rw [hm]; rfl), rfl⟩

theorem same_calls (a a2 : Option Addr) (n c c2 : Nat) (l : List (Int × Int × Int)) (B B2 : Nat) (w : World) (h : Row ec w B a n l) (h2 : Row ec w B2 a2 n l) (hn : n ≤ 1099511627776) :
    Calls Try.prog 46 #[.slice a n c, .slice a2 n c2] w fun e w' => e = .returned (.bool true) ∧ ∃ m, w' = w.drewN m := by
  have HL := Lib.hid h.1
  have H1 := Lib.hid h
  have H2 := Lib.hid h2
  clear h h2
  go_enter Try.func46, Try.ntmps46
  go_wp2
  go_loopw [5] (fun t W => ∃ j m : Nat, j ≤ n ∧ t = .int .i64 (j : Int) ∧ W = w.drewN m) (fun t _ => n - (intOf t).toNat)
  case atStart => exact ⟨0, 0, Nat.zero_le _, rfl, rfl⟩
  case round =>
    obtain ⟨j, m, hj, rfl, rfl⟩ := hrel
    by_cases hlt : j < n
    · have hjl : j < l.length := by rw [HL.out]; exact hlt
      obtain ⟨b, o, rfl, _, hc⟩ := row_at3 H1.out (by omega)
      obtain ⟨b2, o2, rfl, _, hc2⟩ := row_at3 H2.out (by omega)
      have C1 := Lib.hid (hc j hjl)
      have C2 := Lib.hid (hc2 j hjl)
      clear hc hc2
      generalize l[j].1 = x at *
      generalize l[j].2.1 = y at *
      generalize l[j].2.2 = z at *
      go_wp2_with fail
      refine region_seq (fun W => At3 W b (o + j * 3) x y z ∧ At3 W b2 (o2 + j * 3) x y z) [(0, true), (1, true), (2, true), (3, true), (4, true), (5, true), (6, true), (7, true), (8, true)]
        (by kernel_rfl) (by kernel_rfl) (by kernel_rfl) (by kernel_rfl) (fun _ _ _ _ _ h => h) ⟨C1.out, C2.out⟩ ?_
      repeat
        refine seq_pure (v := ?_) rfl (by rfl) (fun W hW => ?_) ?_
        rotate_left
        · obtain ⟨⟨c0, c1, c2⟩, d0, d1, d2⟩ := hW
          go_simp
          try with_reducible rfl
        simp only [Act.put, List.setIfInBounds_toArray, List.set_cons_zero, List.set_cons_succ]
      refine seq_done ?_
      go_wp2
      exact ⟨⟨j + 1, m + 1, by omega, by go_num, rfl⟩, by simp [intOf]; omega⟩
    · have hjn : j = n := by omega
      subst hjn
      go_wp2
      go_ret
      exact ⟨rfl, m, rfl⟩
end Go.Proofs.Ytkbbnfinmipenaa
