/-
  Contracts of package lfib for a table that no call made: each method answers an error, or nothing. Condition: the table is nil, or its first map is.
-/
import Derived.Test.YtkbbnfinmipenaaLfibA
import Derived.Test.YtkbbnfinmipenaaBlk
namespace Go.Proofs.Ytkbbnfinmipenaa
open Go.RowKit Go.Maps

/-- A table that no call made. -/
def Nob (w : World) (v : Value) : Prop := v = .pointer none ∨ ∃ tb, v = .pointer (some ⟨tb, 0, none⟩) ∧ tb < w.heap.size ∧ w.cell? ⟨tb, 1, none⟩ = some (.map none)
theorem Nob.below {w w' : World} {v : Value} (h : Nob w v) (hb : Below w.heap.size w w') : Nob w' v := by
  rcases h with h | ⟨tb, h1, h2, h3⟩
  · exact .inl h
  · exact .inr ⟨tb, h1, Nat.lt_of_lt_of_le h2 hb.size, (hb.cell (p := ⟨tb, 1, none⟩) h2).trans h3⟩
theorem nob_made {w : World} {v : Value} (h : Nob w v) : Calls Try.prog 31 #[v] w fun e w' => e = .returned (.bool false) ∧ w = w' := by
  rcases h with rfl | ⟨tb, rfl, _, h3⟩
  · exact lmade_nil w
  · exact lmade_zero h3

section
variable {w : World} {v : Value}
theorem nob_bind (h : Nob w v) (k a b : Int) : Calls Try.prog 10 #[v, .int .i64 k, .agg #[.int .i64 a, .int .i64 b]] w fun e w' => e = .returned (.int .i64 1) ∧ Below w.heap.size w w' := by
  have K0 := Lib.hid (bel_new (Below.refl w.heap.size w) (.cells #[.int .i64 a, .int .i64 b] 30))
  have H := Lib.hid (h.below K0.out)
  clear h
  go_enter Try.func10, Try.ntmps10
  go_wp2_with fail
  ((with_reducible refine (nob_made H.out).mono ?_))
  rintro e w1 ⟨rfl, rfl⟩
  go_wp2
  go_ret
  exact ⟨rfl, K0.out⟩
theorem nob_map (h : Nob w v) (k a b : Int) : Calls Try.prog 14 #[v, .int .i64 k, .agg #[.int .i64 a, .int .i64 b]] w fun e w' => e = .returned (.int .i64 1) ∧ Below w.heap.size w w' := by
  have K0 := Lib.hid (bel_new (Below.refl w.heap.size w) (.cells #[.int .i64 a, .int .i64 b] 30))
  have H := Lib.hid (h.below K0.out)
  clear h
  go_enter Try.func14, Try.ntmps14
  go_wp2_with fail
  ((with_reducible refine (nob_made H.out).mono ?_))
  rintro e w1 ⟨rfl, rfl⟩
  go_wp2
  go_ret
  exact ⟨rfl, K0.out⟩
theorem nob_free (h : Nob w v) (k : Int) : Calls Try.prog 12 #[v, .int .i64 k] w fun e w' => e = .returned (.int .i64 1) ∧ Below w.heap.size w w' := by
  have H := Lib.hid h
  clear h
  go_enter Try.func12, Try.ntmps12
  go_wp2_with fail
  ((with_reducible refine (nob_made H.out).mono ?_))
  rintro e w1 ⟨rfl, rfl⟩
  go_wp2
  go_ret
  exact ⟨rfl, Below.refl _ _⟩
theorem nob_unmap (h : Nob w v) (k : Int) : Calls Try.prog 16 #[v, .int .i64 k] w fun e w' => e = .returned (.int .i64 1) ∧ Below w.heap.size w w' := by
  have H := Lib.hid h
  clear h
  go_enter Try.func16, Try.ntmps16
  go_wp2_with fail
  ((with_reducible refine (nob_made H.out).mono ?_))
  rintro e w1 ⟨rfl, rfl⟩
  go_wp2
  go_ret
  exact ⟨rfl, Below.refl _ _⟩
theorem nob_labels (h : Nob w v) : Calls Try.prog 23 #[v] w fun e w' => e = .returned (.slice none 0 0) ∧ Below w.heap.size w w' := by
  have H := Lib.hid h
  clear h
  go_enter Try.func23, Try.ntmps23
  go_wp2_with fail
  ((with_reducible refine (nob_made H.out).mono ?_))
  rintro e w1 ⟨rfl, rfl⟩
  go_wp2
  go_ret
  exact ⟨rfl, Below.refl _ _⟩
theorem nob_tunnels (h : Nob w v) : Calls Try.prog 24 #[v] w fun e w' => e = .returned (.slice none 0 0) ∧ Below w.heap.size w w' := by
  have H := Lib.hid h
  clear h
  go_enter Try.func24, Try.ntmps24
  go_wp2_with fail
  ((with_reducible refine (nob_made H.out).mono ?_))
  rintro e w1 ⟨rfl, rfl⟩
  go_wp2
  go_ret
  exact ⟨rfl, Below.refl _ _⟩
set_option maxRecDepth 100000 in
theorem nob_step (h : Nob w v) (a : Option Addr) (n c : Nat) (tun ttl : Int) (pay : ByteArray) : Calls Try.prog 19 #[v, .agg #[.slice a n c, .int .i64 tun, .int .i64 ttl, .string pay]] w fun e w' => e = .returned (.tuple #[.int .i64 0, .agg #[.slice none 0 0, .int .i64 0, .int .i64 0, .string ⟨#[]⟩], .int .i64 1]) ∧ Below w.heap.size w w' := by
  have K0 := Lib.hid (bel_new (bel_new (Below.refl w.heap.size w) (.cells #[.slice a n c, .int .i64 tun, .int .i64 ttl, .string pay] 33)) (.cells #[.slice none 0 0, .int .i64 0, .int .i64 0, .string ⟨#[]⟩] 33))
  have H := Lib.hid (h.below K0.out)
  have R0 := Lib.hid (show Blk ((w.alloc (.cells #[.slice a n c, .int .i64 tun, .int .i64 ttl, .string pay] 33)).alloc (.cells #[.slice none 0 0, .int .i64 0, .int .i64 0, .string ⟨#[]⟩] 33)) (w.heap.size + 1) 33 [.slice none 0 0, .int .i64 0, .int .i64 0, .string ⟨#[]⟩] by
    have := Blk.new (w.alloc (.cells #[.slice a n c, .int .i64 tun, .int .i64 ttl, .string pay] 33)) 33 [.slice none 0 0, .int .i64 0, .int .i64 0, .string ⟨#[]⟩]
    rwa [World.size_alloc] at this)
  clear h
  go_enter Try.func19, Try.ntmps19
  go_wp2_with fail
  generalize ((w.alloc (.cells #[.slice a n c, .int .i64 tun, .int .i64 ttl, .string pay] 33)).alloc (.cells #[.slice none 0 0, .int .i64 0, .int .i64 0, .string ⟨#[]⟩] 33)) = w1 at *
  ((with_reducible refine (nob_made H.out).mono ?_))
  rintro e w2 ⟨rfl, rfl⟩
  have r0 : w1.cell? ⟨w.heap.size + 1, 0, none⟩ = some (.slice none 0 0) := R0.out.cell 0
  have r1 : w1.cell? ⟨w.heap.size + 1, 1, none⟩ = some (.int .i64 0) := R0.out.cell 1
  have r2 : w1.cell? ⟨w.heap.size + 1, 2, none⟩ = some (.int .i64 0) := R0.out.cell 2
  have r3 : w1.cell? ⟨w.heap.size + 1, 3, none⟩ = some (.string ⟨#[]⟩) := R0.out.cell 3
  have f0 := R0.out.free 0
  have f1 := R0.out.free 1
  have f2 := R0.out.free 2
  have f3 := R0.out.free 3
  go_wp2
  have hq := R0.out.set4 (.slice none 0 0) (.int .i64 0) (.int .i64 0) (.string ⟨#[]⟩)
  have y0 := hq.cell 0
  have y1 := hq.cell 1
  have y2 := hq.cell 2
  have y3 := hq.cell 3
  simp only [List.getElem?_cons_zero, List.getElem?_cons_succ] at y0 y1 y2 y3
  refine bodyPost_ret (v := .tuple #[.int .i64 0, .agg #[.slice none 0 0, .int .i64 0, .int .i64 0, .string ⟨#[]⟩], .int .i64 1]) (by simp [results, Try.results19, go_sem, y0, y1, y2, y3]) rfl ?_
  exact ⟨rfl, bel_set4 K0.out (by omega) _ _ _ _⟩
end
end Go.Proofs.Ytkbbnfinmipenaa
