/-
  The answers that the document fixes for layer 5 ('alive') come out. No condition.
-/
import Derived.Test.YtkbbnfinmipenaaLfibB
import Derived.Test.YtkbbnfinmipenaaLfibF
namespace Go.Proofs.Ytkbbnfinmipenaa
open Go.RowKit Go.Maps

/-- A packet that Step told, as the answer says. -/
theorem StepPost.ok {w w' : World} {r : Except Int (Int × List (Int × Int × Int) × Int)} {tun : Int} {pay : ByteArray} {e : Ending} (h : StepPost w r tun pay e w') {nx ttl : Int} {es : List (Int × Int × Int)} (hr : r = .ok (nx, es, ttl)) :
    ∃ A c, e = .returned (.tuple #[.int .i64 nx, .agg #[.slice A es.length c, .int .i64 tun, .int .i64 ttl, .string pay], .int .i64 0]) ∧ AccE w' w.heap.size A c es ∧ Below w.heap.size w w' := by
  obtain ⟨hb, ⟨er, h1, _⟩ | ⟨nx', es', ttl', A, c, h1, he, ha⟩⟩ := h
  · rw [h1] at hr; cases hr
  · rw [h1] at hr
    injection hr with hr
    injection hr with h2 h3
    injection h3 with h3 h4
    subst h2; subst h3; subst h4
    exact ⟨A, c, he, ha, hb⟩
theorem StepPost.err {w w' : World} {r : Except Int (Int × List (Int × Int × Int) × Int)} {tun : Int} {pay : ByteArray} {e : Ending} (h : StepPost w r tun pay e w') {er : Int} (hr : r = .error er) :
    e = .returned (.tuple #[.int .i64 0, .agg #[.slice none 0 0, .int .i64 0, .int .i64 0, .string ⟨#[]⟩], .int .i64 er]) ∧ Below w.heap.size w w' := by
  obtain ⟨hb, ⟨er', h1, he⟩ | ⟨nx', es', ttl', A, c, h1, _⟩⟩ := h
  · rw [h1] at hr
    injection hr with hr
    subst hr
    exact ⟨he, hb⟩
  · rw [h1] at hr; cases hr

set_option maxRecDepth 100000 in
set_option maxHeartbeats 1600000 in
theorem alive5_calls (w : World) : Calls Try.prog 8 #[] w fun e w' => e = .returned (.bool true) ∧ Below w.heap.size w w' := by
  go_enter Try.func8, Try.ntmps8
  go_wp2_with fail
  ((with_reducible refine (lnew_yes 4 w (by omega) (by omega)).mono ?_))
  rintro e w1 ⟨tb, lb, ub, rfl, h1, hB, b1⟩
  have B1 := Lib.hid b1
  have H1 := Lib.hid h1
  have HB := Lib.hid hB
  clear h1 b1 hB
  go_wp2_with fail
  ((with_reducible refine (map_calls H1.out 7 2 16 (by decide)).mono ?_))
  rintro e w2 ⟨rfl, h2, t2⟩
  have e1 : actE (wn 7 1 65535 && okO 2 16) 4 [] 7 = 0 := by decide +kernel
  have e2 : actL (wn 7 1 65535 && okO 2 16) 4 [] (7, 2, 16) = [(7, 2, 16)] := by decide +kernel
  rw [e1]
  rw [e2] at h2
  have B2 := Lib.hid (Turn.bel B1.out (Nat.le_refl _) t2 (by have := HB.out; simp; omega))
  have H2 := Lib.hid h2
  clear h2 t2 e1 e2
  go_wp2_with fail
  ((with_reducible refine (bind_calls H2.out 16 3 3 (by decide)).mono ?_))
  rintro e w3 ⟨rfl, h3, t3⟩
  have e1 : actE (wn 16 16 1048575 && okO 3 3) 4 [] 16 = 0 := by decide +kernel
  have e2 : actL (wn 16 16 1048575 && okO 3 3) 4 [] (16, 3, 3) = [(16, 3, 3)] := by decide +kernel
  rw [e1]
  rw [e2] at h3
  have B3 := Lib.hid (Turn.bel B2.out (Nat.le_refl _) t3 (by have := HB.out; simp; omega))
  have H3 := Lib.hid h3
  clear h3 t3 e1 e2
  have HS := Lib.hid (step_calls H3.out none 0 0 [] 7 9 ⟨#[120]⟩ Row.nil (by omega) (by omega) (by decide))
  go_wp2_with fail
  ((with_reducible refine HS.out.mono ?_))
  rintro e w4 h4
  obtain ⟨A4, c4, rfl, a4, b4⟩ := h4.ok (nx := 2) (es := [(16, 0, 8)]) (ttl := 8) rfl
  have B4 := Lib.hid (bel_new (bel_more B3.out (Nat.le_refl _) b4) (.cells #[.slice A4 1 c4, .int .i64 7, .int .i64 8, .string ⟨#[120]⟩] 33))
  have k4 := bel_new b4 (.cells #[.slice A4 1 c4, .int .i64 7, .int .i64 8, .string ⟨#[120]⟩] 33)
  have H4 := Lib.hid (H3.out.below k4)
  have P4 := Lib.hid (Blk.new w4 33 [.slice A4 1 c4, .int .i64 7, .int .i64 8, .string ⟨#[120]⟩])
  have kk := bel_new (Below.refl w4.heap.size w4) (.cells #[.slice A4 1 c4, .int .i64 7, .int .i64 8, .string ⟨#[120]⟩] 33)
  have R4 := Lib.hid (show Row ec (w4.alloc (.cells #[.slice A4 1 c4, .int .i64 7, .int .i64 8, .string ⟨#[120]⟩] 33)) (w4.alloc (.cells #[.slice A4 1 c4, .int .i64 7, .int .i64 8, .string ⟨#[120]⟩] 33)).heap.size A4 1 [(16, 0, 8)] from ((AccR.row a4).below kk).more kk.size)
  have hc4 := (AccR.cap a4).1
  clear a4 b4 k4 kk h4
  go_wp2_with fail
  generalize (w4.alloc (.cells #[.slice A4 1 c4, .int .i64 7, .int .i64 8, .string ⟨#[120]⟩] 33)) = w5 at *
  have HS2 := Lib.hid (step_calls H4.out A4 1 c4 [(16, 0, 8)] 7 8 ⟨#[120]⟩ R4.out (by omega) hc4 (by decide))
  ((with_reducible refine HS2.out.mono ?_))
  rintro e w6 h6
  obtain ⟨A6, c6, rfl, a6, b6⟩ := h6.ok (nx := 3) (es := []) (ttl := 7) rfl
  have k7 := bel_new b6 (.cells #[.slice A6 0 c6, .int .i64 7, .int .i64 7, .string ⟨#[120]⟩] 33)
  have B7 := Lib.hid (bel_more B4.out (Nat.le_refl _) k7)
  have Q7 := Lib.hid (Blk.new w6 33 [.slice A6 0 c6, .int .i64 7, .int .i64 7, .string ⟨#[120]⟩])
  have P7 := Lib.hid (P4.out.below k7)
  obtain ⟨bb, oo, rfl, hbb, hat⟩ := row_at3 (R4.out.below k7) (by omega)
  obtain ⟨e0, e1, e2⟩ := hat 0 (by simp)
  simp only [List.getElem_cons_zero, Nat.zero_mul, Nat.add_zero] at e2
  have E2 := Lib.hid e2
  clear hat e0 e1 e2 h6 b6 k7 HS HS2 H1 H2 H3 H4 a6 P4
  go_upto_region 6 with fail
  generalize (w6.alloc (.cells #[.slice A6 0 c6, .int .i64 7, .int .i64 7, .string ⟨#[120]⟩] 33)) = w7 at *
  have p0 : w7.cell? ⟨w4.heap.size, 0, none⟩ = some (.slice (some ⟨bb, oo, none⟩) 1 c4) := P7.out.cell 0
  have q0 : w7.cell? ⟨w6.heap.size, 0, none⟩ = some (.slice A6 0 c6) := Q7.out.cell 0
  have q2 : w7.cell? ⟨w6.heap.size, 2, none⟩ = some (.int .i64 7) := Q7.out.cell 2
  have q3 : w7.cell? ⟨w6.heap.size, 3, none⟩ = some (.string ⟨#[120]⟩) := Q7.out.cell 3
  have e2 := E2.out
  go_wp2
  go_ret
  exact ⟨rfl, B7.out⟩
end Go.Proofs.Ytkbbnfinmipenaa
