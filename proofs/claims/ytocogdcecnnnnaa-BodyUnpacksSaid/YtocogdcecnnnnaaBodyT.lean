/-
  Contract of the document's own May for layer 7. Condition: the item's list reads as numbers.
-/
import Derived.Test.YtocogdcecnnnnaaBodyS
namespace Go.Proofs.Ytocogdcecnnnnaa
open Go.RowKit

/-- What a class asks of its fields. -/
def condB (x : PIt) : Bool :=
  if x.cl = 1 then ndB x.a && (smB x.b && ndB x.c)
  else if x.cl = 3 then ndB x.a
  else if x.cl = 5 ∨ x.cl = 23 then decide (x.u < 4294967296)
  else if x.cl = 6 then ndB x.a && (decide (0 ≤ x.b) && (decide (x.b ≤ 255) && smB x.c))
  else if x.cl = 8 ∨ x.cl = 9 ∨ x.cl = 12 then true
  else if x.cl = 10 ∨ x.cl = 11 then ndB x.a && smB x.b
  else if x.cl = 16 then decide (0 ≤ x.a) && decide (x.a ≤ 1048575)
  else if x.cl = 19 then smB x.a
  else if x.cl = 20 ∨ x.cl = 21 then ndsB x.l
  else if x.cl = 207 then decide (x.w.bw = 0) && (decide (0 ≤ x.w.setup) && (decide (x.w.setup ≤ 7) && (decide (0 ≤ x.w.hold) && decide (x.w.hold ≤ 7))))
  else false
def mayB (x : PIt) : Bool := (shpP x).same (.blank 0) && condB x

set_option maxRecDepth 100000 in
set_option maxHeartbeats 6400000 in
theorem may_calls (x : It) (w : World) (h : Fine w w.heap.size x) :
    Calls Try.prog 22 #[.agg x.cells.toArray] w (SamePost w (mayB x.val)) := by
  have hsh := shape_calls x
  have HX := Lib.hid h
  have hr0 := shp_row x h.row h.len
  have hsm : ∀ W, Below w.heap.size w W → Calls Try.prog 17 #[.agg (shpI x).cells.toArray, .agg #[.int .i64 0, .int .i64 0, .int .i64 0, .int .i64 0, .int .u64 0, .slice none 0 0, .int .u64 0, .int .i64 0, .int .i64 0, .int .u32 0, .int .u32 0, .int .u32 0]] W (SamePost W ((shpI x).val.same (.blank 0))) := fun W hb =>
    rsame7_calls (shpI x) ⟨0, 0, 0, 0, 0, none, 0, 0, [], Wnt.zero⟩ w.heap.size 0 W (hr0.1.below hb) Row.nil hb.size (Nat.zero_le _) hr0.2 (Nat.zero_le _)
  rw [shp_val] at hsm
  have H0 := Lib.hid (Blk.new w 28 x.cells)
  have HB := Lib.hid (bel_new (Below.refl w.heap.size w) (.cells x.cells.toArray 28))
  clear h hr0
  generalize shpI x = sx at *
  obtain ⟨xcl, xa, xb, xc, xu, xla, xln, xlc, xl, xbw, xsu, xho, xan, xal, xno⟩ := x
  simp only [It.cells, It.val] at H0 HB hsh ⊢
  simp only [It.val] at hsm
  go_enter Try.func22, Try.ntmps22
  go_upto_region 1 with fail
  revert H0 HB
  generalize World.alloc w _ = W1
  intro H0 HB
  have x0 := H0.out.cell 0
  have x1 := H0.out.cell 1
  have x2 := H0.out.cell 2
  have x3 := H0.out.cell 3
  have x4 := H0.out.cell 4
  have x5 := H0.out.cell 5
  have x6 := H0.out.cell 6
  have x7 := H0.out.cell 7
  have x8 := H0.out.cell 8
  have x9 := H0.out.cell 9
  have x10 := H0.out.cell 10
  have x11 := H0.out.cell 11
  simp only [List.getElem?_cons_zero, List.getElem?_cons_succ] at x0 x1 x2 x3 x4 x5 x6 x7 x8 x9 x10 x11
  go_wp2_with fail
  ((with_reducible refine (hsh _).mono ?_))
  rintro e W2 ⟨rfl, hb⟩
  have H2 := Lib.hid (H0.out.below hb)
  have HB2 := Lib.hid (bel_more HB.out (Nat.le_refl _) hb)
  have hsc := hsm W2 HB2.out
  clear hb hsh hsm H0 HB x0 x1 x2 x3 x4 x5 x6 x7 x8 x9 x10 x11
  go_wp2_with fail
  ((with_reducible refine hsc.mono ?_))
  rintro e W3 ⟨rfl, hb⟩
  have H3 := Lib.hid (H2.out.below hb)
  have HB3 := Lib.hid (bel_more HB2.out (Nat.le_refl _) hb)
  clear hb hsc H2
  cases hs : (shpP ⟨xcl, xa, xb, xc, xu, xl, ⟨xbw, xsu, xho, xan, xal, xno⟩⟩).same (.blank 0) with
  | false =>
    have HM := Lib.hid (show mayB ⟨xcl, xa, xb, xc, xu, xl, ⟨xbw, xsu, xho, xan, xal, xno⟩⟩ = false by simp [mayB, hs])
    clear hs
    go_wp2
    go_ret
    rw [HM.out]
    exact ⟨rfl, HB3.out⟩
  | true =>
    have HS := Lib.hid hs
    clear hs
    have x0 := H3.out.cell 0
    have x1 := H3.out.cell 1
    have x2 := H3.out.cell 2
    have x3 := H3.out.cell 3
    have x4 := H3.out.cell 4
    have x5 := H3.out.cell 5
    have x6 := H3.out.cell 6
    have x7 := H3.out.cell 7
    have x8 := H3.out.cell 8
    have x9 := H3.out.cell 9
    have x10 := H3.out.cell 10
    have x11 := H3.out.cell 11
    simp only [List.getElem?_cons_zero, List.getElem?_cons_succ] at x0 x1 x2 x3 x4 x5 x6 x7 x8 x9 x10 x11
    by_cases e0 : xcl = 1
    · subst e0
      cases h0 : ndB xa with
      | false =>
        have k0 := node7_calls xa
        rw [h0] at k0
        have HM := Lib.hid (show mayB ⟨1, xa, xb, xc, xu, xl, ⟨xbw, xsu, xho, xan, xal, xno⟩⟩ = false by unfold mayB; rw [HS.out]; simp [condB, h0])
        go_wp2_with fail
        ((with_reducible refine (k0 _).mono ?_))
        rintro e w4 ⟨rfl, rfl⟩
        go_wp2
        go_ret
        rw [HM.out]
        exact ⟨rfl, HB3.out⟩
      | true =>
        have k0 := node7_calls xa
        rw [h0] at k0
        cases h1 : smB xb with
        | false =>
          have k1 := small7_calls xb
          rw [h1] at k1
          have HM := Lib.hid (show mayB ⟨1, xa, xb, xc, xu, xl, ⟨xbw, xsu, xho, xan, xal, xno⟩⟩ = false by unfold mayB; rw [HS.out]; simp [condB, h0, h1])
          go_wp2_with fail
          ((with_reducible refine (k0 _).mono ?_))
          rintro e w4 ⟨rfl, rfl⟩
          go_wp2_with fail
          ((with_reducible refine (k1 _).mono ?_))
          rintro e w4 ⟨rfl, rfl⟩
          go_wp2
          go_ret
          rw [HM.out]
          exact ⟨rfl, HB3.out⟩
        | true =>
          have k1 := small7_calls xb
          rw [h1] at k1
          cases h2 : ndB xc with
          | false =>
            have k2 := node7_calls xc
            rw [h2] at k2
            have HM := Lib.hid (show mayB ⟨1, xa, xb, xc, xu, xl, ⟨xbw, xsu, xho, xan, xal, xno⟩⟩ = false by unfold mayB; rw [HS.out]; simp [condB, h0, h1, h2])
            go_wp2_with fail
            ((with_reducible refine (k0 _).mono ?_))
            rintro e w4 ⟨rfl, rfl⟩
            go_wp2_with fail
            ((with_reducible refine (k1 _).mono ?_))
            rintro e w4 ⟨rfl, rfl⟩
            go_wp2_with fail
            ((with_reducible refine (k2 _).mono ?_))
            rintro e w4 ⟨rfl, rfl⟩
            go_wp2
            go_ret
            rw [HM.out]
            exact ⟨rfl, HB3.out⟩
          | true =>
            have k2 := node7_calls xc
            rw [h2] at k2
            have HM := Lib.hid (show mayB ⟨1, xa, xb, xc, xu, xl, ⟨xbw, xsu, xho, xan, xal, xno⟩⟩ = true by unfold mayB; rw [HS.out]; simp [condB, h0, h1, h2])
            go_wp2_with fail
            ((with_reducible refine (k0 _).mono ?_))
            rintro e w4 ⟨rfl, rfl⟩
            go_wp2_with fail
            ((with_reducible refine (k1 _).mono ?_))
            rintro e w4 ⟨rfl, rfl⟩
            go_wp2_with fail
            ((with_reducible refine (k2 _).mono ?_))
            rintro e w4 ⟨rfl, rfl⟩
            go_wp2
            go_ret
            rw [HM.out]
            exact ⟨rfl, HB3.out⟩
    by_cases e1 : xcl = 3
    · subst e1
      cases h0 : ndB xa with
      | false =>
        have k0 := node7_calls xa
        rw [h0] at k0
        have HM := Lib.hid (show mayB ⟨3, xa, xb, xc, xu, xl, ⟨xbw, xsu, xho, xan, xal, xno⟩⟩ = false by unfold mayB; rw [HS.out]; simp [condB, h0])
        go_wp2_with fail
        ((with_reducible refine (k0 _).mono ?_))
        rintro e w4 ⟨rfl, rfl⟩
        go_wp2
        go_ret
        rw [HM.out]
        exact ⟨rfl, HB3.out⟩
      | true =>
        have k0 := node7_calls xa
        rw [h0] at k0
        have HM := Lib.hid (show mayB ⟨3, xa, xb, xc, xu, xl, ⟨xbw, xsu, xho, xan, xal, xno⟩⟩ = true by unfold mayB; rw [HS.out]; simp [condB, h0])
        go_wp2_with fail
        ((with_reducible refine (k0 _).mono ?_))
        rintro e w4 ⟨rfl, rfl⟩
        go_wp2
        go_ret
        rw [HM.out]
        exact ⟨rfl, HB3.out⟩
    by_cases e2 : xcl = 5
    · subst e2
      by_cases h0 : xu < 4294967296
      · have p0 : (xu : Int) < 4294967296 := by omega
        have HM := Lib.hid (show mayB ⟨5, xa, xb, xc, xu, xl, ⟨xbw, xsu, xho, xan, xal, xno⟩⟩ = true by unfold mayB; rw [HS.out]; simp [condB, h0])
        go_wp2
        go_ret
        rw [HM.out]
        exact ⟨rfl, HB3.out⟩
      · have p0 : ¬ ((xu : Int) < 4294967296) := by omega
        have HM := Lib.hid (show mayB ⟨5, xa, xb, xc, xu, xl, ⟨xbw, xsu, xho, xan, xal, xno⟩⟩ = false by unfold mayB; rw [HS.out]; simp [condB, h0])
        go_wp2
        go_ret
        rw [HM.out]
        refine ⟨?_, HB3.out⟩
        show Ending.returned (Value.bool (decide ((xu : Int) < 4294967296))) = Ending.returned (Value.bool false)
        rw [decide_eq_false (by omega)]
    by_cases e3 : xcl = 23
    · subst e3
      by_cases h0 : xu < 4294967296
      · have p0 : (xu : Int) < 4294967296 := by omega
        have HM := Lib.hid (show mayB ⟨23, xa, xb, xc, xu, xl, ⟨xbw, xsu, xho, xan, xal, xno⟩⟩ = true by unfold mayB; rw [HS.out]; simp [condB, h0])
        go_wp2
        go_ret
        rw [HM.out]
        exact ⟨rfl, HB3.out⟩
      · have p0 : ¬ ((xu : Int) < 4294967296) := by omega
        have HM := Lib.hid (show mayB ⟨23, xa, xb, xc, xu, xl, ⟨xbw, xsu, xho, xan, xal, xno⟩⟩ = false by unfold mayB; rw [HS.out]; simp [condB, h0])
        go_wp2
        go_ret
        rw [HM.out]
        refine ⟨?_, HB3.out⟩
        show Ending.returned (Value.bool (decide ((xu : Int) < 4294967296))) = Ending.returned (Value.bool false)
        rw [decide_eq_false (by omega)]
    by_cases e4 : xcl = 6
    · subst e4
      cases h0 : ndB xa with
      | false =>
        have k0 := node7_calls xa
        rw [h0] at k0
        have HM := Lib.hid (show mayB ⟨6, xa, xb, xc, xu, xl, ⟨xbw, xsu, xho, xan, xal, xno⟩⟩ = false by unfold mayB; rw [HS.out]; simp [condB, h0])
        go_wp2_with fail
        ((with_reducible refine (k0 _).mono ?_))
        rintro e w4 ⟨rfl, rfl⟩
        go_wp2
        go_ret
        rw [HM.out]
        exact ⟨rfl, HB3.out⟩
      | true =>
        have k0 := node7_calls xa
        rw [h0] at k0
        by_cases h1 : 0 ≤ xb
        · by_cases h2 : xb ≤ 255
          · cases h3 : smB xc with
            | false =>
              have k3 := small7_calls xc
              rw [h3] at k3
              have HM := Lib.hid (show mayB ⟨6, xa, xb, xc, xu, xl, ⟨xbw, xsu, xho, xan, xal, xno⟩⟩ = false by unfold mayB; rw [HS.out]; simp [condB, h0, h1, h2, h3])
              go_wp2_with fail
              ((with_reducible refine (k0 _).mono ?_))
              rintro e w4 ⟨rfl, rfl⟩
              go_wp2_with fail
              ((with_reducible refine (k3 _).mono ?_))
              rintro e w4 ⟨rfl, rfl⟩
              go_wp2
              go_ret
              rw [HM.out]
              exact ⟨rfl, HB3.out⟩
            | true =>
              have k3 := small7_calls xc
              rw [h3] at k3
              have HM := Lib.hid (show mayB ⟨6, xa, xb, xc, xu, xl, ⟨xbw, xsu, xho, xan, xal, xno⟩⟩ = true by unfold mayB; rw [HS.out]; simp [condB, h0, h1, h2, h3])
              go_wp2_with fail
              ((with_reducible refine (k0 _).mono ?_))
              rintro e w4 ⟨rfl, rfl⟩
              go_wp2_with fail
              ((with_reducible refine (k3 _).mono ?_))
              rintro e w4 ⟨rfl, rfl⟩
              go_wp2
              go_ret
              rw [HM.out]
              exact ⟨rfl, HB3.out⟩
          · have HM := Lib.hid (show mayB ⟨6, xa, xb, xc, xu, xl, ⟨xbw, xsu, xho, xan, xal, xno⟩⟩ = false by unfold mayB; rw [HS.out]; simp [condB, h0, h1, h2])
            go_wp2_with fail
            ((with_reducible refine (k0 _).mono ?_))
            rintro e w4 ⟨rfl, rfl⟩
            go_wp2
            go_ret
            rw [HM.out]
            exact ⟨rfl, HB3.out⟩
        · have HM := Lib.hid (show mayB ⟨6, xa, xb, xc, xu, xl, ⟨xbw, xsu, xho, xan, xal, xno⟩⟩ = false by unfold mayB; rw [HS.out]; simp [condB, h0, h1])
          go_wp2_with fail
          ((with_reducible refine (k0 _).mono ?_))
          rintro e w4 ⟨rfl, rfl⟩
          go_wp2
          go_ret
          rw [HM.out]
          exact ⟨rfl, HB3.out⟩
    by_cases e5 : xcl = 8
    · subst e5
      have HM := Lib.hid (show mayB ⟨8, xa, xb, xc, xu, xl, ⟨xbw, xsu, xho, xan, xal, xno⟩⟩ = true by unfold mayB; rw [HS.out]; simp [condB])
      go_wp2
      go_ret
      rw [HM.out]
      exact ⟨rfl, HB3.out⟩
    by_cases e6 : xcl = 9
    · subst e6
      have HM := Lib.hid (show mayB ⟨9, xa, xb, xc, xu, xl, ⟨xbw, xsu, xho, xan, xal, xno⟩⟩ = true by unfold mayB; rw [HS.out]; simp [condB])
      go_wp2
      go_ret
      rw [HM.out]
      exact ⟨rfl, HB3.out⟩
    by_cases e7 : xcl = 12
    · subst e7
      have HM := Lib.hid (show mayB ⟨12, xa, xb, xc, xu, xl, ⟨xbw, xsu, xho, xan, xal, xno⟩⟩ = true by unfold mayB; rw [HS.out]; simp [condB])
      go_wp2
      go_ret
      rw [HM.out]
      exact ⟨rfl, HB3.out⟩
    by_cases e8 : xcl = 10
    · subst e8
      cases h0 : ndB xa with
      | false =>
        have k0 := node7_calls xa
        rw [h0] at k0
        have HM := Lib.hid (show mayB ⟨10, xa, xb, xc, xu, xl, ⟨xbw, xsu, xho, xan, xal, xno⟩⟩ = false by unfold mayB; rw [HS.out]; simp [condB, h0])
        go_wp2_with fail
        ((with_reducible refine (k0 _).mono ?_))
        rintro e w4 ⟨rfl, rfl⟩
        go_wp2
        go_ret
        rw [HM.out]
        exact ⟨rfl, HB3.out⟩
      | true =>
        have k0 := node7_calls xa
        rw [h0] at k0
        cases h1 : smB xb with
        | false =>
          have k1 := small7_calls xb
          rw [h1] at k1
          have HM := Lib.hid (show mayB ⟨10, xa, xb, xc, xu, xl, ⟨xbw, xsu, xho, xan, xal, xno⟩⟩ = false by unfold mayB; rw [HS.out]; simp [condB, h0, h1])
          go_wp2_with fail
          ((with_reducible refine (k0 _).mono ?_))
          rintro e w4 ⟨rfl, rfl⟩
          go_wp2_with fail
          ((with_reducible refine (k1 _).mono ?_))
          rintro e w4 ⟨rfl, rfl⟩
          go_wp2
          go_ret
          rw [HM.out]
          exact ⟨rfl, HB3.out⟩
        | true =>
          have k1 := small7_calls xb
          rw [h1] at k1
          have HM := Lib.hid (show mayB ⟨10, xa, xb, xc, xu, xl, ⟨xbw, xsu, xho, xan, xal, xno⟩⟩ = true by unfold mayB; rw [HS.out]; simp [condB, h0, h1])
          go_wp2_with fail
          ((with_reducible refine (k0 _).mono ?_))
          rintro e w4 ⟨rfl, rfl⟩
          go_wp2_with fail
          ((with_reducible refine (k1 _).mono ?_))
          rintro e w4 ⟨rfl, rfl⟩
          go_wp2
          go_ret
          rw [HM.out]
          exact ⟨rfl, HB3.out⟩
    by_cases e9 : xcl = 11
    · subst e9
      cases h0 : ndB xa with
      | false =>
        have k0 := node7_calls xa
        rw [h0] at k0
        have HM := Lib.hid (show mayB ⟨11, xa, xb, xc, xu, xl, ⟨xbw, xsu, xho, xan, xal, xno⟩⟩ = false by unfold mayB; rw [HS.out]; simp [condB, h0])
        go_wp2_with fail
        ((with_reducible refine (k0 _).mono ?_))
        rintro e w4 ⟨rfl, rfl⟩
        go_wp2
        go_ret
        rw [HM.out]
        exact ⟨rfl, HB3.out⟩
      | true =>
        have k0 := node7_calls xa
        rw [h0] at k0
        cases h1 : smB xb with
        | false =>
          have k1 := small7_calls xb
          rw [h1] at k1
          have HM := Lib.hid (show mayB ⟨11, xa, xb, xc, xu, xl, ⟨xbw, xsu, xho, xan, xal, xno⟩⟩ = false by unfold mayB; rw [HS.out]; simp [condB, h0, h1])
          go_wp2_with fail
          ((with_reducible refine (k0 _).mono ?_))
          rintro e w4 ⟨rfl, rfl⟩
          go_wp2_with fail
          ((with_reducible refine (k1 _).mono ?_))
          rintro e w4 ⟨rfl, rfl⟩
          go_wp2
          go_ret
          rw [HM.out]
          exact ⟨rfl, HB3.out⟩
        | true =>
          have k1 := small7_calls xb
          rw [h1] at k1
          have HM := Lib.hid (show mayB ⟨11, xa, xb, xc, xu, xl, ⟨xbw, xsu, xho, xan, xal, xno⟩⟩ = true by unfold mayB; rw [HS.out]; simp [condB, h0, h1])
          go_wp2_with fail
          ((with_reducible refine (k0 _).mono ?_))
          rintro e w4 ⟨rfl, rfl⟩
          go_wp2_with fail
          ((with_reducible refine (k1 _).mono ?_))
          rintro e w4 ⟨rfl, rfl⟩
          go_wp2
          go_ret
          rw [HM.out]
          exact ⟨rfl, HB3.out⟩
    by_cases e10 : xcl = 16
    · subst e10
      by_cases h0 : 0 ≤ xa
      · by_cases h1 : xa ≤ 1048575
        · have HM := Lib.hid (show mayB ⟨16, xa, xb, xc, xu, xl, ⟨xbw, xsu, xho, xan, xal, xno⟩⟩ = true by unfold mayB; rw [HS.out]; simp [condB, h0, h1])
          go_wp2
          go_ret
          rw [HM.out]
          exact ⟨rfl, HB3.out⟩
        · have HM := Lib.hid (show mayB ⟨16, xa, xb, xc, xu, xl, ⟨xbw, xsu, xho, xan, xal, xno⟩⟩ = false by unfold mayB; rw [HS.out]; simp [condB, h0, h1])
          go_wp2
          go_ret
          rw [HM.out]
          refine ⟨?_, HB3.out⟩
          show Ending.returned (Value.bool (decide (xa ≤ 1048575))) = Ending.returned (Value.bool false)
          rw [decide_eq_false (by omega)]
      · have HM := Lib.hid (show mayB ⟨16, xa, xb, xc, xu, xl, ⟨xbw, xsu, xho, xan, xal, xno⟩⟩ = false by unfold mayB; rw [HS.out]; simp [condB, h0])
        go_wp2
        go_ret
        rw [HM.out]
        exact ⟨rfl, HB3.out⟩
    by_cases e11 : xcl = 19
    · subst e11
      cases h0 : smB xa with
      | false =>
        have k0 := small7_calls xa
        rw [h0] at k0
        have HM := Lib.hid (show mayB ⟨19, xa, xb, xc, xu, xl, ⟨xbw, xsu, xho, xan, xal, xno⟩⟩ = false by unfold mayB; rw [HS.out]; simp [condB, h0])
        go_wp2_with fail
        ((with_reducible refine (k0 _).mono ?_))
        rintro e w4 ⟨rfl, rfl⟩
        go_wp2
        go_ret
        rw [HM.out]
        exact ⟨rfl, HB3.out⟩
      | true =>
        have k0 := small7_calls xa
        rw [h0] at k0
        have HM := Lib.hid (show mayB ⟨19, xa, xb, xc, xu, xl, ⟨xbw, xsu, xho, xan, xal, xno⟩⟩ = true by unfold mayB; rw [HS.out]; simp [condB, h0])
        go_wp2_with fail
        ((with_reducible refine (k0 _).mono ?_))
        rintro e w4 ⟨rfl, rfl⟩
        go_wp2
        go_ret
        rw [HM.out]
        exact ⟨rfl, HB3.out⟩
    by_cases e12 : xcl = 20
    · subst e12
      cases h0 : ndsB xl with
      | false =>
        have k0 := fun V (hV : Below w.heap.size w V) => nodes7_calls xla xln xlc xl w.heap.size V (HX.out.row.below hV) HX.out.len
        rw [h0] at k0
        have k0' := k0 _ HB3.out
        have HM := Lib.hid (show mayB ⟨20, xa, xb, xc, xu, xl, ⟨xbw, xsu, xho, xan, xal, xno⟩⟩ = false by simp [mayB, HS.out, condB, h0])
        clear k0
        go_wp2_with fail
        ((with_reducible refine k0'.mono ?_))
        rintro e w4 ⟨rfl, rfl⟩
        go_wp2
        go_ret
        rw [HM.out]
        exact ⟨rfl, HB3.out⟩
      | true =>
        have k0 := fun V (hV : Below w.heap.size w V) => nodes7_calls xla xln xlc xl w.heap.size V (HX.out.row.below hV) HX.out.len
        rw [h0] at k0
        have k0' := k0 _ HB3.out
        have HM := Lib.hid (show mayB ⟨20, xa, xb, xc, xu, xl, ⟨xbw, xsu, xho, xan, xal, xno⟩⟩ = true by simp [mayB, HS.out, condB, h0])
        clear k0
        go_wp2_with fail
        ((with_reducible refine k0'.mono ?_))
        rintro e w4 ⟨rfl, rfl⟩
        go_wp2
        go_ret
        rw [HM.out]
        exact ⟨rfl, HB3.out⟩
    by_cases e13 : xcl = 21
    · subst e13
      cases h0 : ndsB xl with
      | false =>
        have k0 := fun V (hV : Below w.heap.size w V) => nodes7_calls xla xln xlc xl w.heap.size V (HX.out.row.below hV) HX.out.len
        rw [h0] at k0
        have k0' := k0 _ HB3.out
        have HM := Lib.hid (show mayB ⟨21, xa, xb, xc, xu, xl, ⟨xbw, xsu, xho, xan, xal, xno⟩⟩ = false by simp [mayB, HS.out, condB, h0])
        clear k0
        go_wp2_with fail
        ((with_reducible refine k0'.mono ?_))
        rintro e w4 ⟨rfl, rfl⟩
        go_wp2
        go_ret
        rw [HM.out]
        exact ⟨rfl, HB3.out⟩
      | true =>
        have k0 := fun V (hV : Below w.heap.size w V) => nodes7_calls xla xln xlc xl w.heap.size V (HX.out.row.below hV) HX.out.len
        rw [h0] at k0
        have k0' := k0 _ HB3.out
        have HM := Lib.hid (show mayB ⟨21, xa, xb, xc, xu, xl, ⟨xbw, xsu, xho, xan, xal, xno⟩⟩ = true by simp [mayB, HS.out, condB, h0])
        clear k0
        go_wp2_with fail
        ((with_reducible refine k0'.mono ?_))
        rintro e w4 ⟨rfl, rfl⟩
        go_wp2
        go_ret
        rw [HM.out]
        exact ⟨rfl, HB3.out⟩
    by_cases e14 : xcl = 207
    · subst e14
      by_cases h0 : xbw = 0
      · have Z0 := Lib.hid h0
        have k0 : ((xbw : Int) == 0) = true := by simp [h0]
        clear h0
        by_cases h1 : 0 ≤ xsu
        · by_cases h2 : xsu ≤ 7
          · by_cases h3 : 0 ≤ xho
            · by_cases h4 : xho ≤ 7
              · have HM := Lib.hid (show mayB ⟨207, xa, xb, xc, xu, xl, ⟨xbw, xsu, xho, xan, xal, xno⟩⟩ = true by unfold mayB; rw [HS.out]; simp [condB, Z0.out, h1, h2, h3, h4])
                go_wp2
                go_ret
                rw [HM.out]
                exact ⟨rfl, HB3.out⟩
              · have HM := Lib.hid (show mayB ⟨207, xa, xb, xc, xu, xl, ⟨xbw, xsu, xho, xan, xal, xno⟩⟩ = false by unfold mayB; rw [HS.out]; simp [condB, Z0.out, h1, h2, h3, h4])
                go_wp2
                go_ret
                rw [HM.out]
                refine ⟨?_, HB3.out⟩
                show Ending.returned (Value.bool (decide (xho ≤ 7))) = Ending.returned (Value.bool false)
                rw [decide_eq_false (by omega)]
            · have HM := Lib.hid (show mayB ⟨207, xa, xb, xc, xu, xl, ⟨xbw, xsu, xho, xan, xal, xno⟩⟩ = false by unfold mayB; rw [HS.out]; simp [condB, Z0.out, h1, h2, h3])
              go_wp2
              go_ret
              rw [HM.out]
              exact ⟨rfl, HB3.out⟩
          · have HM := Lib.hid (show mayB ⟨207, xa, xb, xc, xu, xl, ⟨xbw, xsu, xho, xan, xal, xno⟩⟩ = false by unfold mayB; rw [HS.out]; simp [condB, Z0.out, h1, h2])
            go_wp2
            go_ret
            rw [HM.out]
            exact ⟨rfl, HB3.out⟩
        · have HM := Lib.hid (show mayB ⟨207, xa, xb, xc, xu, xl, ⟨xbw, xsu, xho, xan, xal, xno⟩⟩ = false by unfold mayB; rw [HS.out]; simp [condB, Z0.out, h1])
          go_wp2
          go_ret
          rw [HM.out]
          exact ⟨rfl, HB3.out⟩
      · have k0 : ((xbw : Int) == 0) = false := by rw [beq_eq_false_iff_ne]; omega
        have p0 : ¬ (xbw : Int) = 0 := by omega
        have HM := Lib.hid (show mayB ⟨207, xa, xb, xc, xu, xl, ⟨xbw, xsu, xho, xan, xal, xno⟩⟩ = false by unfold mayB; rw [HS.out]; simp [condB, h0])
        go_wp2
        go_ret
        rw [HM.out]
        exact ⟨rfl, HB3.out⟩
    have HM := Lib.hid (show mayB ⟨xcl, xa, xb, xc, xu, xl, ⟨xbw, xsu, xho, xan, xal, xno⟩⟩ = false by simp [mayB, condB, e0, e1, e2, e3, e4, e5, e6, e7, e8, e9, e10, e11, e12, e13, e14])
    go_wp2
    go_ret
    rw [HM.out]
    exact ⟨rfl, HB3.out⟩
end Go.Proofs.Ytocogdcecnnnnaa
