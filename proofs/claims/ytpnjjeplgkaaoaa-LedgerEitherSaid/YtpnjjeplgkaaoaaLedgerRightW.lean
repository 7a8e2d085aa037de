/-
  The law LedgerRight, walked, under what the code must keep: for every list of calls the answer is true, and nothing that was there has turned. Condition: numbers of 64 bits.
-/
import Derived.Test.YtpnjjeplgkaaoaaLedgC
import Derived.Test.YtpnjjeplgkaaoaaLedgOpen
namespace Go.Proofs.Ytpnjjeplgkaaoaa
set_option maxRecDepth 100000
set_option linter.unusedVariables false
open Go.RowKit

theorem Blk.kept {w w' : World} {q r : Nat} {T : TypeId} {vs : List Value} (h : Blk w q T vs) (hg : w.grownBy w' (some r)) (hne : q ≠ r) : Blk w' q T vs :=
  h.same (hg.block q h.lt (by intro e; cases e; exact hne rfl))
/-- What is held so far, and the ledger that tells it. -/
structure Hld (w W : World) (q sz : Nat) (m : Lg) : Prop where
  ok : LgOk m
  cap : m.cap = sz
  fit : m.held.sum ≤ sz
  blk : Blk W q 30 (lgc m)
  lo : w.heap.size ≤ q
  bel : Below w.heap.size w W
theorem row_act13 {w : World} {n i : Nat} {a : Option Addr} {es : List Ac13} (h : Row a13 w w.heap.size a n es) (hi : i < n) : ∃ b o x, a = some ⟨b, o, none⟩ ∧ x ∈ es ∧ ∀ W, Below w.heap.size w W → ∀ j v, (a13 x)[j]? = some v → W.cell? ⟨b, o + i * 3 + j, none⟩ = some v := by
  obtain ⟨b, o, e, hb, hc⟩ := h.cells a13_length (by omega)
  have hi' : i < es.length := by rw [h.1]; exact hi
  refine ⟨b, o, es[i], e, List.getElem_mem hi', fun W hW j v hv => ?_⟩
  have hj : j < 3 := by
    have := (List.getElem?_eq_some_iff.1 hv).1
    rwa [a13_length] at this
  rw [hW.cell (p := ⟨b, o + i * 3 + j, none⟩) hb, hc i hi' j hj, hv]

set_option maxHeartbeats 6400000 in
theorem lright_walk (h1 : AddOk13) (h2 : RightOk13) (h3 : FreeOk13) (h4 : PutOk13) (h5 : TakeOk13) (h6 : SumOk13) (size : Int) (hsz : 0 ≤ size ∧ size < 18446744073709551616) (a : Option Addr) (n c : Nat) (w : World) (h : n ≤ maxLen ∧ ∃ es, Row a13 w w.heap.size a n es ∧ ∀ x ∈ es, Ac13Ok x) : Calls Try.prog 7 #[.int .u64 size, .slice a n c] w fun e w' => e = .returned (.bool true) ∧ Below w.heap.size w w' := by
  obtain ⟨size, rfl⟩ := Int.eq_ofNat_of_zero_le hsz.1
  obtain ⟨hmx, es, hes, hok⟩ := h
  unfold maxLen at hmx
  have HROW := Lib.hid hes
  have HOK := Lib.hid hok
  have HA := Lib.hid (fun W => alive13_calls h1 h2 h3 h4 W)
  have HPUT := Lib.hid h4
  have HTAKE := Lib.hid h5
  have HSUM := Lib.hid h6
  have HRIGHT := Lib.hid h2
  have HZL := Lib.hid (fun W : World => (show Blk (W.alloc (.cells #[.int .u64 0, .int .u64 0, .int .u64 0, .int .u64 0, .int .u64 0, .int .u64 0, .int .u64 0, .int .u64 0, .int .u64 0] 30)) W.heap.size 30 [.int .u64 0, .int .u64 0, .int .u64 0, .int .u64 0, .int .u64 0, .int .u64 0, .int .u64 0, .int .u64 0, .int .u64 0] from Blk.new W _ _))
  have m0 : LgOk ⟨size, [0, 0, 0, 0, 0, 0, 0, 0]⟩ := ⟨rfl, by show size < _; omega, (by decide : ∀ n ∈ ([0, 0, 0, 0, 0, 0, 0, 0] : List Nat), n < 18446744073709551616)⟩
  have HSZ := Lib.hid hsz.2
  clear h1 h2 h3 h4 h5 h6 hes hok hsz
  go_enter Try.func7, Try.ntmps7
  go_wp2_with fail
  ((with_reducible refine (HA.out w).mono ?_))
  rintro e w1 ⟨rfl, hb⟩
  have L1 := Lib.hid hb
  clear hb
  go_upto_region 4 with fail
  have S2 := Lib.hid (show Hld w (w1.alloc (.cells #[.int .u64 (size : Int), .int .u64 0, .int .u64 0, .int .u64 0, .int .u64 0, .int .u64 0, .int .u64 0, .int .u64 0, .int .u64 0] 30)) w1.heap.size size ⟨size, [0, 0, 0, 0, 0, 0, 0, 0]⟩ from ⟨m0, rfl, by simp, Blk.new w1 30 (lgc ⟨size, [0, 0, 0, 0, 0, 0, 0, 0]⟩), L1.out.size, bel_new L1.out _⟩)
  clear m0 L1
  generalize w1.alloc (.cells #[.int .u64 (size : Int), .int .u64 0, .int .u64 0, .int .u64 0, .int .u64 0, .int .u64 0, .int .u64 0, .int .u64 0, .int .u64 0] 30) = w2 at *
  generalize w1.heap.size = q at *
  clear w1
  go_wp2_with fail
  go_loopw [6, 7] (fun s t W => ∃ (i : Nat) (m : Lg), i ≤ n ∧ s = .int .u64 ((m.held.sum : Nat) : Int) ∧ t = .int .i64 (i : Int) ∧ Hld w W q size m) (fun s t W => n - (intOf t).toNat)
  case atStart => exact ⟨0, _, by omega, rfl, rfl, S2.out⟩
  case round =>
    obtain ⟨i, m, hin, rfl, rfl, hst⟩ := hrel
    have ST := Lib.hid hst
    clear hst S2
    by_cases hlt : i < n ∧ i < 200
    · obtain ⟨hl1, hl2⟩ := hlt
      obtain ⟨b, o, x, rfl, hxm, hcs⟩ := row_act13 HROW.out hl1
      have hxo := HOK.out x hxm
      obtain ⟨tk, p, bw⟩ := x
      obtain ⟨hp, hbw⟩ := hxo
      simp only at hp hbw
      have i1 : (i : Int) < (n : Int) := by omega
      have i2 : (i : Int) < 200 := by omega
      have HI := Lib.hid (And.intro hl1 hl2)
      have c0 : wr.cell? ⟨b, o + i * 3, none⟩ = some (.bool tk) := hcs wr ST.out.bel 0 _ rfl
      have c1 : wr.cell? ⟨b, o + i * 3 + 1, none⟩ = some (.int .i64 p) := hcs wr ST.out.bel 1 _ rfl
      have c2 : wr.cell? ⟨b, o + i * 3 + 2, none⟩ = some (.int .u64 (bw : Int)) := hcs wr ST.out.bel 2 _ rfl
      have okX := lPut_ok ST.out.ok p bw
      have hpr := put_right ST.out.ok (p := p) (b := bw)
      have hpc := HPUT.out m ST.out.ok p hp.1 hp.2 bw hbw
      have hpz := lPut_zero (l := m) (p := p) (b := bw)
      have okY := lTake_ok ST.out.ok p bw
      have htr := take_right ST.out.ok (p := p) (b := bw)
      have htc := HTAKE.out m ST.out.ok p hp.1 hp.2 bw hbw
      have htz := lTake_zero (l := m) (p := p) (b := bw)
      unfold Lgn13 at hpc htc
      obtain ⟨X, hX⟩ : ∃ X, (lPut m p bw).1 = X := ⟨_, rfl⟩
      obtain ⟨E, hE⟩ : ∃ E, (lPut m p bw).2 = E := ⟨_, rfl⟩
      obtain ⟨Y, hY⟩ : ∃ Y, (lTake m p bw).1 = Y := ⟨_, rfl⟩
      obtain ⟨F, hF⟩ : ∃ F, (lTake m p bw).2 = F := ⟨_, rfl⟩
      rw [hX] at okX hpr hpc
      rw [hE] at hpr hpc
      rw [hY] at okY htr htc
      rw [hF] at htr htc
      have HP := Lib.hid hpc
      have HQ := Lib.hid htc
      have HPR := Lib.hid hpr
      have HTR := Lib.hid htr
      have HOX9 := Lib.hid okX
      have HOY9 := Lib.hid okY
      have HIm := Lib.hid (infoLedg9R m ST.out.ok)
      have HJm := Lib.hid (infoLedg9 m ST.out.ok)
      have HOm := Lib.hid (lgc_one m)
      have HNm := Lib.hid (show ([.int .u64 0, .int .u64 0, .int .u64 0, .int .u64 0, .int .u64 0, .int .u64 0, .int .u64 0, .int .u64 0, .int .u64 0] : List Value).length = (lgc m).length by rw [lgc_length ST.out.ok]; rfl)
      have HIX := Lib.hid (infoLedg9R X okX)
      have HJX := Lib.hid (infoLedg9 X okX)
      have HOX := Lib.hid (lgc_one X)
      have HNX := Lib.hid (show ([.int .u64 0, .int .u64 0, .int .u64 0, .int .u64 0, .int .u64 0, .int .u64 0, .int .u64 0, .int .u64 0, .int .u64 0] : List Value).length = (lgc X).length by rw [lgc_length okX]; rfl)
      have HIY := Lib.hid (infoLedg9R Y okY)
      have HJY := Lib.hid (infoLedg9 Y okY)
      have HOY := Lib.hid (lgc_one Y)
      have HNY := Lib.hid (show ([.int .u64 0, .int .u64 0, .int .u64 0, .int .u64 0, .int .u64 0, .int .u64 0, .int .u64 0, .int .u64 0, .int .u64 0] : List Value).length = (lgc Y).length by rw [lgc_length okY]; rfl)
      clear hpr hpc htr htc hX hE hY hF hpz htz hcs hxm hp
      go_upto_region 9 with fail
      have DA := Lib.hid (show Blk (wr.alloc (.cells #[.bool tk, .int .i64 p, .int .u64 (bw : Int)] 47)) wr.heap.size 47 [.bool tk, .int .i64 p, .int .u64 (bw : Int)] from Blk.new wr _ _)
      have DB := Lib.hid (ST.out.blk.alloc (.cells #[.bool tk, .int .i64 p, .int .u64 (bw : Int)] 47))
      have DL := Lib.hid (bel_new ST.out.bel (.cells #[.bool tk, .int .i64 p, .int .u64 (bw : Int)] 47))
      have hqa : q < wr.heap.size := ST.out.blk.lt
      clear c0 c1 c2
      generalize wr.alloc (.cells #[.bool tk, .int .i64 p, .int .u64 (bw : Int)] 47) = w3 at *
      generalize wr.heap.size = qa at *
      have HQA := Lib.hid hqa
      clear hqa
      have HDw3 := Lib.hid DA.out
      have HMw3 := Lib.hid DB.out
      have HLw3 := Lib.hid DL.out
      clear DA DB DL
      have d1 : w3.cell? ⟨qa, 1, none⟩ = some (.int .i64 p) := HDw3.out.cell 1
      have d2 : w3.cell? ⟨qa, 2, none⟩ = some (.int .u64 (bw : Int)) := HDw3.out.cell 2
      go_wp2_with ((with_reducible refine step_load (o := ⟨some 32, _, _, _, _, _⟩) (x := .tmp 5) ?_ ?_ ?_ HMw3.out Try.underlying30 ?_ HJm.out ?_); (rfl); (rfl); (rfl); (rfl))
      clear d1 d2
      ((with_reducible refine (HP.out w3).mono ?_))
      rintro e w4 ⟨rfl, hb⟩
      have hb9 : Below w3.heap.size w3 w4 := hb
      have HMw4 := Lib.hid (HMw3.out.below hb9)
      have HDw4 := Lib.hid (HDw3.out.below hb9)
      have HLw4 := Lib.hid (HLw3.out.trans (hb9.mono HLw3.out.size))
      clear hb9 HMw3 HDw3 HLw3
      clear hb
      go_upto_region 10 with ((with_reducible refine step_store (o := ⟨none, _, _, _, _, _⟩) (vs := lgc X) (ty := 30) (x := .tmp 9) (y := .tmp 38) ?_ ?_ ?_ ?_ (HZL.out _) HJX.out HNX.out HOX.out ?_); (rfl); (rfl); (rfl); (rfl); intro w5 hb5 hg5 hs5)
      have HXw5 := Lib.hid hb5
      have hq5 : Below w4.heap.size w4 w5 := bel_upd (bel_new (Below.refl _ _) _) hg5 (Nat.le_refl _) (Nat.le_refl _)
      have hqx : q < w4.heap.size := HMw4.out.lt
      have hax : qa < w4.heap.size := HDw4.out.lt
      clear hb5 hg5 hs5
      have hb9 : Below w4.heap.size w4 w5 := hq5
      have HMw5 := Lib.hid (HMw4.out.below hb9)
      have HDw5 := Lib.hid (HDw4.out.below hb9)
      have HLw5 := Lib.hid (HLw4.out.trans (hb9.mono HLw4.out.size))
      clear hb9 HMw4 HDw4 HLw4
      clear hq5
      generalize w4.heap.size = qx at *
      have HQX := Lib.hid (And.intro hqx hax)
      clear hqx hax
      have d0 : w5.cell? ⟨qa, 0, none⟩ = some (.bool tk) := HDw5.out.cell 0
      cases tk with
      | false =>
        by_cases hE : E = 0
        · subst hE
          go_upto_region 14 with (first | ((with_reducible refine step_load (o := ⟨some 53, _, _, _, _, _⟩) (x := .tmp 9) ?_ ?_ ?_ HXw5.out Try.underlying30 ?_ HJX.out ?_); (rfl); (rfl); (rfl); (rfl)) | ((with_reducible refine step_store (o := ⟨none, _, _, _, _, _⟩) (vs := lgc X) (ty := 30) (x := .tmp 5) (y := .tmp 53) ?_ ?_ ?_ ?_ HMw5.out HJX.out (show (lgc m).length = (lgc X).length by rw [lgc_length ST.out.ok, lgc_length HOX9.out]) HOX.out ?_); (rfl); (rfl); (rfl); (rfl); intro w6 hb6 hg6 hs6))
          have HMw6 := Lib.hid hb6
          have HDw6 := Lib.hid (HDw5.out.kept hg6 (by have := HQA.out; omega))
          have HLw6 := Lib.hid (bel_upd HLw5.out hg6 (Nat.le_refl _) ST.out.lo)
          clear hb6 hg6 hs6 HMw5 HDw5 HXw5 HLw5 d0
          have d0 : w6.cell? ⟨qa, 0, none⟩ = some (.bool false) := HDw6.out.cell 0
          have d2 : w6.cell? ⟨qa, 2, none⟩ = some (.int .u64 (bw : Int)) := HDw6.out.cell 2
          obtain ⟨hs1, hs2, hs3⟩ := HPR.out rfl
          have hcap := ST.out.cap
          have hsz := HSZ.out
          have hfit : X.held.sum ≤ size := by have h9 : X.held.sum ≤ X.cap := of_decide_eq_true hs3; omega
          have hwr : IntKind.u64.wrap (((m.held.sum : Nat) : Int) + (bw : Int)) = ((X.held.sum : Nat) : Int) := by have h9 := ST.out.fit; rw [IntKind.wrap_u64]; omega
          have ksum := HSUM.out X HOX9.out
          have kright := HRIGHT.out X HOX9.out
          unfold Two13 aS at ksum
          rw [if_pos (by omega : X.held.sum < 18446744073709551616), decide_eq_true (by omega : X.held.sum < 18446744073709551616)] at ksum
          rw [hs3] at kright
          have KS := Lib.hid ksum
          have KR := Lib.hid kright
          have hcz : X.cap = size := by omega
          have HCZ := Lib.hid (And.intro hcz hfit)
          obtain ⟨S, hS⟩ : ∃ S, X.held.sum = S := ⟨_, rfl⟩
          rw [hS] at hwr KS hfit
          have HS9 := Lib.hid hS
          have hne : ((S : Int) != (S : Int)) = false := by simp
          have hnl : ¬ size < S := by omega
          have hce : ((size : Int) != (size : Int)) = false := by simp
          clear hs1 hs2 hs3 hcap hsz ksum kright hS hfit hcz
          go_wp2_with ((with_reducible refine step_load (o := ⟨some 65, _, _, _, _, _⟩) (x := .tmp 5) ?_ ?_ ?_ HMw6.out Try.underlying30 ?_ HJX.out ?_); (rfl); (rfl); (rfl); (rfl))
          clear d0 d2 hwr
          ((with_reducible refine (KS.out w6).mono ?_))
          rintro e w7 ⟨rfl, hb⟩
          have hb9 : Below w6.heap.size w6 w7 := hb
          have HMw7 := Lib.hid (HMw6.out.below hb9)
          have HDw7 := Lib.hid (HDw6.out.below hb9)
          have HLw7 := Lib.hid (HLw6.out.trans (hb9.mono HLw6.out.size))
          clear hb9 HMw6 HDw6 HLw6
          clear hb
          go_wp2_with ((with_reducible refine step_load (o := ⟨some 69, _, _, _, _, _⟩) (x := .tmp 5) ?_ ?_ ?_ HMw7.out Try.underlying30 ?_ HJX.out ?_); (rfl); (rfl); (rfl); (rfl))
          ((with_reducible refine (KR.out w7).mono ?_))
          rintro e w8 ⟨rfl, hb⟩
          have hb9 : Below w7.heap.size w7 w8 := hb
          have HMw8 := Lib.hid (HMw7.out.below hb9)
          have HDw8 := Lib.hid (HDw7.out.below hb9)
          have HLw8 := Lib.hid (HLw7.out.trans (hb9.mono HLw7.out.size))
          clear hb9 HMw7 HDw7 HLw7
          clear hb
          have cc : w8.cell? ⟨q, 0, none⟩ = some (.int .u64 (size : Int)) := (HMw8.out.cell 0).trans (by rw [lgc_cap, HCZ.out.1])
          go_wp2_with fail
          go_roundw
          case rel => exact ⟨i + 1, X, by have := HI.out.1; omega, by rw [HS9.out], by first | rfl | (simp; omega), ⟨HOX9.out, HCZ.out.1, HCZ.out.2, HMw8.out, ST.out.lo, HLw8.out⟩⟩
          case measure => have := HI.out.1; simp [intOf]; omega
        · have hE2 : (E != 0) = true := by simpa using hE
          clear hE
          go_wp2_with fail
          go_roundw
          case rel => exact ⟨i + 1, m, by have := HI.out.1; omega, rfl, by first | rfl | (simp; omega), ⟨ST.out.ok, ST.out.cap, ST.out.fit, HMw5.out, ST.out.lo, HLw5.out⟩⟩
          case measure => have := HI.out.1; simp [intOf]; omega
      | true =>
        have d1 : w5.cell? ⟨qa, 1, none⟩ = some (.int .i64 p) := HDw5.out.cell 1
        have d2 : w5.cell? ⟨qa, 2, none⟩ = some (.int .u64 (bw : Int)) := HDw5.out.cell 2
        go_wp2_with ((with_reducible refine step_load (o := ⟨some 43, _, _, _, _, _⟩) (x := .tmp 5) ?_ ?_ ?_ HMw5.out Try.underlying30 ?_ HJm.out ?_); (rfl); (rfl); (rfl); (rfl))
        clear d0 d1 d2
        ((with_reducible refine (HQ.out w5).mono ?_))
        rintro e w6 ⟨rfl, hb⟩
        have hb9 : Below w5.heap.size w5 w6 := hb
        have HMw6 := Lib.hid (HMw5.out.below hb9)
        have HDw6 := Lib.hid (HDw5.out.below hb9)
        have HXw6 := Lib.hid (HXw5.out.below hb9)
        have HLw6 := Lib.hid (HLw5.out.trans (hb9.mono HLw5.out.size))
        clear hb9 HMw5 HDw5 HXw5 HLw5
        clear hb
        go_upto_region 12 with ((with_reducible refine step_store (o := ⟨none, _, _, _, _, _⟩) (vs := lgc Y) (ty := 30) (x := .tmp 9) (y := .tmp 49) ?_ ?_ ?_ ?_ HXw6.out HJY.out (show (lgc X).length = (lgc Y).length by rw [lgc_length HOX9.out, lgc_length HOY9.out]) HOY.out ?_); (rfl); (rfl); (rfl); (rfl); intro w7 hb7 hg7 hs7)
        have HXw7 := Lib.hid hb7
        have HDw7 := Lib.hid (HDw6.out.kept hg7 (by have := HQX.out; omega))
        have HMw7 := Lib.hid (HMw6.out.kept hg7 (by have := HQX.out; omega))
        have HLw7 := Lib.hid (bel_upd HLw6.out hg7 (Nat.le_refl _) (by have := HQX.out.1; have := ST.out.lo; omega))
        clear hb7 hg7 hs7 HMw6 HDw6 HXw6 HLw6
        have d0 : w7.cell? ⟨qa, 0, none⟩ = some (.bool true) := HDw7.out.cell 0
        by_cases hE : F = 0
        · subst hE
          go_upto_region 14 with (first | ((with_reducible refine step_load (o := ⟨some 53, _, _, _, _, _⟩) (x := .tmp 9) ?_ ?_ ?_ HXw7.out Try.underlying30 ?_ HJY.out ?_); (rfl); (rfl); (rfl); (rfl)) | ((with_reducible refine step_store (o := ⟨none, _, _, _, _, _⟩) (vs := lgc Y) (ty := 30) (x := .tmp 5) (y := .tmp 53) ?_ ?_ ?_ ?_ HMw7.out HJY.out (show (lgc m).length = (lgc Y).length by rw [lgc_length ST.out.ok, lgc_length HOY9.out]) HOY.out ?_); (rfl); (rfl); (rfl); (rfl); intro w8 hb8 hg8 hs8))
          have HMw8 := Lib.hid hb8
          have HDw8 := Lib.hid (HDw7.out.kept hg8 (by have := HQA.out; omega))
          have HLw8 := Lib.hid (bel_upd HLw7.out hg8 (Nat.le_refl _) ST.out.lo)
          clear hb8 hg8 hs8 HMw7 HDw7 HXw7 HLw7 d0
          have d0 : w8.cell? ⟨qa, 0, none⟩ = some (.bool true) := HDw8.out.cell 0
          have d2 : w8.cell? ⟨qa, 2, none⟩ = some (.int .u64 (bw : Int)) := HDw8.out.cell 2
          obtain ⟨hs1, hs2, hs3⟩ := HTR.out rfl
          have hcap := ST.out.cap
          have hsz := HSZ.out
          have hfit : Y.held.sum ≤ size := by have h9 : Y.held.sum ≤ Y.cap := of_decide_eq_true hs3; omega
          have hwr : IntKind.u64.wrap (((m.held.sum : Nat) : Int) - (bw : Int)) = ((Y.held.sum : Nat) : Int) := by have h9 := ST.out.fit; rw [IntKind.wrap_u64]; omega
          have ksum := HSUM.out Y HOY9.out
          have kright := HRIGHT.out Y HOY9.out
          unfold Two13 aS at ksum
          rw [if_pos (by omega : Y.held.sum < 18446744073709551616), decide_eq_true (by omega : Y.held.sum < 18446744073709551616)] at ksum
          rw [hs3] at kright
          have KS := Lib.hid ksum
          have KR := Lib.hid kright
          have hcz : Y.cap = size := by omega
          have HCZ := Lib.hid (And.intro hcz hfit)
          obtain ⟨S, hS⟩ : ∃ S, Y.held.sum = S := ⟨_, rfl⟩
          rw [hS] at hwr KS hfit
          have HS9 := Lib.hid hS
          have hne : ((S : Int) != (S : Int)) = false := by simp
          have hnl : ¬ size < S := by omega
          have hce : ((size : Int) != (size : Int)) = false := by simp
          clear hs1 hs2 hs3 hcap hsz ksum kright hS hfit hcz
          go_wp2_with ((with_reducible refine step_load (o := ⟨some 65, _, _, _, _, _⟩) (x := .tmp 5) ?_ ?_ ?_ HMw8.out Try.underlying30 ?_ HJY.out ?_); (rfl); (rfl); (rfl); (rfl))
          clear d0 d2 hwr
          ((with_reducible refine (KS.out w8).mono ?_))
          rintro e w9 ⟨rfl, hb⟩
          have hb9 : Below w8.heap.size w8 w9 := hb
          have HMw9 := Lib.hid (HMw8.out.below hb9)
          have HDw9 := Lib.hid (HDw8.out.below hb9)
          have HLw9 := Lib.hid (HLw8.out.trans (hb9.mono HLw8.out.size))
          clear hb9 HMw8 HDw8 HLw8
          clear hb
          go_wp2_with ((with_reducible refine step_load (o := ⟨some 69, _, _, _, _, _⟩) (x := .tmp 5) ?_ ?_ ?_ HMw9.out Try.underlying30 ?_ HJY.out ?_); (rfl); (rfl); (rfl); (rfl))
          ((with_reducible refine (KR.out w9).mono ?_))
          rintro e w10 ⟨rfl, hb⟩
          have hb9 : Below w9.heap.size w9 w10 := hb
          have HMw10 := Lib.hid (HMw9.out.below hb9)
          have HDw10 := Lib.hid (HDw9.out.below hb9)
          have HLw10 := Lib.hid (HLw9.out.trans (hb9.mono HLw9.out.size))
          clear hb9 HMw9 HDw9 HLw9
          clear hb
          have cc : w10.cell? ⟨q, 0, none⟩ = some (.int .u64 (size : Int)) := (HMw10.out.cell 0).trans (by rw [lgc_cap, HCZ.out.1])
          go_wp2_with fail
          go_roundw
          case rel => exact ⟨i + 1, Y, by have := HI.out.1; omega, by rw [HS9.out], by first | rfl | (simp; omega), ⟨HOY9.out, HCZ.out.1, HCZ.out.2, HMw10.out, ST.out.lo, HLw10.out⟩⟩
          case measure => have := HI.out.1; simp [intOf]; omega
        · have hE2 : (F != 0) = true := by simpa using hE
          clear hE
          go_wp2_with fail
          go_roundw
          case rel => exact ⟨i + 1, m, by have := HI.out.1; omega, rfl, by first | rfl | (simp; omega), ⟨ST.out.ok, ST.out.cap, ST.out.fit, HMw7.out, ST.out.lo, HLw7.out⟩⟩
          case measure => have := HI.out.1; simp [intOf]; omega
    · by_cases hl1 : i < n
      · have i1 : (i : Int) < (n : Int) := by omega
        have i2 : ¬ (i : Int) < 200 := by omega
        have HLL := Lib.hid ST.out.bel
        clear hlt hl1 hin
        go_wp2_with fail
        go_ret
        exact ⟨rfl, HLL.out⟩
      · have i1 : ¬ (i : Int) < (n : Int) := by omega
        have HLL := Lib.hid ST.out.bel
        clear hlt hl1 hin
        go_wp2_with fail
        go_ret
        exact ⟨rfl, HLL.out⟩
end Go.Proofs.Ytpnjjeplgkaaoaa
