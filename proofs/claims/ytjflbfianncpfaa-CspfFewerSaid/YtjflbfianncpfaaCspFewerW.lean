/-
  The law CspfFewer, walked, under what the code must keep: for any case, any question and any number the answer is true, and nothing that was there has turned. Condition: FindOk17; the arguments' numbers are as large as their types allow.
-/
import Derived.Test.YtjflbfianncpfaaCspHopsW
namespace Go.Proofs.Ytjflbfianncpfaa
set_option maxRecDepth 100000
set_option linter.unusedVariables false
open Go.RowKit

theorem fit16_bare {a : Ak} {x : Ad} (h : fit16 a x = true) : fit16 ⟨a.w, [], [], a.ow⟩ x = true := by
  unfold fit16 at h ⊢
  simp only [Bool.and_eq_true, Bool.not_eq_true'] at h ⊢
  obtain ⟨h1, h2, h3, _, h5⟩ := h
  exact ⟨h1, h2, h3, by simp [exc16], h5⟩
theorem lks_bare {l : List Ad} {a : Ak} : ∀ z ∈ lks16 l a, z ∈ lks16 l ⟨a.w, [], [], a.ow⟩ := by
  intro z hz
  obtain ⟨x, hx, hf, rfl⟩ := lks_sub hz
  unfold lks16
  exact List.mem_map.2 ⟨x, List.mem_filter.2 ⟨hx, fit16_bare hf⟩, rfl⟩
/-- With more links, and more of them allowed, there is a route, which costs no more. -/
theorem csp17_fewer {n H H' f t c c' e' : Int} {l : List Ad} {a : Ak} {r r' : List Int} (h : Csp17 (ok17 n l a H f t) (lks16 l a) H f t r c 0) (j : Csp17 (ok17 n l ⟨a.w, [], [], a.ow⟩ H' f t) (lks16 l ⟨a.w, [], [], a.ow⟩) H' f t r' c' e') (h1 : H = 0 → H' = 0) (h2 : H ≤ H') : e' = 0 ∧ c' ≤ c := by
  obtain ⟨hok, hb⟩ := csp17_ok h
  have h0 := hok.2.2.2.2.2
  have hok' : ok17 n l ⟨a.w, [], [], a.ow⟩ H' f t := ⟨hok.1, hok.2.1, hok.2.2.1, hok.2.2.2.1, hok.2.2.2.2.1, by omega⟩
  rcases j.good hok' with ⟨e1, e2⟩ | ⟨_, _, _, e4⟩
  · exact ⟨e1, best17_more hb e2 lks_bare h1 (.inl h2) h0⟩
  · exfalso
    refine e4 c r (hb.1.1.more lks_bare) ?_
    rcases hb.1.2 with e | e
    · exact .inl (h1 e)
    · exact .inr (by omega)
/-- The same question, with nothing kept out, and so many links. -/
def plb (p : Pl) (h : Int) : Pl := ⟨none, 0, 0, none, 0, 0, p.a3, p.n3, p.c3, h⟩
set_option maxHeartbeats 12800000 in
theorem cfewer17_walk (hF : FindOk17) (n f t : Int) (b : Option Addr) (m c : Nat) (a : Ak) (p : Pl) (k : Nat) (hk8 : k < 256) (w : World) (hi : I15 n ∧ I15 f ∧ I15 t ∧ I15 p.h) (ho : ∃ l, Row adc w w.heap.size b m l ∧ ∀ x ∈ l, AdOk x ∧ I15 x.q) (hk : AkOk a ∧ AkRow w a p) :
    Calls Try.prog 6 #[.agg (csc n b m c f t).toArray, .agg (akc a.w p).toArray, .int .u8 (k : Int)] w fun e w' => e = .returned (.bool true) ∧ Below w.heap.size w w' := by
  obtain ⟨l, hr, hx⟩ := ho
  have HX := Lib.hid (fun x h => (hx x h).1)
  have HAK := Lib.hid hk.1
  have HI := Lib.hid hi
  have HFB := Lib.hid (fun (q : Pl) W (hq : AkIn W W.heap.size ⟨a.w, [], [], a.ow⟩ q) (hr : Row adc W W.heap.size b m l) (hm : m ≤ 1073741824) (hh : I15 q.h) => find17_calls hF n f t b m c l ⟨a.w, [], [], a.ow⟩ q W HX.out ⟨HAK.out.wn, HAK.out.ow⟩ hq hr hm HI.out.1 HI.out.2.1 HI.out.2.2.1 hh)
  unfold Fnd17 at HFB
  obtain ⟨b0, b1, bl⟩ := alloc2 w (csc n b m c f t) (akc a.w p) 24 33
  have HB := Lib.hid b0
  have HQ := Lib.hid b1
  have HL := Lib.hid bl
  have HR0 := Lib.hid hr
  have HAR0 := Lib.hid hk.2
  have HIA := Lib.hid (fun q => (show (Try.prog.info? 33).map (·.size) = some (akc a.w q).length from infoAkR))
  have HIA0 := Lib.hid (HIA.out p)
  have HIC := Lib.hid (show (Try.prog.info? 24).map (·.size) = some (csc n b m c f t).length from by kernel_rfl)
  have HFN := Lib.hid (fun (q : Pl) W (hq : AkIn W W.heap.size a q) (hr : Row adc W W.heap.size b m l) (hm : m ≤ 1073741824) (hh : I15 q.h) => find17_calls hF n f t b m c l a q W HX.out HAK.out hq hr hm HI.out.1 HI.out.2.1 HI.out.2.2.1 hh)
  have HAL := Lib.hid (fun W => alive17_calls hF W)
  unfold Fnd17 at HFN
  clear hx hr hk b0 b1 bl hi hF
  go_enter Try.func6, Try.ntmps6
  go_upto_region 1 with fail
  generalize ((w.alloc (.cells (csc n b m c f t).toArray 24)).alloc _) = w1 at *
  go_wp2_with fail
  ((with_reducible refine (HAL.out w1).mono ?_))
  rintro e w2 ⟨rfl, hb⟩
  have L2 := Lib.hid (HL.out.trans (hb.mono HL.out.size))
  have B2 := Lib.hid (HB.out.below hb)
  have Q2 := Lib.hid (HQ.out.below hb)
  clear hb HL HB HQ HAL
  have hsm := small16_calls b m c a.w p w2
  unfold Yes15 at hsm
  obtain ⟨sm, hs⟩ : ∃ sm, sml16 m p = sm := ⟨_, rfl⟩
  rw [hs] at hsm
  have HS := Lib.hid hs
  have HSM := Lib.hid hsm
  have x1 : w2.cell? ⟨w.heap.size, 1, none⟩ = some (.slice b m c) := B2.out.cell 1
  clear hs hsm
  go_wp2_with (refine step_load (o := ⟨some 18, _, _, _, _, _⟩) rfl rfl rfl Q2.out Try.underlying33 rfl HIA0.out ?_)
  ((with_reducible refine HSM.out.mono ?_))
  rintro e w3 ⟨rfl, hb⟩
  have L3 := Lib.hid (L2.out.trans (hb.mono L2.out.size))
  have B3 := Lib.hid (B2.out.below hb)
  have Q3 := Lib.hid (Q2.out.below hb)
  clear hb L2 B2 Q2 HSM x1
  cases sm with
  | false =>
    go_wp2_with fail
    go_ret
    exact ⟨rfl, L3.out⟩
  | true =>
  have HM1 := Lib.hid (show m ≤ 100 by have := HS.out; unfold sml16 at this; simp only [Bool.and_eq_true, decide_eq_true_eq] at this; exact this.1)
  have hfi := HFN.out p w3 ((HAR0.out.below L3.out).akin HS.out) ((HR0.out.below L3.out).more L3.out.size) (by have := HM1.out; omega) HI.out.2.2.2
  have HFI := Lib.hid hfi
  clear hfi
  go_wp2_with (first | refine step_load (o := ⟨some 22, _, _, _, _, _⟩) rfl rfl rfl B3.out Try.underlying24 rfl HIC.out ?_ | refine step_load (o := ⟨some 23, _, _, _, _, _⟩) rfl rfl rfl Q3.out Try.underlying33 rfl HIA0.out ?_)
  ((with_reducible refine HFI.out.mono ?_))
  rintro e w4 ⟨A4, c4, r, co, er, rfl, hac, hb, hcs⟩
  have L4 := Lib.hid (L3.out.trans (hb.mono L3.out.size))
  have B4 := Lib.hid (B3.out.below hb)
  have Q4 := Lib.hid (Q3.out.below hb)
  have G4 := Lib.hid (AccR.row hac)
  have HCS := Lib.hid hcs
  clear hb hac hcs HFI L3 B3 Q3
  have hbz := bel_new (Below.refl w4.heap.size w4) (.cells #[.int .u64 0, .int .i64 0, .int .i64 0, .int .u32 0, .int .u32 0, .int .u32 0, .slice none 0 0, .slice none 0 0, .slice none 0 0, .int .i64 0] 33)
  have BZ := Lib.hid (show Blk (w4.alloc (.cells #[.int .u64 0, .int .i64 0, .int .i64 0, .int .u32 0, .int .u32 0, .int .u32 0, .slice none 0 0, .slice none 0 0, .slice none 0 0, .int .i64 0] 33)) w4.heap.size 33 zakh from Blk.new w4 _ zakh)
  have HBZ := Lib.hid hbz
  have HH := Lib.hid HI.out.2.2.2
  clear hbz
  go_upto_region 7 with (first | (refine step_load (o := ⟨some 28, _, _, _, _, _⟩) rfl rfl rfl Q4.out Try.underlying33 rfl HIA0.out ?_) | ((with_reducible refine step_store (o := ⟨none, _, _, _, _, _⟩) (vs := akc a.w p) (ty := 33) (x := .tmp 10) (y := .tmp 28) ?_ ?_ ?_ ?_ BZ.out HIA0.out rfl (akc_one _ _) ?_); (rfl); (rfl); (rfl); (rfl); intro w5 hb5 hg5 hs5))
  have hb : Below w4.heap.size w4 w5 := bel_upd HBZ.out hg5 (Nat.le_refl _) (Nat.le_refl _)
  have C5 := Lib.hid hb5
  have L5 := Lib.hid (L4.out.trans (hb.mono L4.out.size))
  have B5 := Lib.hid (B4.out.below hb)
  have Q5 := Lib.hid (Q4.out.below hb)
  have HQL := Lib.hid (show w.heap.size < w4.heap.size ∧ w.heap.size + 1 < w4.heap.size from ⟨B4.out.lt, Q4.out.lt⟩)
  clear hb hb5 hg5 hs5 BZ HBZ L4 B4 Q4 G4
  generalize w4.heap.size = qb at *
  have y6 : w5.cell? ⟨qb, 6, none⟩ = some (.slice p.a1 p.n1 p.c1) := C5.out.cell 6
  have y7 : w5.cell? ⟨qb, 7, none⟩ = some (.slice p.a2 p.n2 p.c2) := C5.out.cell 7
  have f6 := C5.out.free 6
  have f7 := C5.out.free 7
  go_upto_region 8 with fail
  clear y6 y7 f6 f7
  have C6 := Lib.hid (show Blk ((w5.setCell ⟨qb, 6, none⟩ (.slice none 0 0)).setCell ⟨qb, 7, none⟩ (.slice none 0 0)) qb 33 (akc a.w (plb p p.h)) from (C5.out.set 6 _).set 7 _)
  have B6 := Lib.hid ((B5.out.other (p := ⟨qb, 6, none⟩) (by have := HQL.out.1; simp only; omega) (.slice none 0 0)).other (p := ⟨qb, 7, none⟩) (by have := HQL.out.1; simp only; omega) (.slice none 0 0))
  have Q6 := Lib.hid ((Q5.out.other (p := ⟨qb, 6, none⟩) (by have := HQL.out.2; simp only; omega) (.slice none 0 0)).other (p := ⟨qb, 7, none⟩) (by have := HQL.out.2; simp only; omega) (.slice none 0 0))
  have L6 := Lib.hid (show Below w.heap.size w ((w5.setCell ⟨qb, 6, none⟩ (.slice none 0 0)).setCell ⟨qb, 7, none⟩ (.slice none 0 0)) from (L5.out.setCell (p := ⟨qb, 6, none⟩) (Nat.le_of_lt HQL.out.1) _).setCell (p := ⟨qb, 7, none⟩) (Nat.le_of_lt HQL.out.1) _)
  clear C5 B5 Q5 L5
  generalize (w5.setCell ⟨qb, 6, none⟩ (.slice none 0 0)).setCell ⟨qb, 7, none⟩ (.slice none 0 0) = w6 at *
  have y9 : w6.cell? ⟨w.heap.size + 1, 9, none⟩ = some (.int .i64 p.h) := Q6.out.cell 9
  have z9 : w6.cell? ⟨qb, 9, none⟩ = some (.int .i64 p.h) := C6.out.cell 9
  have f9 := C6.out.free 9
  obtain ⟨hl1, hl2⟩ := HH.out
  by_cases h0 : 0 < p.h
  · by_cases h1 : p.h < 100
    · have hr4 : 0 ≤ (k : Int) % 4 ∧ (k : Int) % 4 < 4 := by omega
      obtain ⟨hr5, hr6⟩ := hr4
      go_upto_region 10 with fail
      have C7 := Lib.hid (show Blk (w6.setCell ⟨qb, 9, none⟩ (.int .i64 (p.h + (k : Int) % 4))) qb 33 (akc a.w (plb p (p.h + (k : Int) % 4))) from C6.out.set 9 _)
      have B7 := Lib.hid (show Blk (w6.setCell ⟨qb, 9, none⟩ (.int .i64 (p.h + (k : Int) % 4))) w.heap.size 24 (csc n b m c f t) from B6.out.other (p := ⟨qb, 9, none⟩) (by have := HQL.out.1; simp only; omega) _)
      have L7 := Lib.hid (show Below w.heap.size w (w6.setCell ⟨qb, 9, none⟩ (.int .i64 (p.h + (k : Int) % 4))) from L6.out.setCell (p := ⟨qb, 9, none⟩) (Nat.le_of_lt HQL.out.1) _)
      have H12 := Lib.hid (show (p.h = 0 → (p.h + (k : Int) % 4) = 0) ∧ p.h ≤ (p.h + (k : Int) % 4) from by omega)
      have hi' : I15 (p.h + (k : Int) % 4) := by unfold I15; omega
      have hl := L7.out
      generalize (w6.setCell ⟨qb, 9, none⟩ (.int .i64 (p.h + (k : Int) % 4))) = w7 at *
      obtain ⟨H', hHH⟩ : ∃ H', (p.h + (k : Int) % 4) = H' := ⟨_, rfl⟩
      rw [hHH] at C7 H12 hi'
      clear hHH
      have hfi := HFB.out (plb p H') w7 (show AkIn w7 w7.heap.size ⟨a.w, [], [], a.ow⟩ (plb p H') from by
        have h := (HAR0.out.below hl).akin HS.out
        exact ⟨Row.nil, Row.nil, h.ow, by unfold plb; simp, by unfold plb; simp, h.b3⟩) ((HR0.out.below hl).more hl.size) (by have := HM1.out; omega) hi'
      have HFI := Lib.hid hfi
      have HIB := Lib.hid (HIA.out (plb p H'))
      clear hfi hi' hl y9 z9 f9 hl1 hl2 C6 B6 Q6 L6
      go_wp2_with (first | refine step_load (o := ⟨some 47, _, _, _, _, _⟩) rfl rfl rfl B7.out Try.underlying24 rfl HIC.out ?_ | refine step_load (o := ⟨some 48, _, _, _, _, _⟩) rfl rfl rfl C7.out Try.underlying33 rfl HIB.out ?_)
      ((with_reducible refine HFI.out.mono ?_))
      rintro e w8 ⟨A8, c8, r2, co2, er2, rfl, hac, hb, hcs⟩
      have L8 := Lib.hid (L7.out.trans (hb.mono L7.out.size))
      have HC2 := Lib.hid hcs
      clear hb hac hcs HFI L7 B7 C7
      by_cases he : er = 0
      case neg =>
        have q1 : (er != 0) = true := by simpa using he
        clear he
        go_wp2_with fail
        go_ret
        exact ⟨rfl, L8.out⟩
      subst he
      obtain ⟨he2, hco⟩ := csp17_fewer HCS.out HC2.out H12.out.1 H12.out.2
      subst he2
      go_wp2_with fail
      go_ret
      exact ⟨rfl, L8.out⟩

    · have h2 : decide (p.h < 100) = false := decide_eq_false h1
      go_upto_region 10 with fail
      have C7 := Lib.hid (show Blk w6 qb 33 (akc a.w (plb p p.h)) from C6.out)
      have B7 := Lib.hid (show Blk w6 w.heap.size 24 (csc n b m c f t) from B6.out)
      have L7 := Lib.hid (show Below w.heap.size w w6 from L6.out)
      have H12 := Lib.hid (show (p.h = 0 → p.h = 0) ∧ p.h ≤ p.h from ⟨fun h => h, Int.le_refl _⟩)
      have hi' : I15 p.h := HH.out
      have hl := L7.out
      generalize w6 = w7 at *
      have hfi := HFB.out (plb p p.h) w7 (show AkIn w7 w7.heap.size ⟨a.w, [], [], a.ow⟩ (plb p p.h) from by
        have h := (HAR0.out.below hl).akin HS.out
        exact ⟨Row.nil, Row.nil, h.ow, by unfold plb; simp, by unfold plb; simp, h.b3⟩) ((HR0.out.below hl).more hl.size) (by have := HM1.out; omega) hi'
      have HFI := Lib.hid hfi
      have HIB := Lib.hid (HIA.out (plb p p.h))
      clear hfi hi' hl y9 z9 f9 hl1 hl2 C6 B6 Q6 L6
      go_wp2_with (first | refine step_load (o := ⟨some 47, _, _, _, _, _⟩) rfl rfl rfl B7.out Try.underlying24 rfl HIC.out ?_ | refine step_load (o := ⟨some 48, _, _, _, _, _⟩) rfl rfl rfl C7.out Try.underlying33 rfl HIB.out ?_)
      ((with_reducible refine HFI.out.mono ?_))
      rintro e w8 ⟨A8, c8, r2, co2, er2, rfl, hac, hb, hcs⟩
      have L8 := Lib.hid (L7.out.trans (hb.mono L7.out.size))
      have HC2 := Lib.hid hcs
      clear hb hac hcs HFI L7 B7 C7
      by_cases he : er = 0
      case neg =>
        have q1 : (er != 0) = true := by simpa using he
        clear he
        go_wp2_with fail
        go_ret
        exact ⟨rfl, L8.out⟩
      subst he
      obtain ⟨he2, hco⟩ := csp17_fewer HCS.out HC2.out H12.out.1 H12.out.2
      subst he2
      go_wp2_with fail
      go_ret
      exact ⟨rfl, L8.out⟩

  · have h2 : decide (0 < p.h) = false := decide_eq_false h0
    go_upto_region 10 with fail
    have C7 := Lib.hid (show Blk w6 qb 33 (akc a.w (plb p p.h)) from C6.out)
    have B7 := Lib.hid (show Blk w6 w.heap.size 24 (csc n b m c f t) from B6.out)
    have L7 := Lib.hid (show Below w.heap.size w w6 from L6.out)
    have H12 := Lib.hid (show (p.h = 0 → p.h = 0) ∧ p.h ≤ p.h from ⟨fun h => h, Int.le_refl _⟩)
    have hi' : I15 p.h := HH.out
    have hl := L7.out
    generalize w6 = w7 at *
    have hfi := HFB.out (plb p p.h) w7 (show AkIn w7 w7.heap.size ⟨a.w, [], [], a.ow⟩ (plb p p.h) from by
      have h := (HAR0.out.below hl).akin HS.out
      exact ⟨Row.nil, Row.nil, h.ow, by unfold plb; simp, by unfold plb; simp, h.b3⟩) ((HR0.out.below hl).more hl.size) (by have := HM1.out; omega) hi'
    have HFI := Lib.hid hfi
    have HIB := Lib.hid (HIA.out (plb p p.h))
    clear hfi hi' hl y9 z9 f9 hl1 hl2 C6 B6 Q6 L6
    go_wp2_with (first | refine step_load (o := ⟨some 47, _, _, _, _, _⟩) rfl rfl rfl B7.out Try.underlying24 rfl HIC.out ?_ | refine step_load (o := ⟨some 48, _, _, _, _, _⟩) rfl rfl rfl C7.out Try.underlying33 rfl HIB.out ?_)
    ((with_reducible refine HFI.out.mono ?_))
    rintro e w8 ⟨A8, c8, r2, co2, er2, rfl, hac, hb, hcs⟩
    have L8 := Lib.hid (L7.out.trans (hb.mono L7.out.size))
    have HC2 := Lib.hid hcs
    clear hb hac hcs HFI L7 B7 C7
    by_cases he : er = 0
    case neg =>
      have q1 : (er != 0) = true := by simpa using he
      clear he
      go_wp2_with fail
      go_ret
      exact ⟨rfl, L8.out⟩
    subst he
    obtain ⟨he2, hco⟩ := csp17_fewer HCS.out HC2.out H12.out.1 H12.out.2
    subst he2
    go_wp2_with fail
    go_ret
    exact ⟨rfl, L8.out⟩

end Go.Proofs.Ytjflbfianncpfaa
