/-
  The law CspfFinds, walked, under what the code must keep: for any case and any question the answer is true, and nothing that was there has turned. Condition: FindOk17; the arguments' numbers are as large as their types allow.
-/
import Derived.Test.YtjflbfianncpfaaCspH
import Derived.Test.YtjflbfianncpfaaCspB
namespace Go.Proofs.Ytjflbfianncpfaa
set_option maxRecDepth 100000
set_option linter.unusedVariables false
open Go.RowKit

theorem rfind17_calls (n f t : Int) (b : Option Addr) (m c : Nat) (l : List Ad) (a : Ak) (p : Pl) (w : World) (hx : ∀ x ∈ l, AdOk x) (ha : AkOk a) (hi : AkIn w w.heap.size a p) (hr : Row adc w w.heap.size b m l) (hm : m ≤ 1073741824) (hh : I15 p.h) :
    Calls Try.prog 12 #[.int .i64 n, .slice b m c, .agg (akc a.w p).toArray, .int .i64 f, .int .i64 t] w (RFnd17 n l a p.h f t w) := by
  by_cases hok : ok17 n l a p.h f t
  · exact rfind17_good n f t b m c l a p w hx ha hi hr hm hh hok
  · exact (rfind17_bad n f t b m c l a p w hr hm hok).mono fun e w' ⟨he, hb⟩ => ⟨none, 0, [], 0, 2, he, Row.nil, hb, ⟨fun _ => ⟨rfl, rfl, rfl⟩, fun h => absurd h hok⟩⟩
theorem csp17_len {n H f t co er : Int} {l : List Ad} {a : Ak} {r : List Int} (h : Csp17 (ok17 n l a H f t) (lks16 l a) H f t r co er) : r.length ≤ 16 := by
  by_cases hok : ok17 n l a H f t
  · rcases h.good hok with ⟨_, h2⟩ | ⟨_, h2, _⟩
    · exact (ok17_len hok h2.1.1).2
    · rw [h2]; decide
  · rw [(h.bad hok).1]; decide
set_option maxHeartbeats 12800000 in
theorem cfinds17_walk (hF : FindOk17) (n f t : Int) (b : Option Addr) (m c : Nat) (a : Ak) (p : Pl) (w : World) (hi : I15 n ∧ I15 f ∧ I15 t ∧ I15 p.h) (ho : ∃ l, Row adc w w.heap.size b m l ∧ ∀ x ∈ l, AdOk x ∧ I15 x.q) (hk : AkOk a ∧ AkRow w a p) :
    Calls Try.prog 3 #[.agg (csc n b m c f t).toArray, .agg (akc a.w p).toArray] w fun e w' => e = .returned (.bool true) ∧ Below w.heap.size w w' := by
  obtain ⟨l, hr, hx⟩ := ho
  have HX := Lib.hid (fun x h => (hx x h).1)
  have HAK := Lib.hid hk.1
  have HI := Lib.hid hi
  obtain ⟨b0, b1, bl⟩ := alloc2 w (csc n b m c f t) (akc a.w p) 24 33
  have HB := Lib.hid b0
  have HQ := Lib.hid b1
  have HL := Lib.hid bl
  have HR0 := Lib.hid hr
  have HAR0 := Lib.hid hk.2
  have HIA := Lib.hid (fun q => (show (Try.prog.info? 33).map (·.size) = some (akc a.w q).length from infoAkR))
  have HIA0 := Lib.hid (HIA.out p)
  have HIC := Lib.hid (show (Try.prog.info? 24).map (·.size) = some (csc n b m c f t).length from by kernel_rfl)
  have HFN := Lib.hid (fun (q : Pl) W (hq : AkIn W W.heap.size a q) (hr : Row adc W W.heap.size b m l) (hm : m ≤ 1073741824) (hh : I15 q.h) => find17_calls hF n f t b m c l a q W HX.out HAK.out hq hr hm HI.out.1 HI.out.2.1 HI.out.2.2.1 hh)
  have HAL := Lib.hid (fun W => alive17_calls hF W)
  unfold Fnd17 at HFN
  clear hx hr hk b0 b1 bl hi hF
  go_enter Try.func3, Try.ntmps3
  go_upto_region 1 with fail
  generalize ((w.alloc (.cells (csc n b m c f t).toArray 24)).alloc _) = w1 at *
  go_wp2_with fail
  ((with_reducible refine (HAL.out w1).mono ?_))
  rintro e w2 ⟨rfl, hb⟩
  have L2 := Lib.hid (HL.out.trans (hb.mono HL.out.size))
  have B2 := Lib.hid (HB.out.below hb)
  have Q2 := Lib.hid (HQ.out.below hb)
  clear hb HL HB HQ HAL
  have hsm := small16_calls b m c a.w p w2
  unfold Yes15 at hsm
  obtain ⟨sm, hs⟩ : ∃ sm, sml16 m p = sm := ⟨_, rfl⟩
  rw [hs] at hsm
  have HS := Lib.hid hs
  have HSM := Lib.hid hsm
  have x1 : w2.cell? ⟨w.heap.size, 1, none⟩ = some (.slice b m c) := B2.out.cell 1
  clear hs hsm
  go_wp2_with (refine step_load (o := ⟨some 15, _, _, _, _, _⟩) rfl rfl rfl Q2.out Try.underlying33 rfl HIA0.out ?_)
  ((with_reducible refine HSM.out.mono ?_))
  rintro e w3 ⟨rfl, hb⟩
  have L3 := Lib.hid (L2.out.trans (hb.mono L2.out.size))
  have B3 := Lib.hid (B2.out.below hb)
  have Q3 := Lib.hid (Q2.out.below hb)
  clear hb L2 B2 Q2 HSM x1
  cases sm with
  | false =>
    go_wp2_with fail
    go_ret
    exact ⟨rfl, L3.out⟩
  | true =>
  have HM1 := Lib.hid (show m ≤ 100 by have := HS.out; unfold sml16 at this; simp only [Bool.and_eq_true, decide_eq_true_eq] at this; exact this.1)
  have hfi := HFN.out p w3 ((HAR0.out.below L3.out).akin HS.out) ((HR0.out.below L3.out).more L3.out.size) (by have := HM1.out; omega) HI.out.2.2.2
  have HFI := Lib.hid hfi
  clear hfi
  go_wp2_with (first | refine step_load (o := ⟨some 19, _, _, _, _, _⟩) rfl rfl rfl B3.out Try.underlying24 rfl HIC.out ?_ | refine step_load (o := ⟨some 20, _, _, _, _, _⟩) rfl rfl rfl Q3.out Try.underlying33 rfl HIA0.out ?_)
  ((with_reducible refine HFI.out.mono ?_))
  rintro e w4 ⟨A4, c4, r, co, er, rfl, hac, hb, hcs⟩
  have L4 := Lib.hid (L3.out.trans (hb.mono L3.out.size))
  have B4 := Lib.hid (B3.out.below hb)
  have Q4 := Lib.hid (Q3.out.below hb)
  have G4 := Lib.hid (AccR.row hac)
  have HCS := Lib.hid hcs
  clear hb hac hcs HFI L3 B3 Q3
  have HR4 := Lib.hid (rfind17_calls n f t b m c l a p w4 HX.out HAK.out ((HAR0.out.below L4.out).akin HS.out) ((HR0.out.below L4.out).more L4.out.size) (by have := HM1.out; omega) HI.out.2.2.2)
  unfold RFnd17 at HR4
  have c0 : w4.cell? ⟨w.heap.size, 0, none⟩ = some (.int .i64 n) := B4.out.cell 0
  have c1 : w4.cell? ⟨w.heap.size, 1, none⟩ = some (.slice b m c) := B4.out.cell 1
  have c2 : w4.cell? ⟨w.heap.size, 2, none⟩ = some (.int .i64 f) := B4.out.cell 2
  have c3 : w4.cell? ⟨w.heap.size, 3, none⟩ = some (.int .i64 t) := B4.out.cell 3
  go_wp2_with (refine step_load (o := ⟨some 30, _, _, _, _, _⟩) rfl rfl rfl Q4.out Try.underlying33 rfl HIA0.out ?_)
  ((with_reducible refine HR4.out.mono ?_))
  rintro e w5 ⟨A5, c5, r5, co5, er5, rfl, hrw, hb, hcs⟩
  obtain ⟨rfl, rfl, rfl⟩ := csp17_unique HCS.out hcs
  have hln := csp17_len hcs
  have L5 := Lib.hid (L4.out.trans (hb.mono L4.out.size))
  have G5 := Lib.hid ((G4.out.below hb).more hb.size)
  have K5 := Lib.hid hrw
  clear hb hrw hcs HR4 L4 B4 Q4 G4 c0 c1 c2 c3
  have hI := sameints_calls A4 A5 r.length r.length c4 c5 _ _ r r w5 G5.out K5.out (by omega) (by omega)
  rw [decide_eq_true rfl] at hI
  have HII := Lib.hid hI
  have q0 : (co == co) = true := by simp
  have q1 : (er == er) = true := by simp
  clear hI hln
  go_wp2_with fail
  ((with_reducible refine HII.out.mono ?_))
  rintro e w6 ⟨rfl, j, rfl⟩
  have L6 := Lib.hid (bel_drewN L5.out j)
  go_wp2_with fail
  go_ret
  exact ⟨rfl, L6.out⟩
end Go.Proofs.Ytjflbfianncpfaa
