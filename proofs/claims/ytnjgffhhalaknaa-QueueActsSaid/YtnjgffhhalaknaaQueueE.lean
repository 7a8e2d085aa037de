/-
  Contracts of package queue: the library's heap over a queue's items: down. Condition: at most 2^40 items.
-/
import Derived.Test.YtnjgffhhalaknaaQueueD
namespace Go.Proofs.Ytnjgffhhalaknaa
open Go.RowKit

/-- What down leaves. -/
def DownPost (w : World) (base p g c N n : Nat) (f : Nat → Itm) (e : Ending) (w' : World) : Prop :=
  (∃ b : Bool, e = .returned (.bool b)) ∧ ∃ f', Hpl w' base p g c N f' ∧ Hp iLe n f' ∧ (hls n f').Perm (hls n f) ∧ (∀ k, n ≤ k → f' k = f k) ∧ Turn [p, g] w w'
section
variable {w w' : World} {base p g c N n : Nat} {f : Nat → Itm}
set_option maxHeartbeats 1600000 in
theorem down_calls (h : Hpl w base p g c N f) (hD : HDn iLe n f 0) (hnN : n ≤ N) (hn : N ≤ 1099511627776) :
    Calls Try.prog 26 #[hpv p, .int .i64 0, .int .i64 (n : Int)] w (DownPost w base p g c N n f) := by
  have H := Lib.hid h
  have HD := Lib.hid hD
  have HN := Lib.hid (And.intro hnN hn)
  unfold hpv
  clear h hD hnN hn
  go_enter Try.func26, Try.ntmps26
  go_wp2_with fail
  go_loopw [7] (fun t wr => ∃ (i : Nat) (f1 : Nat → Itm), (i < n ∨ i = 0) ∧ t = .int .i64 (i : Int) ∧ Hpl wr base p g c N f1 ∧ HDn iLe n f1 i ∧ (hls n f1).Perm (hls n f) ∧ (∀ k, n ≤ k → f1 k = f k) ∧ Turn [p, g] w wr) (fun t wr => n - (intOf t).toNat)
  case atStart => exact ⟨0, f, .inr rfl, rfl, H.out, HD.out, List.Perm.refl _, fun _ _ => rfl, Turn.refl _ _⟩
  case round =>
    obtain ⟨i, f1, hi, rfl, h1, hD1, hP1, hE1, hT1⟩ := hrel
    have H1 := Lib.hid h1
    have D1 := Lib.hid hD1
    have P1 := Lib.hid hP1
    have E1 := Lib.hid hE1
    have T1 := Lib.hid hT1
    obtain ⟨a, ha⟩ : ∃ a, a = 2 * i + 1 := ⟨_, rfl⟩
    obtain ⟨b, hb⟩ : ∃ b, b = a + 1 := ⟨_, rfl⟩
    have i40 : i < 1099511627776 := by have := HN.out; omega
    have a40 : a < 2199023255552 := by omega
    have xa : 2 * (i : Int) + 1 = (a : Int) := by omega
    have xb : (a : Int) + 1 = (b : Int) := by omega
    have HA := Lib.hid (And.intro ha hb)
    clear h1 hD1 hP1 hE1 hT1 ha hb hi
    by_cases han : n ≤ a
    · go_wp2
      go_ret
      refine ⟨⟨_, rfl⟩, f1, H1.out, down_stop D1.out (fun k k0 kn kp => ?_), P1.out, E1.out, T1.out⟩
      have h2 := HA.out
      rcases (par_iff k0).1 kp with e | e <;> omega
    · have ga : ¬ (n : Int) ≤ (a : Int) := by omega
      have han' : a < n := by omega
      have HAN := Lib.hid han'
      clear han han'
      by_cases hbn : b < n
      · have HBN := Lib.hid hbn
        have gb : (b : Int) < (n : Int) := by omega
        have hml := fun m => meth_less (w := wr) m H1.out.cell
        have hcl := iless_calls H1.out.row b a (by have := HN.out; omega) (by have := HN.out; have := HAN.out; omega)
        unfold LessPost at hcl
        clear hbn
        go_wp2_with fail
        ((with_reducible refine hcl.mono ?_))
        rintro e w2 ⟨rfl, hb⟩
        have H2 := Lib.hid (H1.out.bel hb)
        have T2 := Lib.hid (T1.out.trans (Turn.of_below hb))
        clear hcl hml hb
        by_cases hlt : iLt (f1 b) (f1 a)
        · have hd : decide (iLt (f1 b) (f1 a)) = true := by simpa using hlt
          rw [hd]
          have HL := Lib.hid hlt
          clear hlt hd
          have HJ := Lib.hid (show b < n ∧ par b = i ∧ ∀ k, 0 < k → k < n → par k = i → iLe (f1 b) (f1 k) from (by
            have h2 := HA.out
            refine ⟨HBN.out, (par_iff (by omega)).2 (by omega), fun k k0 kn kp => ?_⟩
            rcases (par_iff k0).1 kp with e | e
            · obtain rfl : k = a := by omega
              exact iLe_of_lt HL.out
            · obtain rfl : k = b := by omega
              exact iLe_refl _))
          have hml2 := fun m => meth_less (w := w2) m H2.out.cell
          have hcl2 := iless_calls H2.out.row b i (by have := HJ.out.1; have := HN.out; omega) (by have := HAN.out; have := HA.out; have := HN.out; omega)
          unfold LessPost at hcl2
          go_wp2_with fail
          ((with_reducible refine hcl2.mono ?_))
          rintro e w3 ⟨rfl, hb⟩
          have H3 := Lib.hid (H2.out.bel hb)
          have T3 := Lib.hid (T2.out.trans (Turn.of_below hb))
          clear hcl2 hml2 hb
          by_cases hlt2 : iLt (f1 b) (f1 i)
          · have hms := fun m => meth_swap (w := w3) m H3.out.cell
            have hcs := iswap_calls H3.out.row i b (by have := HAN.out; have := HA.out; have := HN.out; omega) (by have := HJ.out.1; have := HN.out; omega)
            unfold SwapPost at hcs
            have HL2 := Lib.hid hlt2
            have hd2 : decide (iLt (f1 b) (f1 i)) = true := by simpa using hlt2
            rw [hd2]
            clear hlt2 hd2
            go_wp2_with fail
            ((with_reducible refine hcs.mono ?_))
            rintro e w4 ⟨rfl, hr, hg⟩
            have H4 := Lib.hid (H3.out.swap hr hg)
            have T4 := Lib.hid (T3.out.trans (Turn.of_grown hg (S := [p, g]) (by simp)))
            clear hcs hms hr hg
            go_wp2_with fail
            go_roundw
            case rel =>
              have hin : i < n := by have := HAN.out; have := HA.out; omega
              have hj0 : 0 < b := by have := HA.out; omega
              refine ⟨b, hsw f1 i b, .inl HJ.out.1, rfl, H4.out, ?_, (hls_perm n f1 i b hin HJ.out.1).trans P1.out, fun k hk => ?_, T4.out⟩
              · exact down_step D1.out hj0 HJ.out.1 HJ.out.2.1 (iLe_of_lt HL2.out) HJ.out.2.2
              · rw [hsw_else f1 (by omega) (by have := HJ.out.1; omega)]
                exact E1.out k hk
            case measure => have := HJ.out.1; have := HA.out; simp [intOf]; omega
          · have HL2 := Lib.hid hlt2
            have hd2 : decide (iLt (f1 b) (f1 i)) = false := by simpa using hlt2
            rw [hd2]
            clear hlt2 hd2
            go_wp2
            go_ret
            refine ⟨⟨_, rfl⟩, f1, H3.out, down_stop D1.out (fun k k0 kn kp => ?_), P1.out, E1.out, T3.out⟩
            exact iLe_trans _ _ _ HL2.out (HJ.out.2.2 k k0 kn kp)
        · have hd : decide (iLt (f1 b) (f1 a)) = false := by simpa using hlt
          rw [hd]
          have HL := Lib.hid hlt
          clear hlt hd
          have HJ := Lib.hid (show a < n ∧ par a = i ∧ ∀ k, 0 < k → k < n → par k = i → iLe (f1 a) (f1 k) from (by
            have h2 := HA.out
            refine ⟨HAN.out, (par_iff (by omega)).2 (by omega), fun k k0 kn kp => ?_⟩
            rcases (par_iff k0).1 kp with e | e
            · obtain rfl : k = a := by omega
              exact iLe_refl _
            · obtain rfl : k = b := by omega
              exact HL.out))
          have hml2 := fun m => meth_less (w := w2) m H2.out.cell
          have hcl2 := iless_calls H2.out.row a i (by have := HJ.out.1; have := HN.out; omega) (by have := HAN.out; have := HA.out; have := HN.out; omega)
          unfold LessPost at hcl2
          go_wp2_with fail
          ((with_reducible refine hcl2.mono ?_))
          rintro e w3 ⟨rfl, hb⟩
          have H3 := Lib.hid (H2.out.bel hb)
          have T3 := Lib.hid (T2.out.trans (Turn.of_below hb))
          clear hcl2 hml2 hb
          by_cases hlt2 : iLt (f1 a) (f1 i)
          · have hms := fun m => meth_swap (w := w3) m H3.out.cell
            have hcs := iswap_calls H3.out.row i a (by have := HAN.out; have := HA.out; have := HN.out; omega) (by have := HJ.out.1; have := HN.out; omega)
            unfold SwapPost at hcs
            have HL2 := Lib.hid hlt2
            have hd2 : decide (iLt (f1 a) (f1 i)) = true := by simpa using hlt2
            rw [hd2]
            clear hlt2 hd2
            go_wp2_with fail
            ((with_reducible refine hcs.mono ?_))
            rintro e w4 ⟨rfl, hr, hg⟩
            have H4 := Lib.hid (H3.out.swap hr hg)
            have T4 := Lib.hid (T3.out.trans (Turn.of_grown hg (S := [p, g]) (by simp)))
            clear hcs hms hr hg
            go_wp2_with fail
            go_roundw
            case rel =>
              have hin : i < n := by have := HAN.out; have := HA.out; omega
              have hj0 : 0 < a := by have := HA.out; omega
              refine ⟨a, hsw f1 i a, .inl HJ.out.1, rfl, H4.out, ?_, (hls_perm n f1 i a hin HJ.out.1).trans P1.out, fun k hk => ?_, T4.out⟩
              · exact down_step D1.out hj0 HJ.out.1 HJ.out.2.1 (iLe_of_lt HL2.out) HJ.out.2.2
              · rw [hsw_else f1 (by omega) (by have := HJ.out.1; omega)]
                exact E1.out k hk
            case measure => have := HJ.out.1; have := HA.out; simp [intOf]; omega
          · have HL2 := Lib.hid hlt2
            have hd2 : decide (iLt (f1 a) (f1 i)) = false := by simpa using hlt2
            rw [hd2]
            clear hlt2 hd2
            go_wp2
            go_ret
            refine ⟨⟨_, rfl⟩, f1, H3.out, down_stop D1.out (fun k k0 kn kp => ?_), P1.out, E1.out, T3.out⟩
            exact iLe_trans _ _ _ HL2.out (HJ.out.2.2 k k0 kn kp)
      · have HBN := Lib.hid hbn
        have gb : ¬ (b : Int) < (n : Int) := by omega
        obtain ⟨w2, hw2⟩ : ∃ w2, w2 = wr := ⟨_, rfl⟩
        have H2 := Lib.hid (show Hpl w2 base p g c N f1 from by rw [hw2]; exact H1.out)
        have T2 := Lib.hid (show Turn [p, g] w w2 from by rw [hw2]; exact T1.out)
        subst hw2
        clear hbn
        have HJ := Lib.hid (show a < n ∧ par a = i ∧ ∀ k, 0 < k → k < n → par k = i → iLe (f1 a) (f1 k) from (by
          have h2 := HA.out
          refine ⟨HAN.out, (par_iff (by omega)).2 (by omega), fun k k0 kn kp => ?_⟩
          rcases (par_iff k0).1 kp with e | e
          · obtain rfl : k = a := by omega
            exact iLe_refl _
          · have := HBN.out
            omega))
        have hml2 := fun m => meth_less (w := w2) m H2.out.cell
        have hcl2 := iless_calls H2.out.row a i (by have := HJ.out.1; have := HN.out; omega) (by have := HAN.out; have := HA.out; have := HN.out; omega)
        unfold LessPost at hcl2
        go_wp2_with fail
        ((with_reducible refine hcl2.mono ?_))
        rintro e w3 ⟨rfl, hb⟩
        have H3 := Lib.hid (H2.out.bel hb)
        have T3 := Lib.hid (T2.out.trans (Turn.of_below hb))
        clear hcl2 hml2 hb
        by_cases hlt2 : iLt (f1 a) (f1 i)
        · have hms := fun m => meth_swap (w := w3) m H3.out.cell
          have hcs := iswap_calls H3.out.row i a (by have := HAN.out; have := HA.out; have := HN.out; omega) (by have := HJ.out.1; have := HN.out; omega)
          unfold SwapPost at hcs
          have HL2 := Lib.hid hlt2
          have hd2 : decide (iLt (f1 a) (f1 i)) = true := by simpa using hlt2
          rw [hd2]
          clear hlt2 hd2
          go_wp2_with fail
          ((with_reducible refine hcs.mono ?_))
          rintro e w4 ⟨rfl, hr, hg⟩
          have H4 := Lib.hid (H3.out.swap hr hg)
          have T4 := Lib.hid (T3.out.trans (Turn.of_grown hg (S := [p, g]) (by simp)))
          clear hcs hms hr hg
          go_wp2_with fail
          go_roundw
          case rel =>
            have hin : i < n := by have := HAN.out; have := HA.out; omega
            have hj0 : 0 < a := by have := HA.out; omega
            refine ⟨a, hsw f1 i a, .inl HJ.out.1, rfl, H4.out, ?_, (hls_perm n f1 i a hin HJ.out.1).trans P1.out, fun k hk => ?_, T4.out⟩
            · exact down_step D1.out hj0 HJ.out.1 HJ.out.2.1 (iLe_of_lt HL2.out) HJ.out.2.2
            · rw [hsw_else f1 (by omega) (by have := HJ.out.1; omega)]
              exact E1.out k hk
          case measure => have := HJ.out.1; have := HA.out; simp [intOf]; omega
        · have HL2 := Lib.hid hlt2
          have hd2 : decide (iLt (f1 a) (f1 i)) = false := by simpa using hlt2
          rw [hd2]
          clear hlt2 hd2
          go_wp2
          go_ret
          refine ⟨⟨_, rfl⟩, f1, H3.out, down_stop D1.out (fun k k0 kn kp => ?_), P1.out, E1.out, T3.out⟩
          exact iLe_trans _ _ _ HL2.out (HJ.out.2.2 k k0 kn kp)
end
end Go.Proofs.Ytnjgffhhalaknaa
