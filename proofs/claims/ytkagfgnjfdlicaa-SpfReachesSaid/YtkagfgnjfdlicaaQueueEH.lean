/-
  Contracts of package queue: the library's heap over a queue's items: down. Condition: at most 2^40 items.
  Contracts of package queue: the library's heap over a queue's items: Push and Pop. Condition: at most 2^30 items.
  Contracts of package queue: New, Push, Pop, Len. Condition: none (a queue holds at most 1024 items).
  Contracts of package queue: Pop, and all calls of a queue that New did not make. Condition: none.
-/
import Derived.Test.YtkagfgnjfdlicaaQueueAD
namespace Go.Proofs.Ytkagfgnjfdlicaa
set_option maxRecDepth 100000
open Go.RowKit

/-- What down leaves. -/
def DownPost (w : World) (base p g c N n : Nat) (f : Nat → Itm) (e : Ending) (w' : World) : Prop :=
  (∃ b : Bool, e = .returned (.bool b)) ∧ ∃ f', Hpl w' base p g c N f' ∧ Hp iLe n f' ∧ (hls n f').Perm (hls n f) ∧ (∀ k, n ≤ k → f' k = f k) ∧ Turn [p, g] w w'
section
variable {w w' : World} {base p g c N n : Nat} {f : Nat → Itm}
set_option maxHeartbeats 1600000 in
theorem down_calls (h : Hpl w base p g c N f) (hD : HDn iLe n f 0) (hnN : n ≤ N) (hn : N ≤ 1099511627776) :
    Calls Try.prog 50 #[hpv p, .int .i64 0, .int .i64 (n : Int)] w (DownPost w base p g c N n f) := by
  have H := Lib.hid h
  have HD := Lib.hid hD
  have HN := Lib.hid (And.intro hnN hn)
  unfold hpv
  clear h hD hnN hn
  go_enter Try.func50, Try.ntmps50
  go_wp2_with fail
  go_loopw [7] (fun t wr => ∃ (i : Nat) (f1 : Nat → Itm), (i < n ∨ i = 0) ∧ t = .int .i64 (i : Int) ∧ Hpl wr base p g c N f1 ∧ HDn iLe n f1 i ∧ (hls n f1).Perm (hls n f) ∧ (∀ k, n ≤ k → f1 k = f k) ∧ Turn [p, g] w wr) (fun t wr => n - (intOf t).toNat)
  case atStart => exact ⟨0, f, .inr rfl, rfl, H.out, HD.out, List.Perm.refl _, fun _ _ => rfl, Turn.refl _ _⟩
  case round =>
    obtain ⟨i, f1, hi, rfl, h1, hD1, hP1, hE1, hT1⟩ := hrel
    have H1 := Lib.hid h1
    have D1 := Lib.hid hD1
    have P1 := Lib.hid hP1
    have E1 := Lib.hid hE1
    have T1 := Lib.hid hT1
    obtain ⟨a, ha⟩ : ∃ a, a = 2 * i + 1 := ⟨_, rfl⟩
    obtain ⟨b, hb⟩ : ∃ b, b = a + 1 := ⟨_, rfl⟩
    have i40 : i < 1099511627776 := by have := HN.out; omega
    have a40 : a < 2199023255552 := by omega
    have xa : 2 * (i : Int) + 1 = (a : Int) := by omega
    have xb : (a : Int) + 1 = (b : Int) := by omega
    have HA := Lib.hid (And.intro ha hb)
    clear h1 hD1 hP1 hE1 hT1 ha hb hi
    by_cases han : n ≤ a
    · go_wp2
      go_ret
      refine ⟨⟨_, rfl⟩, f1, H1.out, down_stop D1.out (fun k k0 kn kp => ?_), P1.out, E1.out, T1.out⟩
      have h2 := HA.out
      rcases (par_iff k0).1 kp with e | e <;> omega
    · have ga : ¬ (n : Int) ≤ (a : Int) := by omega
      have han' : a < n := by omega
      have HAN := Lib.hid han'
      clear han han'
      by_cases hbn : b < n
      · have HBN := Lib.hid hbn
        have gb : (b : Int) < (n : Int) := by omega
        have hml := fun m => meth_less (w := wr) m H1.out.cell
        have hcl := iless_calls H1.out.row b a (by have := HN.out; omega) (by have := HN.out; have := HAN.out; omega)
        unfold LessPost at hcl
        clear hbn
        go_wp2_with fail
        ((with_reducible refine hcl.mono ?_))
        rintro e w2 ⟨rfl, hb⟩
        have H2 := Lib.hid (H1.out.bel hb)
        have T2 := Lib.hid (T1.out.trans (Turn.of_below hb))
        clear hcl hml hb
        by_cases hlt : iLt (f1 b) (f1 a)
        · have hd : decide (iLt (f1 b) (f1 a)) = true := by simpa using hlt
          rw [hd]
          have HL := Lib.hid hlt
          clear hlt hd
          have HJ := Lib.hid (show b < n ∧ par b = i ∧ ∀ k, 0 < k → k < n → par k = i → iLe (f1 b) (f1 k) from (by
            have h2 := HA.out
            refine ⟨HBN.out, (par_iff (by omega)).2 (by omega), fun k k0 kn kp => ?_⟩
            rcases (par_iff k0).1 kp with e | e
            · obtain rfl : k = a := by omega
              exact iLe_of_lt HL.out
            · obtain rfl : k = b := by omega
              exact iLe_refl _))
          have hml2 := fun m => meth_less (w := w2) m H2.out.cell
          have hcl2 := iless_calls H2.out.row b i (by have := HJ.out.1; have := HN.out; omega) (by have := HAN.out; have := HA.out; have := HN.out; omega)
          unfold LessPost at hcl2
          go_wp2_with fail
          ((with_reducible refine hcl2.mono ?_))
          rintro e w3 ⟨rfl, hb⟩
          have H3 := Lib.hid (H2.out.bel hb)
          have T3 := Lib.hid (T2.out.trans (Turn.of_below hb))
          clear hcl2 hml2 hb
          by_cases hlt2 : iLt (f1 b) (f1 i)
          · have hms := fun m => meth_swap (w := w3) m H3.out.cell
            have hcs := iswap_calls H3.out.row i b (by have := HAN.out; have := HA.out; have := HN.out; omega) (by have := HJ.out.1; have := HN.out; omega)
            unfold SwapPost at hcs
            have HL2 := Lib.hid hlt2
            have hd2 : decide (iLt (f1 b) (f1 i)) = true := by simpa using hlt2
            rw [hd2]
            clear hlt2 hd2
            go_wp2_with fail
            ((with_reducible refine hcs.mono ?_))
            rintro e w4 ⟨rfl, hr, hg⟩
            have H4 := Lib.hid (H3.out.swap hr hg)
            have T4 := Lib.hid (T3.out.trans (Turn.of_grown hg (S := [p, g]) (by simp)))
            clear hcs hms hr hg
            go_wp2_with fail
            go_roundw
            case rel =>
              have hin : i < n := by have := HAN.out; have := HA.out; omega
              have hj0 : 0 < b := by have := HA.out; omega
              refine ⟨b, hsw f1 i b, .inl HJ.out.1, rfl, H4.out, ?_, (hls_perm n f1 i b hin HJ.out.1).trans P1.out, fun k hk => ?_, T4.out⟩
              · exact down_step D1.out hj0 HJ.out.1 HJ.out.2.1 (iLe_of_lt HL2.out) HJ.out.2.2
              · rw [hsw_else f1 (by omega) (by have := HJ.out.1; omega)]
                exact E1.out k hk
            case measure => have := HJ.out.1; have := HA.out; simp [intOf]; omega
          · have HL2 := Lib.hid hlt2
            have hd2 : decide (iLt (f1 b) (f1 i)) = false := by simpa using hlt2
            rw [hd2]
            clear hlt2 hd2
            go_wp2
            go_ret
            refine ⟨⟨_, rfl⟩, f1, H3.out, down_stop D1.out (fun k k0 kn kp => ?_), P1.out, E1.out, T3.out⟩
            exact iLe_trans _ _ _ HL2.out (HJ.out.2.2 k k0 kn kp)
        · have hd : decide (iLt (f1 b) (f1 a)) = false := by simpa using hlt
          rw [hd]
          have HL := Lib.hid hlt
          clear hlt hd
          have HJ := Lib.hid (show a < n ∧ par a = i ∧ ∀ k, 0 < k → k < n → par k = i → iLe (f1 a) (f1 k) from (by
            have h2 := HA.out
            refine ⟨HAN.out, (par_iff (by omega)).2 (by omega), fun k k0 kn kp => ?_⟩
            rcases (par_iff k0).1 kp with e | e
            · obtain rfl : k = a := by omega
              exact iLe_refl _
            · obtain rfl : k = b := by omega
              exact HL.out))
          have hml2 := fun m => meth_less (w := w2) m H2.out.cell
          have hcl2 := iless_calls H2.out.row a i (by have := HJ.out.1; have := HN.out; omega) (by have := HAN.out; have := HA.out; have := HN.out; omega)
          unfold LessPost at hcl2
          go_wp2_with fail
          ((with_reducible refine hcl2.mono ?_))
          rintro e w3 ⟨rfl, hb⟩
          have H3 := Lib.hid (H2.out.bel hb)
          have T3 := Lib.hid (T2.out.trans (Turn.of_below hb))
          clear hcl2 hml2 hb
          by_cases hlt2 : iLt (f1 a) (f1 i)
          · have hms := fun m => meth_swap (w := w3) m H3.out.cell
            have hcs := iswap_calls H3.out.row i a (by have := HAN.out; have := HA.out; have := HN.out; omega) (by have := HJ.out.1; have := HN.out; omega)
            unfold SwapPost at hcs
            have HL2 := Lib.hid hlt2
            have hd2 : decide (iLt (f1 a) (f1 i)) = true := by simpa using hlt2
            rw [hd2]
            clear hlt2 hd2
            go_wp2_with fail
            ((with_reducible refine hcs.mono ?_))
            rintro e w4 ⟨rfl, hr, hg⟩
            have H4 := Lib.hid (H3.out.swap hr hg)
            have T4 := Lib.hid (T3.out.trans (Turn.of_grown hg (S := [p, g]) (by simp)))
            clear hcs hms hr hg
            go_wp2_with fail
            go_roundw
            case rel =>
              have hin : i < n := by have := HAN.out; have := HA.out; omega
              have hj0 : 0 < a := by have := HA.out; omega
              refine ⟨a, hsw f1 i a, .inl HJ.out.1, rfl, H4.out, ?_, (hls_perm n f1 i a hin HJ.out.1).trans P1.out, fun k hk => ?_, T4.out⟩
              · exact down_step D1.out hj0 HJ.out.1 HJ.out.2.1 (iLe_of_lt HL2.out) HJ.out.2.2
              · rw [hsw_else f1 (by omega) (by have := HJ.out.1; omega)]
                exact E1.out k hk
            case measure => have := HJ.out.1; have := HA.out; simp [intOf]; omega
          · have HL2 := Lib.hid hlt2
            have hd2 : decide (iLt (f1 a) (f1 i)) = false := by simpa using hlt2
            rw [hd2]
            clear hlt2 hd2
            go_wp2
            go_ret
            refine ⟨⟨_, rfl⟩, f1, H3.out, down_stop D1.out (fun k k0 kn kp => ?_), P1.out, E1.out, T3.out⟩
            exact iLe_trans _ _ _ HL2.out (HJ.out.2.2 k k0 kn kp)
      · have HBN := Lib.hid hbn
        have gb : ¬ (b : Int) < (n : Int) := by omega
        obtain ⟨w2, hw2⟩ : ∃ w2, w2 = wr := ⟨_, rfl⟩
        have H2 := Lib.hid (show Hpl w2 base p g c N f1 from by rw [hw2]; exact H1.out)
        have T2 := Lib.hid (show Turn [p, g] w w2 from by rw [hw2]; exact T1.out)
        subst hw2
        clear hbn
        have HJ := Lib.hid (show a < n ∧ par a = i ∧ ∀ k, 0 < k → k < n → par k = i → iLe (f1 a) (f1 k) from (by
          have h2 := HA.out
          refine ⟨HAN.out, (par_iff (by omega)).2 (by omega), fun k k0 kn kp => ?_⟩
          rcases (par_iff k0).1 kp with e | e
          · obtain rfl : k = a := by omega
            exact iLe_refl _
          · have := HBN.out
            omega))
        have hml2 := fun m => meth_less (w := w2) m H2.out.cell
        have hcl2 := iless_calls H2.out.row a i (by have := HJ.out.1; have := HN.out; omega) (by have := HAN.out; have := HA.out; have := HN.out; omega)
        unfold LessPost at hcl2
        go_wp2_with fail
        ((with_reducible refine hcl2.mono ?_))
        rintro e w3 ⟨rfl, hb⟩
        have H3 := Lib.hid (H2.out.bel hb)
        have T3 := Lib.hid (T2.out.trans (Turn.of_below hb))
        clear hcl2 hml2 hb
        by_cases hlt2 : iLt (f1 a) (f1 i)
        · have hms := fun m => meth_swap (w := w3) m H3.out.cell
          have hcs := iswap_calls H3.out.row i a (by have := HAN.out; have := HA.out; have := HN.out; omega) (by have := HJ.out.1; have := HN.out; omega)
          unfold SwapPost at hcs
          have HL2 := Lib.hid hlt2
          have hd2 : decide (iLt (f1 a) (f1 i)) = true := by simpa using hlt2
          rw [hd2]
          clear hlt2 hd2
          go_wp2_with fail
          ((with_reducible refine hcs.mono ?_))
          rintro e w4 ⟨rfl, hr, hg⟩
          have H4 := Lib.hid (H3.out.swap hr hg)
          have T4 := Lib.hid (T3.out.trans (Turn.of_grown hg (S := [p, g]) (by simp)))
          clear hcs hms hr hg
          go_wp2_with fail
          go_roundw
          case rel =>
            have hin : i < n := by have := HAN.out; have := HA.out; omega
            have hj0 : 0 < a := by have := HA.out; omega
            refine ⟨a, hsw f1 i a, .inl HJ.out.1, rfl, H4.out, ?_, (hls_perm n f1 i a hin HJ.out.1).trans P1.out, fun k hk => ?_, T4.out⟩
            · exact down_step D1.out hj0 HJ.out.1 HJ.out.2.1 (iLe_of_lt HL2.out) HJ.out.2.2
            · rw [hsw_else f1 (by omega) (by have := HJ.out.1; omega)]
              exact E1.out k hk
          case measure => have := HJ.out.1; have := HA.out; simp [intOf]; omega
        · have HL2 := Lib.hid hlt2
          have hd2 : decide (iLt (f1 a) (f1 i)) = false := by simpa using hlt2
          rw [hd2]
          clear hlt2 hd2
          go_wp2
          go_ret
          refine ⟨⟨_, rfl⟩, f1, H3.out, down_stop D1.out (fun k k0 kn kp => ?_), P1.out, E1.out, T3.out⟩
          exact iLe_trans _ _ _ HL2.out (HJ.out.2.2 k k0 kn kp)
end
end Go.Proofs.Ytkagfgnjfdlicaa

namespace Go.Proofs.Ytkagfgnjfdlicaa
set_option maxRecDepth 100000
open Go.RowKit

theorem Turn.wider {w w1 w2 : World} {p g g1 : Nat} (h1 : Turn [p, g] w w1) (h2 : Turn [p, g1] w1 w2) (hg : g1 = g ∨ w.heap.size ≤ g1) : Turn [p, g] w w2 :=
  ⟨h2.os.trans h1.os, h2.tape.trans h1.tape, h2.output.trans h1.output, Nat.le_trans h1.size h2.size, fun k hk hn => by
    have hn' : k ≠ p ∧ k ≠ g := by simpa using hn
    rw [h2.block k (Nat.lt_of_lt_of_le hk h1.size) (by simp; exact ⟨hn'.1, by omega⟩), h1.block k hk hn]⟩

/-- What the library's Push leaves. -/
def HPushPost (w : World) (base p g n : Nat) (f : Nat → Itm) (x : Itm) (e : Ending) (w' : World) : Prop :=
  e = .returned (.tuple #[]) ∧ ∃ g' c' f', Hpl w' base p g' c' (n + 1) f' ∧ Hp iLe (n + 1) f' ∧ (hls (n + 1) f').Perm (hls (n + 1) (iupd f n x)) ∧ Turn [p, g] w w' ∧ (g' = g ∨ w.heap.size ≤ g')
/-- What the library's Pop leaves. -/
def HPopPost (w : World) (base p g n : Nat) (f : Nat → Itm) (e : Ending) (w' : World) : Prop :=
  e = .returned (.iface 67 (.agg (itL (f 0)).toArray)) ∧ ∃ c' f', Hpl w' base p g c' n f' ∧ Hp iLe n f' ∧ (hls n f').Perm (hls n (hsw f 0 n)) ∧ Turn [p, g] w w'
section
variable {w w' : World} {base p g c n : Nat} {f : Nat → Itm}
theorem hpush_calls (h : Hpl w base p g c n f) (hH : Hp iLe n f) (x : Itm) (hn : n ≤ 1073741824) (hb : base ≤ w.heap.size) :
    Calls Try.prog 48 #[hpv p, .iface 67 (.agg (itL x).toArray)] w (HPushPost w base p g n f x) := by
  have HH := Lib.hid hH
  have hm := meth_push
  have hc := ipush_calls h x (by omega) hb
  unfold IPushPost at hc
  unfold hpv
  clear h hH hb
  go_enter Try.func48, Try.ntmps48
  go_wp2_with fail
  ((with_reducible refine hc.mono ?_))
  rintro e w1 ⟨rfl, g1, c1, h1, t1, l1⟩
  have H1 := Lib.hid h1
  have T1 := Lib.hid t1
  have L1 := Lib.hid l1
  clear h1 t1 l1 hc hm
  obtain ⟨m, hm⟩ : ∃ m, m = n + 1 := ⟨_, rfl⟩
  have HM := Lib.hid hm
  rw [← hm] at H1
  have x1 : (m : Int) - 1 = (n : Int) := by omega
  have hml := fun k => meth_len (w := w1) k H1.out.cell
  have hcl := fun w => ilen_calls (some ⟨g1, 0, none⟩) m c1 w
  have x2 : m ≤ 4294967296 := by omega
  clear hm
  go_wp2_with fail
  ((with_reducible refine (hcl _).mono ?_))
  rintro e w2 ⟨rfl, rfl⟩
  have hu : HUp iLe m (iupd f n x) n := by
    rw [HM.out]
    refine up_start (fun k k0 kn => ?_)
    have hpk := par_lt k0
    unfold iupd
    rw [if_neg (by omega), if_neg (by omega)]
    exact HH.out k k0 kn
  have hcu := up_calls H1.out n (by omega) hu (by omega)
  unfold UpPost at hcu
  have HCU := Lib.hid hcu
  clear hcl hml hu hcu
  unfold hpv at HCU
  go_wp2_with fail
  ((with_reducible refine HCU.out.mono ?_))
  rintro e w3 ⟨rfl, f3, h3, hp3, hs3, t3⟩
  clear x1 x2
  go_wp2
  go_end0
  rw [HM.out] at h3 hp3 hs3
  exact ⟨rfl, g1, c1, f3, h3, hp3, hs3, T1.out.wider t3 L1.out, L1.out⟩

theorem hpop_calls (h : Hpl w base p g c (n + 1) f) (hH : Hp iLe (n + 1) f) (hn : n ≤ 1073741824) :
    Calls Try.prog 42 #[hpv p] w (HPopPost w base p g n f) := by
  have HH := Lib.hid hH
  have H0 := Lib.hid h
  obtain ⟨m, hm⟩ : ∃ m, m = n + 1 := ⟨_, rfl⟩
  have HM := Lib.hid hm
  rw [← hm] at h
  have H := Lib.hid h
  have x1 : (m : Int) - 1 = (n : Int) := by omega
  have hml := fun k => meth_len (w := w) k h.cell
  have hcl := fun w => ilen_calls (some ⟨g, 0, none⟩) m c w
  have x2 : m ≤ 4294967296 := by omega
  unfold hpv
  clear hm h hH
  go_enter Try.func42, Try.ntmps42
  go_wp2_with fail
  ((with_reducible refine (hcl _).mono ?_))
  rintro e w2 ⟨rfl, rfl⟩
  clear hml hcl
  have hms := fun k => meth_swap (w := w2) k H.out.cell
  have hcs := iswap_calls H.out.row 0 n (by omega) (by omega)
  rw [show ((0 : Nat) : Int) = 0 from rfl] at hcs
  unfold SwapPost at hcs
  go_wp2_with fail
  ((with_reducible refine hcs.mono ?_))
  rintro e w3 ⟨rfl, hr, hg⟩
  have H3 := Lib.hid (H.out.swap hr hg)
  have T3 := Lib.hid (Turn.of_grown hg (S := [p, g]) (by simp))
  clear hcs hms hr hg
  have hcd := down_calls H3.out (down_start HH.out) (by omega) (by omega)
  unfold DownPost hpv at hcd
  have HCD := Lib.hid hcd
  clear hcd
  go_wp2_with fail
  ((with_reducible refine HCD.out.mono ?_))
  rintro e w4 ⟨⟨bv, rfl⟩, f4, h4, hp4, hs4, he4, t4⟩
  have e4 : f4 n = f 0 := (he4 n (Nat.le_refl _)).trans (hsw_right f 0 n)
  rw [HM.out] at h4
  have hcp := ipop_calls h4 (by omega)
  have hmp := meth_pop
  unfold IPopPost at hcp
  rw [e4] at hcp
  have K4 := Lib.hid (And.intro hp4 hs4)
  have T4 := Lib.hid (T3.out.trans t4)
  clear h4 hp4 hs4 he4 t4 e4
  go_wp2_with fail
  ((with_reducible refine hcp.mono ?_))
  rintro e w5 ⟨rfl, h5, t5⟩
  have H5 := Lib.hid h5
  have T5 := Lib.hid (T4.out.trans t5)
  clear hcp hmp h5 t5
  go_wp2
  go_ret
  exact ⟨rfl, c, f4, H5.out, K4.out.1, K4.out.2, T5.out⟩
end
end Go.Proofs.Ytkagfgnjfdlicaa

namespace Go.Proofs.Ytkagfgnjfdlicaa
set_option maxRecDepth 100000
open Go.RowKit

/-- A queue as it lies in memory, and the items that it has, in order. -/
structure Qe (w : World) (base q p g : Nat) (l : List Itm) : Prop where
  head : Blk w q 88 [.pointer (some ⟨p, 0, none⟩)]
  items : ∃ c f, Hpl w base p g c l.length f ∧ QHp l.length f l
  qp : q ≠ p
  qg : q ≠ g
  qb : base ≤ q
  small : l.length ≤ 1024
section
variable {w w' : World} {base q p g : Nat} {l : List Itm}
theorem Qe.lt (h : Qe w base q p g l) : q < w.heap.size ∧ p < w.heap.size ∧ g < w.heap.size := by
  obtain ⟨c, f, h1, _⟩ := h.items
  exact ⟨h.head.lt, h1.head.lt, h1.row.lt.2⟩
theorem Qe.lo (h : Qe w base q p g l) : base ≤ q ∧ base ≤ p ∧ base ≤ g := by
  obtain ⟨c, f, h1, _⟩ := h.items
  exact ⟨h.qb, h1.ge, h1.row.lt.1⟩
theorem Qe.bel (h : Qe w base q p g l) (hb : Below w.heap.size w w') : Qe w' base q p g l := by
  obtain ⟨c, f, h1, h2⟩ := h.items
  exact ⟨h.head.below hb, ⟨c, f, h1.bel hb, h2⟩, h.qp, h.qg, h.qb, h.small⟩
theorem Qe.drewN (h : Qe w base q p g l) (m : Nat) : Qe (w.drewN m) base q p g l := h.bel (bel_drewN (Below.refl _ _) m)

theorem new10_calls (w : World) : Calls Try.prog 38 #[] w fun e w' => ∃ q p g, e = .returned (.pointer (some ⟨q, 0, none⟩)) ∧ Below w.heap.size w w' ∧ Qe w' w.heap.size q p g [] := by
  go_enter Try.func38, Try.ntmps38
  go_wp2
  go_ret
  refine ⟨w.heap.size + 1 + 1, w.heap.size + 1, w.heap.size, rfl, bel_new (bel_new (bel_new (Below.refl _ _) _) _) _, ?_⟩
  have r1 : Irow (w.alloc (.cells #[] 67)) w.heap.size w.heap.size 0 0 (fun _ => ⟨0, 0, 0⟩) := World.ownsRow_lit w #[] 0 (Nat.le_refl _) (Nat.zero_le _) rfl
  have b1 := Blk.new (w.alloc (.cells #[] 67)) 97 [.slice (some ⟨w.heap.size, 0, none⟩) 0 0]
  have b2 := Blk.new ((w.alloc (.cells #[] 67)).alloc (.cells #[.slice (some ⟨w.heap.size, 0, none⟩) 0 0] 97)) 88 [.pointer (some ⟨w.heap.size + 1, 0, none⟩)]
  have e1 : (w.alloc (.cells #[] 67)).heap.size = w.heap.size + 1 := by simp
  have e2 : ((w.alloc (.cells #[] 67)).alloc (.cells #[.slice (some ⟨w.heap.size, 0, none⟩) 0 0] 97)).heap.size = w.heap.size + 1 + 1 := by simp
  rw [e1] at b1
  rw [e2] at b2
  exact ⟨b2, ⟨0, fun _ => ⟨0, 0, 0⟩, ⟨b1.alloc _, AccR.alloc (AccR.alloc r1 _) _, by omega, by omega⟩, qhp_nil _⟩, by omega, by omega, by omega, by simp⟩

theorem qmade_nil (w : World) : Calls Try.prog 40 #[.pointer none] w fun e w' => e = .returned (.bool false) ∧ w' = w := by
  go_enter Try.func40, Try.ntmps40
  go_wp2
  go_ret
  exact ⟨rfl, rfl⟩
theorem made_zero10 (q : Nat) (w : World) (h : w.cell? ⟨q, 0, none⟩ = some (.pointer none)) : Calls Try.prog 40 #[.pointer (some ⟨q, 0, none⟩)] w fun e w' => e = .returned (.bool false) ∧ w' = w := by
  go_enter Try.func40, Try.ntmps40
  go_wp2
  go_ret
  exact ⟨rfl, rfl⟩
theorem qmade_yes (q p : Nat) (w : World) (h : w.cell? ⟨q, 0, none⟩ = some (.pointer (some ⟨p, 0, none⟩))) : Calls Try.prog 40 #[.pointer (some ⟨q, 0, none⟩)] w fun e w' => e = .returned (.bool true) ∧ w' = w := by
  go_enter Try.func40, Try.ntmps40
  go_wp2
  go_ret
  exact ⟨rfl, rfl⟩
theorem qlen_calls (h : Qe w base q p g l) : Calls Try.prog 41 #[.pointer (some ⟨q, 0, none⟩)] w fun e w' => e = .returned (.int .i64 (l.length : Int)) ∧ w' = w := by
  obtain ⟨c, f, h1, _⟩ := h.items
  have hq : w.cell? ⟨q, 0, none⟩ = some (.pointer (some ⟨p, 0, none⟩)) := h.head.cell 0
  have hm := qmade_yes q p w hq
  have hp := h1.cell
  have hl := fun w => ilen_calls (some ⟨g, 0, none⟩) l.length c w
  generalize l.length = n at *
  go_enter Try.func41, Try.ntmps41
  go_wp2_with fail
  ((with_reducible refine hm.mono ?_))
  rintro e w1 ⟨rfl, rfl⟩
  go_wp2_with fail
  ((with_reducible refine (hl _).mono ?_))
  rintro e w2 ⟨rfl, rfl⟩
  go_wp2
  go_ret
  exact ⟨rfl, rfl⟩

theorem qhp_iupd {n : Nat} {f : Nat → Itm} (h : QHp n f l) (x : Itm) : QHp n (iupd f n x) l := by
  have e : ∀ k, k < n → iupd f n x k = f k := fun k hk => by unfold iupd; rw [if_neg (by omega)]
  refine ⟨fun k k0 kn => ?_, ?_, h.order⟩
  · have hpk := par_lt k0
    rw [e k kn, e (par k) (by omega)]
    exact h.heap k k0 kn
  · rw [hls_congr e]; exact h.same
theorem Qe.cellq (h : Qe w base q p g l) : w.cell? ⟨q, 0, none⟩ = some (.pointer (some ⟨p, 0, none⟩)) := h.head.cell 0
/-- What Push answers, and leaves. -/
def QPushPost (w : World) (base q p g : Nat) (l : List Itm) (x : Itm) (e : Ending) (w' : World) : Prop :=
  e = .returned (.int .i64 (if 1024 ≤ l.length then 7 else 0)) ∧ ∃ g', Qe w' base q p g' (if 1024 ≤ l.length then l else insQ x l) ∧ Turn [p, g] w w' ∧ (g' = g ∨ w.heap.size ≤ g')
set_option maxRecDepth 100000 in
set_option maxHeartbeats 1600000 in
theorem qpush_calls (h : Qe w base q p g l) (x : Itm) (hb : base ≤ w.heap.size) :
    Calls Try.prog 39 #[.pointer (some ⟨q, 0, none⟩), .agg (itL x).toArray] w (QPushPost w base q p g l x) := by
  have H := Lib.hid h
  have HB := Lib.hid hb
  have HX := Lib.hid (show (Value.agg (itL x).toArray) = .agg #[.int .i64 x.cost, .int .i64 x.hops, .int .i64 x.node] from rfl)
  rw [HX.out]
  have hm := fun w h => qmade_yes q p w h
  have HM := Lib.hid hm
  have hsm := h.small
  clear h hb hm
  go_enter Try.func39, Try.ntmps39
  go_wp2_with fail
  have h1 := H.out.bel (bel_new (Below.refl _ _) (.cells #[.int .i64 x.cost, .int .i64 x.hops, .int .i64 x.node] 67))
  have b1 := Blk.new w 67 [.int .i64 x.cost, .int .i64 x.hops, .int .i64 x.node]
  have t1 : Turn [p, g] w (w.alloc (.cells #[.int .i64 x.cost, .int .i64 x.hops, .int .i64 x.node] 67)) := Turn.of_below (bel_new (Below.refl _ _) _)
  generalize w.alloc (.cells #[.int .i64 x.cost, .int .i64 x.hops, .int .i64 x.node] 67) = w1 at *
  have H1 := Lib.hid h1
  have B1 := Lib.hid b1
  have T1 := Lib.hid t1
  clear h1 b1 t1
  have hmm := HM.out w1 H1.out.cellq
  ((with_reducible refine hmm.mono ?_))
  rintro e w2 ⟨rfl, rfl⟩
  clear hmm
  have hl := qlen_calls H1.out
  go_wp2_with fail
  ((with_reducible refine hl.mono ?_))
  rintro e w2 ⟨rfl, rfl⟩
  clear hl
  by_cases hf : 1024 ≤ l.length
  · have gb : (1024 : Int) ≤ (l.length : Int) := by omega
    have HF := Lib.hid hf
    clear hf hsm
    generalize hn : l.length = n at gb ⊢
    have HL := Lib.hid hn
    clear hn
    go_wp2
    go_ret
    unfold QPushPost
    rw [if_pos HF.out]
    exact ⟨rfl, g, by rw [if_pos HF.out]; exact H1.out, T1.out, .inl rfl⟩
  · have gb : ¬ (1024 : Int) ≤ (l.length : Int) := by omega
    have HF := Lib.hid hf
    clear hf hsm
    generalize hn : l.length = n at gb ⊢
    have HL := Lib.hid hn
    clear hn
    go_wp2_with fail
    refine region_seq (fun W => Blk W q 88 [.pointer (some ⟨p, 0, none⟩)] ∧ Blk W w.heap.size 67 [.int .i64 x.cost, .int .i64 x.hops, .int .i64 x.node]) [(0, true), (1, true), (2, true), (3, true), (5, true), (4, true), (6, true), (7, false)]
      (by kernel_rfl) (by kernel_rfl) (by kernel_rfl) (by kernel_rfl) (fun _ _ _ _ _ h => h) ⟨H1.out.head, B1.out⟩ ?_
    repeat
      refine seq_pure (v := ?_) rfl (by rfl) (fun W hW => ?_) ?_
      rotate_left
      · have t0 : W.cell? ⟨q, 0, none⟩ = some (.pointer (some ⟨p, 0, none⟩)) := hW.1.cell 0
        have s0 : W.cell? ⟨w.heap.size, 0, none⟩ = some (.int .i64 x.cost) := hW.2.cell 0
        have s1 : W.cell? ⟨w.heap.size, 1, none⟩ = some (.int .i64 x.hops) := hW.2.cell 1
        have s2 : W.cell? ⟨w.heap.size, 2, none⟩ = some (.int .i64 x.node) := hW.2.cell 2
        clear hW
        go_simp
        try with_reducible rfl
      simp only [Act.put, List.setIfInBounds_toArray, List.set_cons_zero, List.set_cons_succ]
    refine seq_make rfl (by rfl) (fun K hK => ?_)
    go_simp
    obtain ⟨c, f, hi, hq⟩ := H1.out.items
    rw [HL.out] at hi hq
    have hcp := hpush_calls hi.drew hq.heap x (by have := HL.out; have := HF.out; omega) (show base ≤ w2.drew.heap.size from Nat.le_trans HB.out T1.out.size)
    rw [HX.out] at hcp
    unfold hpv HPushPost at hcp
    ((with_reducible refine hcp.mono ?_))
    rintro e w3 ⟨rfl, g3, c3, f3, h3, hp3, hs3, t3, l3⟩
    have q3 : Qe w3 base q p g3 (insQ x l) := by
      have hlt := H1.out.lt
      refine ⟨H1.out.head.same (t3.block q hlt.1 (by simp; exact ⟨H1.out.qp, H1.out.qg⟩)), ⟨c3, f3, ?_⟩, H1.out.qp, ?_, H1.out.qb, ?_⟩
      · rw [insQ_length, HL.out]
        exact ⟨h3, (qhp_iupd hq x).push (by simp [iupd]) hp3 hs3⟩
      · have h5 : w2.drew.heap.size = w2.heap.size := rfl
        have := H1.out.qg
        omega
      · rw [insQ_length]
        have := HF.out
        omega
    have Q3 := Lib.hid q3
    have T3 := Lib.hid (T1.out.trans (show Turn [p, g] w2 w3 from ⟨t3.os, t3.tape, t3.output, t3.size, t3.block⟩))
    have L3 := Lib.hid (show g3 = g ∨ w.heap.size ≤ g3 by
      have h5 : w2.drew.heap.size = w2.heap.size := rfl
      have := T1.out.size
      omega)
    have b3 : Blk w3 w.heap.size 67 [.int .i64 x.cost, .int .i64 x.hops, .int .i64 x.node] := B1.out.same (t3.block _ B1.out.lt (by have h6 := H.out.lt; simp; omega))
    have B3 := Lib.hid b3
    clear hcp hi hq h3 hp3 hs3 t3 l3 q3 b3
    go_simp
    refine hK _ _ (fun W => Blk W q 88 [.pointer (some ⟨p, 0, none⟩)] ∧ Blk W w.heap.size 67 [.int .i64 x.cost, .int .i64 x.hops, .int .i64 x.node]) (fun W h => h) ⟨Q3.out.head, B3.out⟩ ?_
    clear hK K
    refine seq_done ?_
    go_wp2
    go_ret
    unfold QPushPost
    rw [if_neg HF.out]
    exact ⟨rfl, g3, by rw [if_neg HF.out]; exact Q3.out, T3.out, L3.out⟩
end
end Go.Proofs.Ytkagfgnjfdlicaa

namespace Go.Proofs.Ytkagfgnjfdlicaa
set_option maxRecDepth 100000
open Go.RowKit

/-- What is popped, and the error. -/
def hdQ (l : List Itm) : Itm := l.headD ⟨0, 0, 0⟩
def erQ (l : List Itm) : Int := if l = [] then 8 else 0
/-- What Pop answers, and leaves. -/
def QPopPost (w : World) (base q p g : Nat) (l : List Itm) (e : Ending) (w' : World) : Prop :=
  e = .returned (.tuple #[.agg (itL (hdQ l)).toArray, .int .i64 (erQ l)]) ∧ Qe w' base q p g l.tail ∧ Turn [p, g] w w'
section
variable {w w' : World} {base q p g : Nat} {l : List Itm}
theorem Qe.other (h : Qe w base q p g l) {r : Nat} (hg : w.grownBy w' (some r)) (h1 : q ≠ r) (h2 : p ≠ r) (h3 : g ≠ r) : Qe w' base q p g l := by
  obtain ⟨c, f, i1, i2⟩ := h.items
  refine ⟨h.head.same (hg.block q h.lt.1 (by simp; exact h1)), ⟨c, f, ⟨i1.head.same (hg.block p h.lt.2.1 (by simp; exact h2)), AccR.kept i1.row hg (fun y hy e => h3 (by simp [blk] at hy; injection e with e; omega)), i1.ge, i1.ne⟩, i2⟩, h.qp, h.qg, h.qb, h.small⟩
theorem put3 {w : World} {q : Nat} {T : TypeId} {u0 u1 u2 : Value} (h : Blk w q T [u0, u1, u2]) (v0 v1 v2 : Value) : Blk (((w.setCell ⟨q, 0, none⟩ v0).setCell ⟨q, 1, none⟩ v1).setCell ⟨q, 2, none⟩ v2) q T [v0, v1, v2] ∧ w.grownBy (((w.setCell ⟨q, 0, none⟩ v0).setCell ⟨q, 1, none⟩ v1).setCell ⟨q, 2, none⟩ v2) (some q) := by
  have g : ∀ (w : World) (i : Nat) (v : Value), w.grownBy (w.setCell ⟨q, i, none⟩ v) (some q) := fun w i v => ⟨rfl, rfl, rfl, by simp, fun k _ hk => heap_setCell_other w ⟨q, i, none⟩ k _ (fun e => hk (by simp [e]))⟩
  exact ⟨((h.set 0 v0).set 1 v1).set 2 v2, ((g _ _ _).trans (g _ _ _)).trans (g _ _ _)⟩
theorem turn_new {S : List Nat} {w w3 w4 : World} {r : Nat} (h : Turn S w w3) (hg : w3.grownBy w4 (some r)) (hr : w.heap.size ≤ r) : Turn S w w4 :=
  ⟨hg.os.trans h.os, hg.tape.trans h.tape, hg.output.trans h.output, Nat.le_trans h.size hg.size, fun k hk hn => (hg.block k (Nat.lt_of_lt_of_le hk h.size) (by simp; omega)).trans (h.block k hk hn)⟩
set_option maxRecDepth 100000 in
set_option maxHeartbeats 1600000 in
theorem qpop_calls (h : Qe w base q p g l) :
    Calls Try.prog 27 #[.pointer (some ⟨q, 0, none⟩)] w (QPopPost w base q p g l) := by
  have H := Lib.hid h
  have hm := fun w h => qmade_yes q p w h
  have HM := Lib.hid hm
  have ta := run_typeAssert_item
  have TA := Lib.hid ta
  clear h hm ta
  go_enter Try.func27, Try.ntmps27
  go_wp2_with fail
  have h1 := H.out.bel (bel_new (Below.refl _ _) (.cells #[.int .i64 0, .int .i64 0, .int .i64 0] 67))
  have b1 := Blk.new w 67 [.int .i64 0, .int .i64 0, .int .i64 0]
  have t1 : Turn [p, g] w (w.alloc (.cells #[.int .i64 0, .int .i64 0, .int .i64 0] 67)) := Turn.of_below (bel_new (Below.refl _ _) _)
  generalize w.alloc (.cells #[.int .i64 0, .int .i64 0, .int .i64 0] 67) = w1 at *
  have H1 := Lib.hid h1
  have B1 := Lib.hid b1
  have T1 := Lib.hid t1
  clear h1 b1 t1
  have hmm := HM.out w1 H1.out.cellq
  ((with_reducible refine hmm.mono ?_))
  rintro e w2 ⟨rfl, rfl⟩
  clear hmm
  have hl := qlen_calls H1.out
  go_wp2_with fail
  ((with_reducible refine hl.mono ?_))
  rintro e w2 ⟨rfl, rfl⟩
  clear hl
  have n1 : q ≠ w.heap.size ∧ p ≠ w.heap.size ∧ g ≠ w.heap.size := by have := H.out.lt; omega
  have N1 := Lib.hid n1
  clear n1
  cases l with
  | nil =>
    have f0 := B1.out.free 0
    have f1 := B1.out.free 1
    have f2 := B1.out.free 2
    have c0 : w2.cell? ⟨w.heap.size, 0, none⟩ = some (.int .i64 0) := B1.out.cell 0
    have c1 : w2.cell? ⟨w.heap.size, 1, none⟩ = some (.int .i64 0) := B1.out.cell 1
    have c2 : w2.cell? ⟨w.heap.size, 2, none⟩ = some (.int .i64 0) := B1.out.cell 2
    go_wp2_with fail
    have hp := put3 B1.out (.int .i64 0) (.int .i64 0) (.int .i64 0)
    generalize ((w2.setCell ⟨w.heap.size, 0, none⟩ (.int .i64 0)).setCell ⟨w.heap.size, 1, none⟩ (.int .i64 0)).setCell ⟨w.heap.size, 2, none⟩ (.int .i64 0) = w4 at *
    obtain ⟨hb4, hg4⟩ := hp
    have Q4 := Lib.hid (H1.out.other hg4 N1.out.1 N1.out.2.1 N1.out.2.2)
    have T4 := Lib.hid (turn_new T1.out hg4 (Nat.le_refl _))
    have B4 := Lib.hid hb4
    clear hb4 hg4
    refine bodyPost_ret (v := .tuple #[.agg (itL ⟨0, 0, 0⟩).toArray, .int .i64 8]) (results_two8 rfl _ rfl B4.out Try.underlying67 rfl infoItem rfl) rfl ?_
    exact ⟨rfl, Q4.out, T4.out⟩
  | cons a r =>
    obtain ⟨m, hm⟩ : ∃ m, m = (a :: r).length := ⟨_, rfl⟩
    have gb : ¬ (m : Int) = 0 := by rw [hm]; simp; omega
    rw [← hm]
    have HL := Lib.hid hm
    have ta := TA.out
    have hq0 := H1.out.cellq
    obtain ⟨c, f, hi, hq⟩ := H1.out.items
    have hh : (a :: r).length = r.length + 1 := rfl
    rw [hh] at hi hq
    have hcp := hpop_calls hi hq.heap (by have := H1.out.small; rw [hh] at this; omega)
    unfold hpv HPopPost at hcp
    have HCP := Lib.hid hcp
    have HQ := Lib.hid hq
    clear hm hcp hi hq hh
    go_wp2_with fail
    ((with_reducible refine HCP.out.mono ?_))
    rintro e w3 ⟨rfl, c3, f3, h3, hp3, hs3, t3⟩
    have q3 : Qe w3 base q p g r := by
      have hlt := H1.out.lt
      exact ⟨H1.out.head.same (t3.block q hlt.1 (by simp; exact ⟨H1.out.qp, H1.out.qg⟩)), ⟨c3, f3, h3, HQ.out.pop hp3 hs3⟩, H1.out.qp, H1.out.qg, H1.out.qb, by have := H1.out.small; simp at this; omega⟩
    have b3 : Blk w3 w.heap.size 67 [.int .i64 0, .int .i64 0, .int .i64 0] := B1.out.same (t3.block _ B1.out.lt (by have h6 := N1.out; simp; omega))
    have Q3 := Lib.hid q3
    have B3 := Lib.hid b3
    have T3 := Lib.hid (T1.out.trans t3)
    have E3 := Lib.hid HQ.out.head
    have ea : (Value.agg (itL (f 0)).toArray) = .agg #[.int .i64 a.cost, .int .i64 a.hops, .int .i64 a.node] := by rw [E3.out]; rfl
    rw [ea]
    clear ea
    clear h3 hp3 hs3 t3 q3 b3 hq0
    have f0 := B3.out.free 0
    have f1 := B3.out.free 1
    have f2 := B3.out.free 2
    have c0 : w3.cell? ⟨w.heap.size, 0, none⟩ = some (.int .i64 0) := B3.out.cell 0
    have c1 : w3.cell? ⟨w.heap.size, 1, none⟩ = some (.int .i64 0) := B3.out.cell 1
    have c2 : w3.cell? ⟨w.heap.size, 2, none⟩ = some (.int .i64 0) := B3.out.cell 2
    go_wp2_with fail
    have hp := put3 B3.out (.int .i64 a.cost) (.int .i64 a.hops) (.int .i64 a.node)
    generalize ((w3.setCell ⟨w.heap.size, 0, none⟩ (.int .i64 a.cost)).setCell ⟨w.heap.size, 1, none⟩ (.int .i64 a.hops)).setCell ⟨w.heap.size, 2, none⟩ (.int .i64 a.node) = w4 at *
    obtain ⟨hb4, hg4⟩ := hp
    have Q4 := Lib.hid (Q3.out.other hg4 N1.out.1 N1.out.2.1 N1.out.2.2)
    have T4 := Lib.hid (turn_new T3.out hg4 (Nat.le_refl _))
    have B4 := Lib.hid hb4
    clear hb4 hg4
    refine bodyPost_ret (v := .tuple #[.agg (itL a).toArray, .int .i64 0]) (results_two8 rfl _ rfl B4.out Try.underlying67 rfl infoItem rfl) rfl ?_
    exact ⟨rfl, Q4.out, T4.out⟩
end
end Go.Proofs.Ytkagfgnjfdlicaa
