/-
  Contracts of package queue: the library's heap over a queue's items: Push and Pop. Condition: at most 2^30 items.
-/
import Derived.Test.YtnjgffhhalaknaaQueueE
namespace Go.Proofs.Ytnjgffhhalaknaa
open Go.RowKit

theorem Turn.wider {w w1 w2 : World} {p g g1 : Nat} (h1 : Turn [p, g] w w1) (h2 : Turn [p, g1] w1 w2) (hg : g1 = g ∨ w.heap.size ≤ g1) : Turn [p, g] w w2 :=
  ⟨h2.os.trans h1.os, h2.tape.trans h1.tape, h2.output.trans h1.output, Nat.le_trans h1.size h2.size, fun k hk hn => by
    have hn' : k ≠ p ∧ k ≠ g := by simpa using hn
    rw [h2.block k (Nat.lt_of_lt_of_le hk h1.size) (by simp; exact ⟨hn'.1, by omega⟩), h1.block k hk hn]⟩

/-- What the library's Push leaves. -/
def HPushPost (w : World) (base p g n : Nat) (f : Nat → Itm) (x : Itm) (e : Ending) (w' : World) : Prop :=
  e = .returned (.tuple #[]) ∧ ∃ g' c' f', Hpl w' base p g' c' (n + 1) f' ∧ Hp iLe (n + 1) f' ∧ (hls (n + 1) f').Perm (hls (n + 1) (iupd f n x)) ∧ Turn [p, g] w w' ∧ (g' = g ∨ w.heap.size ≤ g')
/-- What the library's Pop leaves. -/
def HPopPost (w : World) (base p g n : Nat) (f : Nat → Itm) (e : Ending) (w' : World) : Prop :=
  e = .returned (.iface 25 (.agg (itL (f 0)).toArray)) ∧ ∃ c' f', Hpl w' base p g c' n f' ∧ Hp iLe n f' ∧ (hls n f').Perm (hls n (hsw f 0 n)) ∧ Turn [p, g] w w'
section
variable {w w' : World} {base p g c n : Nat} {f : Nat → Itm}
theorem hpush_calls (h : Hpl w base p g c n f) (hH : Hp iLe n f) (x : Itm) (hn : n ≤ 1073741824) (hb : base ≤ w.heap.size) :
    Calls Try.prog 23 #[hpv p, .iface 25 (.agg (itL x).toArray)] w (HPushPost w base p g n f x) := by
  have HH := Lib.hid hH
  have hm := meth_push
  have hc := ipush_calls h x (by omega) hb
  unfold IPushPost at hc
  unfold hpv
  clear h hH hb
  go_enter Try.func23, Try.ntmps23
  go_wp2_with fail
  ((with_reducible refine hc.mono ?_))
  rintro e w1 ⟨rfl, g1, c1, h1, t1, l1⟩
  have H1 := Lib.hid h1
  have T1 := Lib.hid t1
  have L1 := Lib.hid l1
  clear h1 t1 l1 hc hm
  obtain ⟨m, hm⟩ : ∃ m, m = n + 1 := ⟨_, rfl⟩
  have HM := Lib.hid hm
  rw [← hm] at H1
  have x1 : (m : Int) - 1 = (n : Int) := by omega
  have hml := fun k => meth_len (w := w1) k H1.out.cell
  have hcl := fun w => ilen_calls (some ⟨g1, 0, none⟩) m c1 w
  have x2 : m ≤ 4294967296 := by omega
  clear hm
  go_wp2_with fail
  ((with_reducible refine (hcl _).mono ?_))
  rintro e w2 ⟨rfl, rfl⟩
  have hu : HUp iLe m (iupd f n x) n := by
    rw [HM.out]
    refine up_start (fun k k0 kn => ?_)
    have hpk := par_lt k0
    unfold iupd
    rw [if_neg (by omega), if_neg (by omega)]
    exact HH.out k k0 kn
  have hcu := up_calls H1.out n (by omega) hu (by omega)
  unfold UpPost at hcu
  have HCU := Lib.hid hcu
  clear hcl hml hu hcu
  unfold hpv at HCU
  go_wp2_with fail
  ((with_reducible refine HCU.out.mono ?_))
  rintro e w3 ⟨rfl, f3, h3, hp3, hs3, t3⟩
  clear x1 x2
  go_wp2
  go_end0
  rw [HM.out] at h3 hp3 hs3
  exact ⟨rfl, g1, c1, f3, h3, hp3, hs3, T1.out.wider t3 L1.out, L1.out⟩

theorem hpop_calls (h : Hpl w base p g c (n + 1) f) (hH : Hp iLe (n + 1) f) (hn : n ≤ 1073741824) :
    Calls Try.prog 22 #[hpv p] w (HPopPost w base p g n f) := by
  have HH := Lib.hid hH
  have H0 := Lib.hid h
  obtain ⟨m, hm⟩ : ∃ m, m = n + 1 := ⟨_, rfl⟩
  have HM := Lib.hid hm
  rw [← hm] at h
  have H := Lib.hid h
  have x1 : (m : Int) - 1 = (n : Int) := by omega
  have hml := fun k => meth_len (w := w) k h.cell
  have hcl := fun w => ilen_calls (some ⟨g, 0, none⟩) m c w
  have x2 : m ≤ 4294967296 := by omega
  unfold hpv
  clear hm h hH
  go_enter Try.func22, Try.ntmps22
  go_wp2_with fail
  ((with_reducible refine (hcl _).mono ?_))
  rintro e w2 ⟨rfl, rfl⟩
  clear hml hcl
  have hms := fun k => meth_swap (w := w2) k H.out.cell
  have hcs := iswap_calls H.out.row 0 n (by omega) (by omega)
  rw [show ((0 : Nat) : Int) = 0 from rfl] at hcs
  unfold SwapPost at hcs
  go_wp2_with fail
  ((with_reducible refine hcs.mono ?_))
  rintro e w3 ⟨rfl, hr, hg⟩
  have H3 := Lib.hid (H.out.swap hr hg)
  have T3 := Lib.hid (Turn.of_grown hg (S := [p, g]) (by simp))
  clear hcs hms hr hg
  have hcd := down_calls H3.out (down_start HH.out) (by omega) (by omega)
  unfold DownPost hpv at hcd
  have HCD := Lib.hid hcd
  clear hcd
  go_wp2_with fail
  ((with_reducible refine HCD.out.mono ?_))
  rintro e w4 ⟨⟨bv, rfl⟩, f4, h4, hp4, hs4, he4, t4⟩
  have e4 : f4 n = f 0 := (he4 n (Nat.le_refl _)).trans (hsw_right f 0 n)
  rw [HM.out] at h4
  have hcp := ipop_calls h4 (by omega)
  have hmp := meth_pop
  unfold IPopPost at hcp
  rw [e4] at hcp
  have K4 := Lib.hid (And.intro hp4 hs4)
  have T4 := Lib.hid (T3.out.trans t4)
  clear h4 hp4 hs4 he4 t4 e4
  go_wp2_with fail
  ((with_reducible refine hcp.mono ?_))
  rintro e w5 ⟨rfl, h5, t5⟩
  have H5 := Lib.hid h5
  have T5 := Lib.hid (T4.out.trans t5)
  clear hcp hmp h5 t5
  go_wp2
  go_ret
  exact ⟨rfl, c, f4, H5.out, K4.out.1, K4.out.2, T5.out⟩
end
end Go.Proofs.Ytnjgffhhalaknaa
