/-
  The library's stable sort of whole numbers by a function, its parts: ranges that change places, and a rotation. Condition: at most 2^40 numbers, in memory that the call itself made.
-/
import Derived.Test.YtpgbfjeejkeibaaGrS
import Derived.Test.YtpgbfjeejkeibaaInts
import Derived.Test.YtpgbfjeejkeibaaSeq
import Derived.LoopN
import Derived.Shelf.Abstract
import Derived.Laws.EntriesVeiled
namespace Go.Proofs.Ytpgbfjeejkeibaa
open Go.RowKit

/-- A row of whole numbers in a block, by its places. -/
def Arr (w : World) (base g c n : Nat) (f : Nat → Int) : Prop := AccI w base (some ⟨g, 0, none⟩) c (lst n f)
section
variable {w : World} {base g c n : Nat} {f : Nat → Int}
theorem Arr.cell (h : Arr w base g c n f) (i : Nat) (hi : i < n) : w.cell? ⟨g, i, none⟩ = some (.int .i64 (f i)) := by
  have := World.ownsRow.cellAt h i (by rw [lst_length]; omega)
  rw [this, ei_flat, List.getElem?_map, lst_get _ _ _ hi]; rfl
theorem Arr.free (h : Arr w base g c n f) (i : Nat) : w.frozen? ⟨g, i, none⟩ = false := World.ownsRow.frozenAt h i
theorem Arr.set (h : Arr w base g c n f) (i : Nat) (x : Int) : Arr (w.setCell ⟨g, i, none⟩ (.int .i64 x)) base g c n (upd f i x) ∧ w.grownBy (w.setCell ⟨g, i, none⟩ (.int .i64 x)) (some g) := by
  have := World.ownsRow.stored h i (.int .i64 x)
  refine ⟨?_, this.2⟩
  have t1 := this.1
  unfold Arr AccI AccR
  rw [ei_flat] at t1
  rw [ei_flat, ← lst_set, List.length_set, List.map_set]
  exact t1
theorem Arr.swap (h : Arr w base g c n f) (p q : Nat) : Arr ((w.setCell ⟨g, p, none⟩ (.int .i64 (f q))).setCell ⟨g, q, none⟩ (.int .i64 (f p))) base g c n (swp f p q) ∧ w.grownBy ((w.setCell ⟨g, p, none⟩ (.int .i64 (f q))).setCell ⟨g, q, none⟩ (.int .i64 (f p))) (some g) := by
  have h1 := h.set p (f q)
  have h2 := h1.1.set q (f p)
  exact ⟨h2.1, h1.2.trans h2.2⟩
theorem Arr.lt (h : Arr w base g c n f) : g < w.heap.size := (AccR.ge h rfl).2
theorem Arr.drewN (h : Arr w base g c n f) (m : Nat) : Arr (w.drewN m) base g c n f := h
end

theorem gb_drew {w w' : World} {r : Option Nat} (h : w.grownBy w' r) : w.grownBy w'.drew r := ⟨h.os, h.tape, h.output, h.size, h.block⟩

def SwPost (w : World) (base g c n a b k : Nat) (f : Nat → Int) (e : Ending) (w' : World) : Prop :=
  e = .returned (.tuple #[]) ∧ ∃ f', Arr w' base g c n f' ∧ Swr a b k f f' ∧ w.grownBy w' (some g)

set_option maxHeartbeats 1600000 in
theorem swr_calls (base g c n a b k : Nat) (f : Nat → Int) (F : Value) (w : World) (h : Arr w base g c n f) (hab : a + k ≤ b) (hb : b + k ≤ n) (hn : n ≤ 1099511627776) :
    Calls Try.prog 64 #[.slice (some ⟨g, 0, none⟩) n c, .int .i64 (a : Int), .int .i64 (b : Int), .int .i64 (k : Int), F] w (SwPost w base g c n a b k f) := by
  have H := Lib.hid h
  have HAB := Lib.hid hab
  have HB := Lib.hid hb
  have HN := Lib.hid hn
  clear h hab hb hn
  go_enter Try.func64, Try.ntmps64
  go_wp2_with fail
  go_loopw [10] (fun t wr => ∃ (i : Nat) (f' : Nat → Int), i ≤ k ∧ t = .int .i64 (i : Int) ∧ Arr wr base g c n f' ∧ Swr a b i f f' ∧ w.grownBy wr (some g)) (fun t wr => k - (intOf t).toNat)
  case atStart => exact ⟨0, f, Nat.zero_le _, rfl, H.out, Swr.zero _ _ _, World.grownBy.refl _ _⟩
  case round =>
    obtain ⟨i, f', hi, rfl, hA, hS, hG⟩ := hrel
    have HA := Lib.hid hA
    have HS := Lib.hid hS
    have HG := Lib.hid hG
    clear hA hS hG
    by_cases hlt : i < k
    · obtain ⟨p, hp⟩ : ∃ p, p = a + i := ⟨_, rfl⟩
      obtain ⟨q, hq⟩ : ∃ q, q = b + i := ⟨_, rfl⟩
      have hpn : p < n := by have := HAB.out; have := HB.out; omega
      have hqn : q < n := by have := HB.out; omega
      have wp : IntKind.i64.wrap ((a : Int) + (i : Int)) = (p : Int) := by rw [IntWalk.i64_in _ (by have := HN.out; omega), hp]; omega
      have wq : IntKind.i64.wrap ((b : Int) + (i : Int)) = (q : Int) := by rw [IntWalk.i64_in _ (by have := HN.out; omega), hq]; omega
      have HP := Lib.hid hp
      have HQ := Lib.hid hq
      have i1 : (p : Int) < (n : Int) := by omega
      have i2 : (q : Int) < (n : Int) := by omega
      clear hp hq
      go_wp2_with fail
      refine region_way (fun _ => True) (.step 0 true (.step 1 true (.step 2 true (.step 3 true (.step 4 true (.step 5 true (.step 6 true (.step 7 true (.step 8 true (.step 9 true (.step 10 true (.step 11 true (.step 12 true (.step 14 true (.step 15 true (.step 16 true (.step 17 true (.step 18 true (.both 13 19 (.step 19 false (.step 20 true (.step 21 false (.step 22 true (.step 23 false .done))))) (.step 13 false (.step 20 true (.step 21 false (.step 22 true (.step 23 false .done))))))))))))))))))))))))
        (by kernel_rfl) (by kernel_rfl) (by kernel_rfl) (by kernel_rfl) (fun _ _ _ _ _ h => h) trivial ?_
      repeat
        refine way_pure (v := ?_) rfl (by rfl) (fun W _ => ?_) ?_
        rotate_left
        · go_simp
          try with_reducible rfl
        simp only [Act.put, List.setIfInBounds_toArray, List.set_cons_zero, List.set_cons_succ]
      refine way_both rfl (by rfl) rfl (by rfl) (fun K hK => ?_) (fun K hK => ?_)
      all_goals
        have c1 := HA.out.cell p hpn
        have c2 := HA.out.cell q hqn
        go_simp
        refine hK _ _ (fun _ => True) (fun _ _ => trivial) trivial ?_
        clear hK K
        refine way_make rfl (by rfl) (fun K hK => ?_)
        go_simp
        refine hK _ _ (fun _ => True) (fun _ _ => trivial) trivial ?_
        clear hK K
        refine way_pure (v := ?_) rfl (by rfl) (fun W _ => ?_) ?_
        rotate_left
        · go_simp
          try with_reducible rfl
        simp only [Act.put, List.setIfInBounds_toArray, List.set_cons_zero, List.set_cons_succ]
        refine way_make rfl (by rfl) (fun K hK => ?_)
        have d1 := HA.out.free p
        go_simp
        refine hK _ _ (fun _ => True) (fun _ _ => trivial) trivial ?_
        clear hK K c1 c2 d1
        refine way_pure (v := ?_) rfl (by rfl) (fun W _ => ?_) ?_
        rotate_left
        · go_simp
          try with_reducible rfl
        simp only [Act.put, List.setIfInBounds_toArray, List.set_cons_zero, List.set_cons_succ]
        refine way_make rfl (by rfl) (fun K hK => ?_)
        have A1 := Lib.hid (HA.out.set p (f' q))
        have e1 : (wr.setCell ⟨g, p, none⟩ (.int .i64 (f' q))).cell? ⟨g, q, none⟩ = some (.int .i64 (upd f' p (f' q) q)) := A1.out.1.cell q hqn
        have d2 := A1.out.1.free q
        generalize hw1 : wr.setCell ⟨g, p, none⟩ (.int .i64 (f' q)) = w1 at *
        go_simp
        have A2 := Lib.hid (A1.out.1.set q (f' p))
        refine hK _ _ (fun _ => True) (fun _ _ => trivial) trivial ?_
        clear hK K e1 d2 hw1
        generalize w1.setCell ⟨g, q, none⟩ (.int .i64 (f' p)) = w2 at *
        refine way_done ?_
        have G2 := Lib.hid ((HG.out.trans A1.out.2).trans A2.out.2)
        have S2 := Lib.hid (HS.out.step (by have := HAB.out; omega))
        rw [← HP.out, ← HQ.out] at S2
        have hib : i < 1099511627776 := by have := HN.out; have := HB.out; omega
        go_wp2_with fail
        go_roundw
        case rel => exact ⟨i + 1, swp f' p q, by omega, rfl, A2.out.1, S2.out, gb_drew G2.out⟩
        case measure => simp [intOf]; omega
    · go_wp2
      go_end0
      have : i = k := by omega
      subst this
      exact ⟨rfl, f', HA.out, HS.out, HG.out⟩

def RotPost (w : World) (base g c n a m b : Nat) (f : Nat → Int) (e : Ending) (w' : World) : Prop :=
  e = .returned (.tuple #[]) ∧ ∃ f', Arr w' base g c n f' ∧ Rot a m b f f' ∧ w.grownBy w' (some g)

set_option maxHeartbeats 1600000 in
theorem rot_calls (base g c n a m b : Nat) (f : Nat → Int) (F : Value) (w : World) (h : Arr w base g c n f) (ham : a < m) (hmb : m < b) (hb : b ≤ n) (hn : n ≤ 1099511627776) :
    Calls Try.prog 58 #[.slice (some ⟨g, 0, none⟩) n c, .int .i64 (a : Int), .int .i64 (m : Int), .int .i64 (b : Int), F] w (RotPost w base g c n a m b f) := by
  have H := Lib.hid h
  have HM := Lib.hid (And.intro ham (And.intro hmb (And.intro hb hn)))
  obtain ⟨r, hr⟩ : ∃ r, Rot a m b f r := ⟨_, fun _ => rfl⟩
  have R0 : Rot (m - (m - a)) m (m + (b - m)) f r := by
    rw [show m - (m - a) = a by omega, show m + (b - m) = b by omega]; exact hr
  have HR := Lib.hid hr
  have HR0 := Lib.hid R0
  have x1 : (m : Int) - (a : Int) = ((m - a : Nat) : Int) := by omega
  have x2 : (b : Int) - (m : Int) = ((b - m : Nat) : Int) := by omega
  have y1 : m ≤ 1099511627776 := by omega
  have y2 : b ≤ 1099511627776 := by omega
  have y3 : a ≤ 1099511627776 := by omega
  clear h hr R0 ham hmb hb hn
  go_enter Try.func58, Try.ntmps58
  go_wp2_with fail
  go_loopw [10, 11] (fun s t wr => ∃ (i j : Nat) (f1 : Nat → Int), 0 < i ∧ 0 < j ∧ i ≤ m ∧ m + j ≤ n ∧ s = .int .i64 (i : Int) ∧ t = .int .i64 (j : Int) ∧ Arr wr base g c n f1 ∧ Rot (m - i) m (m + j) f1 r ∧ w.grownBy wr (some g)) (fun s t wr => (intOf s).toNat + (intOf t).toNat)
  case atStart => exact ⟨m - a, b - m, f, by have := HM.out; omega, by have := HM.out; omega, by omega, by have := HM.out; omega, by rw [← x1], by rw [← x2], H.out, HR0.out, World.grownBy.refl _ _⟩
  case round =>
    obtain ⟨i, j, f1, hi, hj, him, hjn, rfl, rfl, hA, hT, hG⟩ := hrel
    have HA := Lib.hid hA
    have HT := Lib.hid hT
    have HG := Lib.hid hG
    have HN := HM.out.2.2.2
    clear hA hT hG x1 x2
    have e1 : (m : Int) - (i : Int) = ((m - i : Nat) : Int) := by omega
    by_cases hne : i = j
    · subst hne
      go_wp2_with fail
      ((with_reducible refine (swr_calls base g c n (m - i) m i f1 _ wr HA.out (by omega) (by omega) HN).mono ?_))
      rintro e w1 ⟨rfl, f2, hA2, hS2, hG2⟩
      go_wp2
      go_end0
      refine ⟨rfl, f2, hA2, ?_, HG.out.trans hG2⟩
      have := rot_even him hS2
      intro k
      rw [this k, ← HT.out k]
      exact HR.out k
    · by_cases hlt : j < i
      · have e2 : (i : Int) - (j : Int) = ((i - j : Nat) : Int) := by omega
        go_wp2_with fail
        ((with_reducible refine (swr_calls base g c n (m - i) m j f1 _ wr HA.out (by omega) (by omega) HN).mono ?_))
        rintro e w1 ⟨rfl, f2, hA2, hS2, hG2⟩
        have A2 := Lib.hid hA2
        have G2 := Lib.hid (HG.out.trans hG2)
        have T2 := Lib.hid (rot_more him hj hlt HT.out hS2)
        clear hA2 hS2 hG2
        go_wp2_with fail
        go_roundw
        case rel => exact ⟨i - j, j, f2, by omega, hj, by omega, hjn, rfl, rfl, A2.out, T2.out, G2.out⟩
        case measure => simp [intOf]; omega
      · have e2 : (j : Int) - (i : Int) = ((j - i : Nat) : Int) := by omega
        have e3 : (m : Int) + (j : Int) - (i : Int) = ((m + j - i : Nat) : Int) := by omega
        go_wp2_with fail
        ((with_reducible refine (swr_calls base g c n (m - i) (m + j - i) i f1 _ wr HA.out (by omega) (by omega) HN).mono ?_))
        rintro e w1 ⟨rfl, f2, hA2, hS2, hG2⟩
        have A2 := Lib.hid hA2
        have G2 := Lib.hid (HG.out.trans hG2)
        have T2 := Lib.hid (rot_less him hi (by omega) HT.out hS2)
        clear hA2 hS2 hG2
        go_wp2_with fail
        go_roundw
        case rel => exact ⟨i, j - i, f2, hi, by omega, him, by omega, rfl, rfl, A2.out, T2.out, G2.out⟩
        case measure => simp [intOf]; omega
end Go.Proofs.Ytpgbfjeejkeibaa
