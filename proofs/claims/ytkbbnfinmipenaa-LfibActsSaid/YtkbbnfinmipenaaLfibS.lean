/-
  Contracts of package lfib: rows, Labels, Tunnels, and of cmp.Compare of whole numbers. Condition: the table is one that New made.
-/
import Derived.Test.YtkbbnfinmipenaaLfibB
import Derived.Test.YtkbbnfinmipenaaSortK
import Derived.Test.YtkbbnfinmipenaaShelfR
import Derived.Test.YtkbbnfinmipenaaShimC
import Derived.Test.YtkbbnfinmipenaaBlk
namespace Go.Proofs.Ytkbbnfinmipenaa
open Go.RowKit Go.Maps

def cmpI (x y : Int) : Int := if x < y then -1 else if y < x then 1 else 0

theorem isNaN_calls (x : Int) (w : World) : Calls Try.prog 59 #[.int .i64 x] w fun e w' => e = .returned (.bool false) ∧ w' = w := by
  go_enter Try.func59, Try.ntmps59
  go_wp2
  go_ret
  exact ⟨by first | rfl | simp, rfl⟩

theorem compare_calls (x y : Int) (w : World) : Calls Try.prog 55 #[.int .i64 x, .int .i64 y] w fun e w' => e = .returned (.int .i64 (cmpI x y)) ∧ w' = w := by
  go_enter Try.func55, Try.ntmps55
  go_wp2_with fail
  ((with_reducible refine (isNaN_calls x w).mono ?_))
  rintro e w1 ⟨rfl, rfl⟩
  go_wp2_with fail
  ((with_reducible refine (isNaN_calls y _).mono ?_))
  rintro e w2 ⟨rfl, rfl⟩
  by_cases h1 : x < y
  · have hc : cmpI x y = -1 := by unfold cmpI; rw [if_pos h1]
    go_wp2
    go_ret
    exact ⟨by rw [hc]; rfl, rfl⟩
  · by_cases h2 : y < x
    · have hc : cmpI x y = 1 := by unfold cmpI; rw [if_neg h1, if_pos h2]
      go_wp2
      go_ret
      exact ⟨by rw [hc]; rfl, rfl⟩
    · have hc : cmpI x y = 0 := by unfold cmpI; rw [if_neg h1, if_neg h2]
      go_wp2
      go_ret
      exact ⟨by rw [hc]; rfl, rfl⟩

theorem by_in (x y : Int × Int × Int) (W : World) : Calls Try.prog 54 #[.agg #[.int .i64 x.1, .int .i64 x.2.1, .int .i64 x.2.2], .agg #[.int .i64 y.1, .int .i64 y.2.1, .int .i64 y.2.2]] W fun e w' => e = .returned (.int .i64 (cmpI x.1 y.1)) ∧ ∃ q os', w' = Go.Sort.grow (W.drewN q) os' := by
  have hcon := fun W' => compare_calls x.1 y.1 W'
  generalize cmpI x.1 y.1 = r at hcon ⊢
  go_enter Try.func54, Try.ntmps54
  go_wp2_with (go_at_call 55; refine (hcon _).mono ?_; rintro e w' ⟨rfl, rfl⟩)
  go_ret
  exact ⟨rfl, 0, _, by rw [Go.Sort.alloc_eq_grow, Go.Sort.alloc_eq_grow, Go.Sort.grow_grow]; rfl⟩

theorem ltIn (x y : Int × Int × Int) : ltOf (fun x y : Int × Int × Int => cmpI x.1 y.1) x y = decide (x.1 < y.1) := by
  unfold ltOf cmpI
  by_cases h1 : x.1 < y.1
  · simp [h1]
  · by_cases h2 : y.1 < x.1 <;> simp [h1, h2]
theorem swoIn : Go.Sort.SWO (ltOf fun x y : Int × Int × Int => cmpI x.1 y.1) where
  irrefl x := by rw [ltIn]; simp
  trans x y z h1 h2 := by rw [ltIn] at *; simp at *; omega
  ntrans x y z h1 h2 := by rw [ltIn] at *; simp at *; omega

/-- Rows that a call itself gathers. -/
def AccL (w : World) (base : Nat) (A : Option Addr) (c : Nat) (l : List (Int × Int × Int)) : Prop := AccR ec 3 w base 63 A c l

theorem sort_some {w : World} {base c g : Nat} {l : List (Int × Int × Int)} (h : AccL w base (some ⟨g, 0, none⟩) c l) (hl : l.length ≤ 1099511627776) :
    Calls Try.prog 53 #[.slice (some ⟨g, 0, none⟩) l.length c, .func (.func 54) #[] #[]] w fun e w' =>
      e = .returned (.tuple #[]) ∧ ∃ ts : List (Int × Int × Int), ts.Perm l ∧ ts.Pairwise (fun a b => ¬ b.1 < a.1) ∧ AccL w' base (some ⟨g, 0, none⟩) c ts ∧ w.grownBy w' (some g) := by
  have eg : ∀ args w, (callFunc 54 args).run Try.prog w = .ok (.enter 54 args) w := enters_of Try.func54 (by kernel_rfl) rfl
  have hcon := AnyQ.slices_SortFunc Try.sortR 3 Try.isAgg63 Try.sizeOf63 ec ec_length ec_one (fun x y => cmpI x.1 y.1) swoIn 54 #[] g 0 c l.toArray w eg (fun _ _ _ _ x y => by_in x y _) (accr_holds ec_length h) (AccR.ge h rfl).2 (by simp; omega)
  change Calls Try.prog 53 _ _ _ at hcon
  have hs : l.toArray.size = l.length := by simp
  rw [hs] at hcon
  refine hcon.mono ?_
  rintro e w' ⟨rfl, d', n, os, hp, hso, rfl⟩
  have hp' : d'.toList.Perm l := by
    have := Go.Proofs.Ytkbbnfinmipenaa.perm_of_in (d := l.toArray) (d' := d') (by rw [hs]; exact hp)
    simpa using this
  have hz : d'.size = l.length := by have := hp'.length_eq; simpa using this
  have hpw := pairwise_of_in (d := d') (lt := ltOf fun x y : Int × Int × Int => cmpI x.1 y.1) (by rw [hz]; exact hso)
  refine ⟨rfl, d'.toList, hp', hpw.imp (fun {a b} hab => by rw [ltIn] at hab; simpa using hab), ?_, grown_sortedK d'⟩
  have := accr_sorted (n := n) (os := os) ec_length h d'.toList hp'.length_eq
  unfold AccL
  simpa using this

theorem sort_none (p : Option Addr) (c : Nat) (w : World) : Calls Try.prog 53 #[.slice p 0 c, .func (.func 54) #[] #[]] w fun e w' => e = .returned (.tuple #[]) ∧ w' = w :=
  AnyF.slices_SortFunc_none Try.sortR p c _ w

theorem infoRow : (Try.prog.info? 63).map (fun i => (i.zero, i.size, i.bytes)) = some (some (.agg #[.int .i64 0, .int .i64 0, .int .i64 0]), 3, 24) := by kernel_rfl

theorem accl_push {w : World} {base c : Nat} {A : Option Addr} {l : List (Int × Int × Int)} (h : AccL w base A c l) (x : Int × Int × Int) (hbase : base ≤ w.heap.size) (hlen : l.length ≤ 1099511627776) (ty : TypeId) :
    ∃ A' c' w', (Builtin.append_ #[49, 49] ty #[.slice A l.length c, .slice (some ⟨w.heap.size, 0, none⟩) 1 1]).run Try.prog (w.alloc (.cells (ec x).toArray 63)) = .ok (.slice A' (l.length + 1) c') w' ∧
      AccL w' base A' c' (l ++ [x]) ∧ w.grownBy w' (blk A) :=
  accr_push ec_length ec_one (by omega) h x Try.underlying49 infoRow rfl hbase (by omega) (by omega)

def RowsPost (w : World) (l : List (Int × Int × Int)) (e : Ending) (w' : World) : Prop :=
  ∃ A c, e = .returned (.slice A l.length c) ∧ AccL w' w.heap.size A c l ∧ Below w.heap.size w w'

set_option maxRecDepth 100000 in
set_option maxHeartbeats 1600000 in
theorem rows_calls {w : World} {mb : Nat} {most : Int} {l : List (Int × Int × Int)} (h : Outs w mb l) (hl : l.length ≤ 64) : Calls Try.prog 47 #[.agg #[.int .i64 most, .map (some mb)]] w (RowsPost w l) := by
  obtain ⟨D, ho, hh, ha, hz⟩ := h.own
  have K0 := Lib.hid (bel_new (Below.refl w.heap.size w) (.cells #[.int .i64 most, .map (some mb)] 56))
  have HO := Lib.hid (ho.alloc (.cells #[.int .i64 most, .map (some mb)] 56))
  have HH := Lib.hid hh
  have HA := Lib.hid ha
  have HZ := Lib.hid hz
  have HR := Lib.hid h.1
  have HML := Lib.hid h.lt
  clear h ho hh ha hz
  go_enter Try.func47, Try.ntmps47
  go_wp2_with (at_range; refine wpList_range_own _ rfl _ 54 rfl 3 30 key_law Try.underlying54 _ mb l.length D rfl HO.out ?_; intro w0 hrg0 hg0 hs0)
  have K1 := Lib.hid ((Below.refl (w.alloc (.cells #[.int .i64 most, .map (some mb)] 56)).heap.size (w.alloc (.cells #[.int .i64 most, .map (some mb)] 56))).grown hg0 (Nat.le_refl _) (fun j hj => by cases hj))
  have SZ0 := Lib.hid (World.size_alloc w (.cells #[.int .i64 most, .map (some mb)] 56))
  have S0 := Lib.hid hs0
  clear HO hg0 hs0
  rw [SZ0.out] at K1 S0 hrg0 ⊢
  have K2 := Lib.hid (show Below w.heap.size w w0 from K0.out.trans (K1.out.mono (by omega)))
  clear K0 K1 SZ0
  go_frame
  go_loopw [3] (fun a wr => ∃ (left : Lit → Bool) (cnt : Nat) (ss : List (Int × Int × Int)) (A : Option Addr) (c : Nat), a = .slice A ss.length c ∧ wr.ranges Try.prog 3 outElem mb (w.heap.size + 1) l.length D left cnt ∧ MetR l left ss ∧ AccL wr (w.heap.size + 2) A c ss ∧ Below w.heap.size w wr ∧ ss.length + cnt ≤ l.length ∧ w.heap.size + 2 ≤ wr.heap.size)
    (fun _ wr => wr.rangeLeft mb (w.heap.size + 1))
  case atStart => exact ⟨_, _, [], none, 0, rfl, hrg0, MetR.start HH.out, AccR.nil _ _ _, K2.out, by simp [HZ.out], by have := S0.out; omega⟩
  case round =>
    obtain ⟨left, cnt, ss, A, c, rfl, hrg, hM, hA, hB, hcn, hsz⟩ := hrel
    have HRG := Lib.hid hrg
    have HM := Lib.hid hM
    have HAL := Lib.hid hA
    have HB := Lib.hid hB
    have HSZ2 := Lib.hid hsz
    have HC := Lib.hid hcn
    have HLE := Lib.hid hrg.left_eq
    clear hrg hM hA hB hsz hcn hrg0 K2 S0
    go_wp2_with (at_next; refine wpList_next_ranges _ rfl _ rfl 3 key_law outElem (Value.int .i64) ov (fun key kl hk => by obtain ⟨x, hx, _⟩ := Maps.keyOf_int_inv Try.underlying3 hk; exact ⟨x, hx⟩) (fun v y hv => by obtain ⟨p, hp, _⟩ := outElem_inv hv; exact ⟨p, hp⟩) mb (w.heap.size + 1) l.length D left cnt rfl HRG.out ?_ ?_)
    · intro hc0 hl0
      have hperm := HM.out.perm hl0 HR.out
      have HPM := Lib.hid hperm
      have hll : ss.length = l.length := hperm.length_eq
      clear hperm
      rcases Nat.eq_zero_or_pos ss.length with h0 | h0
      · obtain rfl := List.eq_nil_of_length_eq_zero h0
        have hs0 : l = [] := List.eq_nil_of_length_eq_zero (by rw [← hll]; rfl)
        clear hll
        go_wp2_with fail
        ((with_reducible refine (sort_none A c _).mono ?_))
        rintro e w2 ⟨rfl, rfl⟩
        go_wp2
        go_ret
        subst hs0
        exact ⟨A, c, rfl, HAL.out.lower (by omega), HB.out⟩
      · obtain ⟨g, rfl, hgl⟩ : ∃ g, A = some ⟨g, 0, none⟩ ∧ g < wr.heap.size := by
          rcases HAL.out.2 with ⟨_, h1⟩ | ⟨g, cap, cur, hv, _⟩
          · omega
          · injection hv with e1
            subst e1
            exact ⟨g, rfl, (AccR.ge HAL.out rfl).2⟩
        have hge := (AccR.ge HAL.out (x := g) rfl).1
        have HLL := Lib.hid hll
        clear hll
        go_wp2_with fail
        ((with_reducible refine (sort_some HAL.out (by have := HC.out; omega)).mono ?_))
        rintro e w2 ⟨rfl, ts, hp, hpw, ha2, hg2⟩
        obtain rfl : ts = l := sort_rows (hp.trans HPM.out) HR.out hpw
        have A2 := Lib.hid ha2
        have B2 := Lib.hid (HB.out.grown hg2 HB.out.size (fun j hj => by cases hj; omega))
        clear hp hpw ha2 hg2
        rw [HLL.out]
        go_wp2
        go_ret
        exact ⟨_, c, rfl, A2.out.lower (by omega), B2.out⟩
    · intro x p1 p2 kl yd ps w2 cnt2 hkey hlk hv hat hrg2 hlt hg2 hs2 hen
      obtain ⟨x', ex, rfl, _⟩ := Maps.keyOf_int_inv Try.underlying3 hkey
      obtain rfl : x = x' := by injection ex
      have hyd : yd = od (p1, p2) := by
        have h1 : outElem (ov (p1, p2)) = some (od (p1, p2), []) := outElem_mk p1 p2
        rw [h1] at hv
        injection hv with hv
        exact (congrArg Prod.fst hv).symm
      have hat' : ∀ zd, D.atKey (.int .i64 x) zd = od (p1, p2) := fun zd => by rw [hat zd, hyd]
      have hne : ∀ y, blk A = some y → some (w.heap.size + 1) ≠ some y := fun y hy e => by have := (AccR.ge HAL.out hy).1; injection e with e; omega
      have hA2 : AccL w2 (w.heap.size + 2) A c ss := AccR.kept HAL.out hg2 hne
      have hsz2 : w.heap.size + 2 ≤ w2.heap.size := by have := HSZ2.out; omega
      have hk3 := bel_new (Below.refl w2.heap.size w2) (.cells #[.int .i64 p1, .int .i64 p2] 30)
      have hA3 : AccL (w2.alloc (.cells #[.int .i64 p1, .int .i64 p2] 30)) (w.heap.size + 2) A c ss := AccR.bel hA2 hk3
      obtain ⟨A4, c4, w4, r4, a4, g4⟩ := accl_push hA3 (x, p1, p2) (Nat.le_trans hsz2 hk3.size) (by have := HC.out; omega) 49
      have hrg3 := hrg2.kept (World.grownBy_alloc w2 (.cells #[.int .i64 p1, .int .i64 p2] 30) none) (by simp) (by simp)
      have hrg4 := hrg3.kept g4 (fun e => by have := (AccR.ge hA3 e.symm).1; have := HML.out; omega) (fun e => by have := (AccR.ge hA3 e.symm).1; omega)
      have hB2 := HB.out.grown hg2 HB.out.size (fun j hj => by cases hj; omega)
      have hB3 := bel_more hB2 (Nat.le_refl _) hk3
      have hB4 := hB3.grown g4 hB3.size (fun j hj => by have := (AccR.ge hA3 hj).1; omega)
      have R4 := Lib.hid r4
      have A4' := Lib.hid a4
      have M4 := Lib.hid (HM.out.step HR.out HH.out HA.out hlk hat')
      have RG4 := Lib.hid hrg4
      have B4 := Lib.hid hB4
      have S4 := Lib.hid (show w.heap.size + 2 ≤ w4.heap.size from Nat.le_trans (Nat.le_trans hsz2 hk3.size) g4.size)
      have LT := Lib.hid hlt
      rw [World.size_alloc] at R4
      simp only [ec] at R4
      simp only [ov] at hen ⊢
      clear r4 a4 hrg3 hrg4 hB2 hB3 hB4 g4 hs2 hg2 hrg2 hat hat' hlk hv hA2 hA3 hne hsz2 hkey ex hlt hyd hk3
      go_wp2_with (at_builtin; refine step_append rfl rfl rfl rfl R4.out ?_)
      go_roundw
      case rel => exact ⟨_, cnt2, ss ++ [(x, p1, p2)], A4, c4, by simp, RG4.out, M4.out, A4'.out, B4.out, by have := LT.out; have := HC.out; simp; omega, S4.out⟩
      case measure => rw [RG4.out.left_eq, HLE.out]; exact LT.out

section
variable {w : World} {tb lb ub : Nat} {most : Int} {l u : List (Int × Int × Int)}
theorem labels_calls (h : Tbl w tb lb ub most l u) : Calls Try.prog 23 #[.pointer (some ⟨tb, 0, none⟩)] w (RowsPost w l) := by
  have c0 := h.c0
  have c1 := h.c1
  have H := Lib.hid h
  have O := Lib.hid h.2.1
  have hl : l.length ≤ 64 := by have := h.2.2.2.2.1; omega
  clear h
  go_enter Try.func23, Try.ntmps23
  go_wp2_with fail
  ((with_reducible refine (lmade_calls H.out).mono ?_))
  rintro e w' ⟨rfl, rfl⟩
  go_wp2_with fail
  ((with_reducible refine (rows_calls (most := most) O.out hl).mono ?_))
  rintro e w2 ⟨A, c, rfl, a2, b2⟩
  clear c0 c1
  go_wp2
  go_ret
  exact ⟨A, c, rfl, a2, b2⟩
theorem tunnels_calls (h : Tbl w tb lb ub most l u) : Calls Try.prog 24 #[.pointer (some ⟨tb, 0, none⟩)] w (RowsPost w u) := by
  have c0 := h.c2
  have c1 := h.c3
  have H := Lib.hid h
  have O := Lib.hid h.2.2.1
  have hl : u.length ≤ 64 := by have := h.2.2.2.2.1; omega
  clear h
  go_enter Try.func24, Try.ntmps24
  go_wp2_with fail
  ((with_reducible refine (lmade_calls H.out).mono ?_))
  rintro e w' ⟨rfl, rfl⟩
  go_wp2_with fail
  ((with_reducible refine (rows_calls (most := most) O.out hl).mono ?_))
  rintro e w2 ⟨A, c, rfl, a2, b2⟩
  clear c0 c1
  go_wp2
  go_ret
  exact ⟨A, c, rfl, a2, b2⟩
end
end Go.Proofs.Ytkbbnfinmipenaa
