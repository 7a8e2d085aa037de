/-
  Contracts of package lfib: within, bindable, valid, newOuts, New, made, set, remove. Conditions: a map that is asked or written keeps entries that rise; a number is one of 64 bits.
-/
import Derived.Test.YtkbbnfinmipenaaLfibM
namespace Go.Proofs.Ytkbbnfinmipenaa
open Go.RowKit Go.Maps

def wn (n lo hi : Int) : Bool := decide (lo ≤ n) && decide (n ≤ hi)
theorem wn_yes {n lo hi : Int} (h : wn n lo hi = true) : lo ≤ n ∧ n ≤ hi := by simpa [wn] using h

theorem lwithin_calls (n lo hi : Int) (w : World) :
    Calls Try.prog 29 #[.int .i64 n, .int .i64 lo, .int .i64 hi] w fun e w' => e = .returned (.bool (wn n lo hi)) ∧ w = w' := by
  by_cases h1 : lo ≤ n
  · by_cases h2 : n ≤ hi
    · have hw : wn n lo hi = true := by simp [wn, h1, h2]
      go_enter Try.func29, Try.ntmps29
      go_wp2
      go_ret
      exact ⟨by first | rfl | (rw [hw]; rfl), rfl⟩
    · have hw : wn n lo hi = false := by simp [wn, h2]
      go_enter Try.func29, Try.ntmps29
      go_wp2
      go_ret
      exact ⟨by first | rfl | (rw [hw]; rfl), rfl⟩
  · have hw : wn n lo hi = false := by simp [wn, h1]
    go_enter Try.func29, Try.ntmps29
    go_wp2
    go_ret
    exact ⟨by first | rfl | (rw [hw]; rfl), rfl⟩

theorem bindable_calls (x : Int) (w : World) :
    Calls Try.prog 32 #[.int .i64 x] w fun e w' => e = .returned (.bool (wn x 16 1048575)) ∧ w = w' := by
  go_enter Try.func32, Try.ntmps32
  go_wp2_with fail
  ((with_reducible refine (lwithin_calls x 16 1048575 _).mono ?_))
  rintro e w1 ⟨rfl, rfl⟩
  go_wp2
  go_ret
  exact ⟨rfl, rfl⟩

/-- May an Out be? -/
def okO (a b : Int) : Bool := wn a 0 15 && (wn b 16 1048575 || (b == 3))
theorem okO_yes {a b : Int} (h : okO a b = true) : okOut (a, b) := by
  simp [okO, wn] at h
  unfold okOut
  simp only
  omega

theorem valid_calls (a b : Int) (w : World) :
    Calls Try.prog 33 #[.agg #[.int .i64 a, .int .i64 b]] w fun e w' => e = .returned (.bool (okO a b)) ∧ w' = w.alloc (.cells #[.int .i64 a, .int .i64 b] 30) := by
  go_enter Try.func33, Try.ntmps33
  go_wp2_with fail
  ((with_reducible refine (lwithin_calls a 0 15 _).mono ?_))
  rintro e w1 ⟨rfl, rfl⟩
  cases hx : wn a 0 15
  · go_wp2
    go_ret
    exact ⟨by simp [okO, hx], rfl⟩
  · go_wp2_with fail
    ((with_reducible refine (bindable_calls b _).mono ?_))
    rintro e w1 ⟨rfl, rfl⟩
    cases hy : wn b 16 1048575
    · go_wp2
      go_ret
      exact ⟨by simp [okO, hx, hy], rfl⟩
    · go_wp2
      go_ret
      exact ⟨by simp [okO, hx, hy], rfl⟩

def NewOutsPost (w : World) (most : Int) (e : Ending) (w' : World) : Prop :=
  ∃ mb, e = .returned (.agg #[.int .i64 most, .map (some mb)]) ∧ Outs w' mb [] ∧ w.heap.size ≤ mb ∧ Below w.heap.size w w'

theorem newOuts_calls (most : Int) (w : World) :
    Calls Try.prog 30 #[.int .i64 most] w (NewOutsPost w most) := by
  have hmm := @run_makeMap Try.prog
  go_enter Try.func30, Try.ntmps30
  go_wp2
  have hs : (w.alloc (.cells #[.int .i64 most, .map (some (w.heap.size + 1))] 56)).heap.size = w.heap.size + 1 := by simp
  have hq : ((w.alloc (.cells #[.int .i64 most, .map (some (w.heap.size + 1))] 56)).alloc (.map #[] 0)).heap[w.heap.size]? = some (.cells #[.int .i64 most, .map (some (w.heap.size + 1))] 56 (0, 0)) :=
    (Below.heap_alloc _ _ _ (by simp)).trans (heap_alloc_new w _)
  have y0 := cell_of_row _ _ 0 _ _ _ hq
  have y1 := cell_of_row _ _ 1 _ _ _ hq
  have ho := outs_new (w.alloc (.cells #[.int .i64 most, .map (some (w.heap.size + 1))] 56))
  rw [hs] at ho
  refine bodyPost_ret (v := .agg #[.int .i64 most, .map (some (w.heap.size + 1))]) (by simp [results, Try.results30, go_sem, y0, y1]) rfl ⟨_, rfl, ho, by omega, bel_new (bel_new (Below.refl _ _) _) _⟩

def LNewPost (w : World) (most : Int) (e : Ending) (w' : World) : Prop :=
  ∃ tb lb ub, e = .returned (.pointer (some ⟨tb, 0, none⟩)) ∧ Tbl w' tb lb ub most [] [] ∧ (w.heap.size ≤ tb ∧ w.heap.size ≤ lb ∧ w.heap.size ≤ ub) ∧ Below w.heap.size w w'

theorem lnew_yes (most : Int) (w : World) (h1 : 1 ≤ most) (h2 : most ≤ 64) :
    Calls Try.prog 9 #[.int .i64 most] w (LNewPost w most) := by
  have hw : wn most 1 64 = true := by simp [wn, h1, h2]
  go_enter Try.func9, Try.ntmps9
  go_wp2_with fail
  ((with_reducible refine (lwithin_calls most 1 64 _).mono ?_))
  rintro e w1 ⟨rfl, rfl⟩
  rw [hw]
  go_wp2_with fail
  ((with_reducible refine (newOuts_calls most _).mono ?_))
  rintro e w1 ⟨lb, rfl, o1, g1, b1⟩
  have O1 := Lib.hid o1
  have G1 := Lib.hid g1
  have B1 := Lib.hid b1
  clear o1 g1 b1
  go_wp2_with fail
  ((with_reducible refine (newOuts_calls most _).mono ?_))
  rintro e w2 ⟨ub, rfl, o2, g2, b2⟩
  have O2 := Lib.hid o2
  have G2 := Lib.hid g2
  have B2 := Lib.hid b2
  clear o2 g2 b2
  go_wp2
  go_ret
  have hl1 := O1.out.lt
  have hl2 := O2.out.lt
  have gg1 := G1.out
  have gg2 := G2.out
  have hs := B1.out.size
  have hs2 := B2.out.size
  refine ⟨w2.heap.size, lb, ub, rfl, ⟨heap_alloc_new w2 _, (O1.out.same (B2.out.block _ hl1)).same (Below.heap_alloc _ _ _ (by omega)), O2.out.same (Below.heap_alloc _ _ _ hl2), by omega, ⟨h1, h2, by simp; omega, by simp; omega⟩, by simp, by simp⟩, ⟨by omega, by omega, by omega⟩, bel_new (bel_more B1.out (Nat.le_refl _) B2.out) _⟩

theorem lnew_no (most : Int) (w : World) (h : wn most 1 64 = false) :
    Calls Try.prog 9 #[.int .i64 most] w fun e w' => e = .returned (.pointer none) ∧ w = w' := by
  go_enter Try.func9, Try.ntmps9
  go_wp2_with fail
  ((with_reducible refine (lwithin_calls most 1 64 _).mono ?_))
  rintro e w1 ⟨rfl, rfl⟩
  rw [h]
  go_wp2
  go_ret
  exact ⟨rfl, rfl⟩

theorem equalIn_map_nil {P : Program} (w : World) (d : Nat) (t k e : TypeId) (p : Option Nat) (h : P.underlying t = some (.map k e)) : (Op.equalIn (d + 1) t (.map p) (.map none)).run P w = .ok p.isNone w := by
  cases p <;> simp [Op.equalIn, run_underlying h]
theorem neq_map_nil {P : Program} (w : World) (t k e : TypeId) (p : Option Nat) (h : P.underlying t = some (.map k e)) : (binOp .neq t (.map p) (.map none)).run P w = .ok (.bool (!p.isNone)) w := by
  simp only [binOp]
  simp [show Op.equal t (.map p) (.map none) = Op.equalIn (9999 + 1) t (.map p) (.map none) from rfl, equalIn_map_nil w 9999 t k e p h]

section
variable {w : World} {tb lb ub : Nat} {most : Int} {l u : List (Int × Int × Int)}

theorem lmade_calls (h : Tbl w tb lb ub most l u) :
    Calls Try.prog 31 #[.pointer (some ⟨tb, 0, none⟩)] w fun e w' => e = .returned (.bool true) ∧ w = w' := by
  have c1 := h.c1
  have hq := fun w => neq_map_nil (P := Try.prog) w 54 _ _ (some lb) Try.underlying54
  clear h
  go_enter Try.func31, Try.ntmps31
  go_wp2
  go_ret
  exact ⟨rfl, rfl⟩

theorem lmade_nil (w : World) :
    Calls Try.prog 31 #[.pointer none] w fun e w' => e = .returned (.bool false) ∧ w = w' := by
  go_enter Try.func31, Try.ntmps31
  go_wp2
  go_ret
  exact ⟨rfl, rfl⟩

theorem lmade_zero {w : World} {tb : Nat} (c1 : w.cell? ⟨tb, 1, none⟩ = some (.map none)) :
    Calls Try.prog 31 #[.pointer (some ⟨tb, 0, none⟩)] w fun e w' => e = .returned (.bool false) ∧ w = w' := by
  have hq := fun w => neq_map_nil (P := Try.prog) w 54 _ _ none Try.underlying54
  go_enter Try.func31, Try.ntmps31
  go_wp2
  go_ret
  exact ⟨rfl, rfl⟩
end

/-! ### set and remove -/

/-- What a set answers, and leaves. -/
def setE (most : Int) (l : List (Int × Int × Int)) (k : Int) : Int := if fnd l k = none ∧ most ≤ l.length then 7 else 0
def setL (most : Int) (l : List (Int × Int × Int)) (x : Int × Int × Int) : List (Int × Int × Int) := if fnd l x.1 = none ∧ most ≤ l.length then l else insR l x
def remE (l : List (Int × Int × Int)) (k : Int) : Int := if fnd l k = none then 8 else 0

def SetPost (w : World) (mb : Nat) (most : Int) (l : List (Int × Int × Int)) (x : Int × Int × Int) (e : Ending) (w' : World) : Prop :=
  e = .returned (.int .i64 (setE most l x.1)) ∧ Outs w' mb (setL most l x) ∧ Turn [mb] w w'

/-- What a look into such a map answers. -/
theorem look_run {W : World} {mb : Nat} {l : List (Int × Int × Int)} (h : Outs W mb l) {k : Int} (hk : (Lit.int .i64 k).wf = true) {p : Int × Int} {ok : Bool} (hp : (fnd l k).getD (0, 0) = p) (hok : (fnd l k).isSome = ok) :
    (Instr.lookup 54 (.map (some mb)) (.int .i64 k) true).run Try.prog W = .ok (.tuple #[.agg #[.int .i64 p.1, .int .i64 p.2], .bool ok]) W := by
  obtain ⟨D, ho, hh, ha, _⟩ := h.own
  obtain ⟨v, ps, hrun, hv⟩ := ho.look_ok key_law Try.underlying54 (zeroOut W) (outElem_mk 0 0) (keyOf_int_mk Try.underlying3 hk)
  obtain ⟨q, rfl, hq⟩ := outElem_inv hv
  replace hq := congrArg Prod.fst hq
  change D.atKey (.int .i64 k) (od (0, 0)) = od q at hq
  rw [hrun]
  cases hf : fnd l k with
  | none =>
    have hno : Maps.has D (.int .i64 k) = false := by rw [hh k]; simpa using fnd_not hf
    rw [hf] at hp hok
    rw [Maps.atKey_of_not_has hno] at hq
    rw [← od_inj hq, hno, ← hp, ← hok]; rfl
  | some r =>
    have hno : Maps.has D (.int .i64 k) = true := by rw [hh k]; simpa using fnd_key hf
    rw [hf] at hp hok
    rw [ha _ (fnd_mem hf)] at hq
    rw [← od_inj hq, hno, ← hp, ← hok]; rfl
theorem step_look {w : World} {ops : Array Oper} {rest : List Oper} {o : Oper} {a : Act} {Q : Exit → Act → World → Prop} (hg : o.guard = none) (m x : Operand) (hop : o.op = Op.lookup 54 m x true)
    {mb : Nat} {l : List (Int × Int × Int)} {k : Int} (hm : a.eval m = .map (some mb)) (hx : a.eval x = .int .i64 k) (h : Outs w mb l) (hk : (Lit.int .i64 k).wf = true) {p : Int × Int} {ok : Bool} (hp : (fnd l k).getD (0, 0) = p) (hok : (fnd l k).isSome = ok)
    (hK : wpList Try.prog ops Q rest (a.put o.dst (.tuple #[.agg #[.int .i64 p.1, .int .i64 p.2], .bool ok])) w) : wpList Try.prog ops Q (o :: rest) a w := by
  refine wpList_plain hg fun K' hK' => ?_
  unfold Oper.wp
  simp [execOp, hop, hm, hx, look_run h hk hp hok, Result.andThen]
  exact hK' _ _ hK

section
variable {w : World} {mb : Nat} {most : Int} {l : List (Int × Int × Int)}

theorem Outs.below (h : Outs w mb l) {w' : World} (hb : Below w.heap.size w w') : Outs w' mb l := h.same (hb.block _ h.lt)
theorem Outs.alloc (h : Outs w mb l) (o : Obj) : Outs (w.alloc o) mb l := h.same (Below.heap_alloc _ _ _ h.lt)

set_option maxRecDepth 100000 in
set_option maxHeartbeats 800000 in
theorem set_have (h : Outs w mb l) (k a b : Int) (hk : (Lit.int .i64 k).wf = true) (p1 p2 : Int) (hf : fnd l k = some (p1, p2)) (hl : l.length ≤ 64) : Calls Try.prog 34 #[.agg #[.int .i64 most, .map (some mb)], .int .i64 k, .agg #[.int .i64 a, .int .i64 b]] w (SetPost w mb most l (k, a, b)) := by
  obtain ⟨D, ho, hh, ha, hz⟩ := h.own
  have HO := Lib.hid ho
  have HH := Lib.hid hh
  have HA := Lib.hid ha
  have HM := Lib.hid ho.isMap
  have HK := Lib.hid (show keyOf Try.prog 3 (.int .i64 k) = some (.int .i64 k) from keyOf_int_mk Try.underlying3 hk)
  have HW := Lib.hid hk
  have H := Lib.hid h
  have HF := Lib.hid hf
  clear h ho hh ha hf hz hk
  go_enter Try.func34, Try.ntmps34
  go_wp2_with (first | (at_lookup; refine step_look (p := (p1, p2)) (ok := true) rfl _ _ rfl rfl rfl ((H.out.alloc _).alloc _) HW.out (by rw [HF.out]; rfl) (by rw [HF.out]; rfl) ?_) | (at_mapUpdate; refine wpList_mapUpdate_in _ rfl _ _ _ 54 rfl 3 30 key_law Try.underlying54 _ mb l.length D rfl (((HO.out.alloc _).alloc _).alloc _) (by unfold maxLen; omega) _ _ _ rfl rfl HK.out _ [] (outElem_mk a b) ?_; intro w1 hown1 hturn1))
  go_ret
  have g1 := hturn1.grown
  have K0 := bel_new (bel_new (bel_new (Below.refl w.heap.size w) (.cells #[.int .i64 most, .map (some mb)] 56)) (.cells #[.int .i64 a, .int .i64 b] 30)) (.cells #[.int .i64 p1, .int .i64 p2] 30)
  have hc : ¬ (fnd l k = none ∧ most ≤ l.length) := by rw [HF.out]; simp
  refine ⟨by unfold setE; rw [if_neg hc]; rfl, ?_, (Turn.of_below K0).trans (Turn.of_grown (r := mb) g1 (by simp))⟩
  unfold setL
  rw [if_neg hc]
  exact Outs.put H.out.1 HM.out HH.out HA.out (k, a, b) hown1

set_option maxRecDepth 100000 in
set_option maxHeartbeats 800000 in
theorem set_full (h : Outs w mb l) (k a b : Int) (hk : (Lit.int .i64 k).wf = true) (hf : fnd l k = none) (hm : most ≤ l.length) : Calls Try.prog 34 #[.agg #[.int .i64 most, .map (some mb)], .int .i64 k, .agg #[.int .i64 a, .int .i64 b]] w (SetPost w mb most l (k, a, b)) := by
  obtain ⟨D, ho, hh, ha, hz⟩ := h.own
  have HO := Lib.hid ho
  have HZ := Lib.hid hz
  have HW := Lib.hid hk
  have H := Lib.hid h
  have HF := Lib.hid hf
  have hlen : ∀ A B C : Obj, (Builtin.len_ #[54] 3 #[.map (some mb)]).run Try.prog (((w.alloc A).alloc B).alloc C) = .ok (.int .i64 (l.length : Int)) (((w.alloc A).alloc B).alloc C) := fun A B C => by
    have := (((ho.alloc A).alloc B).alloc C).len (e := 30) Try.underlying54 3
    rw [this, hz]
  have hge : decide (most ≤ (l.length : Int)) = true := by simpa using hm
  clear h ho hh ha hf hz hk
  go_enter Try.func34, Try.ntmps34
  go_wp2_with (first | (at_lookup; refine step_look (p := (0, 0)) (ok := false) rfl _ _ rfl rfl rfl ((H.out.alloc _).alloc _) HW.out (by rw [HF.out]; rfl) (by rw [HF.out]; rfl) ?_))
  go_ret
  have K0 := bel_new (bel_new (bel_new (Below.refl w.heap.size w) (.cells #[.int .i64 most, .map (some mb)] 56)) (.cells #[.int .i64 a, .int .i64 b] 30)) (.cells #[.int .i64 0, .int .i64 0] 30)
  refine ⟨by unfold setE; rw [if_pos ⟨HF.out, hm⟩]; rfl, ?_, Turn.of_below K0⟩
  unfold setL
  rw [if_pos ⟨HF.out, hm⟩]
  exact ((H.out.alloc _).alloc _).alloc _

set_option maxRecDepth 100000 in
set_option maxHeartbeats 800000 in
theorem set_room (h : Outs w mb l) (k a b : Int) (hk : (Lit.int .i64 k).wf = true) (hf : fnd l k = none) (hl : l.length ≤ 64) (hm : (l.length : Int) < most) : Calls Try.prog 34 #[.agg #[.int .i64 most, .map (some mb)], .int .i64 k, .agg #[.int .i64 a, .int .i64 b]] w (SetPost w mb most l (k, a, b)) := by
  obtain ⟨D, ho, hh, ha, hz⟩ := h.own
  have HO := Lib.hid ho
  have HZ := Lib.hid hz
  have HH := Lib.hid hh
  have HA := Lib.hid ha
  have HM := Lib.hid ho.isMap
  have HK := Lib.hid (show keyOf Try.prog 3 (.int .i64 k) = some (.int .i64 k) from keyOf_int_mk Try.underlying3 hk)
  have HW := Lib.hid hk
  have H := Lib.hid h
  have HF := Lib.hid hf
  have hlen : ∀ A B C : Obj, (Builtin.len_ #[54] 3 #[.map (some mb)]).run Try.prog (((w.alloc A).alloc B).alloc C) = .ok (.int .i64 (l.length : Int)) (((w.alloc A).alloc B).alloc C) := fun A B C => by
    have := (((ho.alloc A).alloc B).alloc C).len (e := 30) Try.underlying54 3
    rw [this, hz]
  have hge : decide (most ≤ (l.length : Int)) = false := by simp; omega
  clear h ho hh ha hf hz hk
  go_enter Try.func34, Try.ntmps34
  go_wp2_with (first | (at_lookup; refine step_look (p := (0, 0)) (ok := false) rfl _ _ rfl rfl rfl ((H.out.alloc _).alloc _) HW.out (by rw [HF.out]; rfl) (by rw [HF.out]; rfl) ?_) | (at_mapUpdate; refine wpList_mapUpdate_in _ rfl _ _ _ 54 rfl 3 30 key_law Try.underlying54 _ mb l.length D rfl (((HO.out.alloc _).alloc _).alloc _) (by unfold maxLen; omega) _ _ _ rfl rfl HK.out _ [] (outElem_mk a b) ?_; intro w1 hown1 hturn1))
  go_ret
  have g1 := hturn1.grown
  have K0 := bel_new (bel_new (bel_new (Below.refl w.heap.size w) (.cells #[.int .i64 most, .map (some mb)] 56)) (.cells #[.int .i64 a, .int .i64 b] 30)) (.cells #[.int .i64 0, .int .i64 0] 30)
  have hc : ¬ (fnd l k = none ∧ most ≤ l.length) := fun h => by have := h.2; omega
  refine ⟨by unfold setE; rw [if_neg hc]; rfl, ?_, (Turn.of_below K0).trans (Turn.of_grown (r := mb) g1 (by simp))⟩
  unfold setL
  rw [if_neg hc]
  exact Outs.put H.out.1 HM.out HH.out HA.out (k, a, b) hown1

def RemPost (w : World) (mb : Nat) (l : List (Int × Int × Int)) (k : Int) (e : Ending) (w' : World) : Prop :=
  e = .returned (.int .i64 (remE l k)) ∧ Outs w' mb (remR l k) ∧ Turn [mb] w w'

set_option maxRecDepth 100000 in
set_option maxHeartbeats 800000 in
theorem rem_none (h : Outs w mb l) (k : Int) (hk : (Lit.int .i64 k).wf = true) (hf : fnd l k = none) : Calls Try.prog 38 #[.agg #[.int .i64 most, .map (some mb)], .int .i64 k] w (RemPost w mb l k) := by
  have HW := Lib.hid hk
  have H := Lib.hid h
  have HF := Lib.hid hf
  clear h hf hk
  go_enter Try.func38, Try.ntmps38
  go_wp2_with (at_lookup; refine step_look (p := (0, 0)) (ok := false) rfl _ _ rfl rfl rfl (H.out.alloc _) HW.out (by rw [HF.out]; rfl) (by rw [HF.out]; rfl) ?_)
  go_ret
  have K0 := bel_new (bel_new (Below.refl w.heap.size w) (.cells #[.int .i64 most, .map (some mb)] 56)) (.cells #[.int .i64 0, .int .i64 0] 30)
  refine ⟨by unfold remE; rw [if_pos HF.out]; rfl, ?_, Turn.of_below K0⟩
  rw [remR_not (fnd_not HF.out)]
  exact (H.out.alloc _).alloc _

set_option maxRecDepth 100000 in
set_option maxHeartbeats 800000 in
theorem rem_have (h : Outs w mb l) (k : Int) (hk : (Lit.int .i64 k).wf = true) (p1 p2 : Int) (hf : fnd l k = some (p1, p2)) : Calls Try.prog 38 #[.agg #[.int .i64 most, .map (some mb)], .int .i64 k] w (RemPost w mb l k) := by
  obtain ⟨D, ho, hh, ha, hz⟩ := h.own
  have HO := Lib.hid ho
  have HH := Lib.hid hh
  have HA := Lib.hid ha
  have HK := Lib.hid (show keyOf Try.prog 3 (.int .i64 k) = some (.int .i64 k) from keyOf_int_mk Try.underlying3 hk)
  have HW := Lib.hid hk
  have H := Lib.hid h
  have HF := Lib.hid hf
  clear h ho hh ha hf hz hk
  go_enter Try.func38, Try.ntmps38
  go_wp2_with (first | (at_lookup; refine step_look (p := (p1, p2)) (ok := true) rfl _ _ rfl rfl rfl (H.out.alloc _) HW.out (by rw [HF.out]; rfl) (by rw [HF.out]; rfl) ?_) | (at_delete; refine wpList_delete_own _ rfl _ _ 54 3 rfl 30 key_law Try.underlying54 _ mb l.length D rfl ((HO.out.alloc _).alloc _) _ _ rfl HK.out ?_; intro w1 hown1 hturn1))
  go_ret
  have g1 := hturn1.grown
  have K0 := bel_new (bel_new (Below.refl w.heap.size w) (.cells #[.int .i64 most, .map (some mb)] 56)) (.cells #[.int .i64 p1, .int .i64 p2] 30)
  exact ⟨by unfold remE; rw [if_neg (by rw [HF.out]; simp)]; rfl, Outs.del H.out.1 HH.out HA.out k hown1, (Turn.of_below K0).trans (Turn.of_grown (r := mb) g1 (by simp))⟩

theorem set_calls (h : Outs w mb l) (k a b : Int) (hk : (Lit.int .i64 k).wf = true) (hl : l.length ≤ 64) : Calls Try.prog 34 #[.agg #[.int .i64 most, .map (some mb)], .int .i64 k, .agg #[.int .i64 a, .int .i64 b]] w (SetPost w mb most l (k, a, b)) := by
  cases hf : fnd l k with
  | none =>
    by_cases hm : most ≤ l.length
    · exact set_full h k a b hk hf hm
    · exact set_room h k a b hk hf hl (by omega)
  | some p => exact set_have h k a b hk p.1 p.2 hf hl
theorem rem_calls (h : Outs w mb l) (k : Int) (hk : (Lit.int .i64 k).wf = true) : Calls Try.prog 38 #[.agg #[.int .i64 most, .map (some mb)], .int .i64 k] w (RemPost w mb l k) := by
  cases hf : fnd l k with
  | none => exact rem_none h k hk hf
  | some p => exact rem_have h k hk p.1 p.2 hf
end
end Go.Proofs.Ytkbbnfinmipenaa
