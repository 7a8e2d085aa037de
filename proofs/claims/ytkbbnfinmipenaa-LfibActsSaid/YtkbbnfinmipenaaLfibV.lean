/-
  Contract of the document's answer for layer 5 (viaductref05): Step. Conditions: the rows and the entries that come in read as lists, of at most 2^40.
-/
import Derived.Test.YtkbbnfinmipenaaLfibU
namespace Go.Proofs.Ytkbbnfinmipenaa
open Go.RowKit Go.Maps
set_option linter.unusedVariables false

/-- Entries whose first has its time lowered. -/
def firstR (rs : List (Int × Int × Int)) (m : Int) : List (Int × Int × Int) := match rs with
  | [] => []
  | r :: t => (r.1, r.2.1, min r.2.2 m) :: t
/-- What the loop of a step gathered before its round i. -/
def gathS (k y z : Int) (rs : List (Int × Int × Int)) (i : Nat) : List (Int × Int × Int) := (if k = 3 then [] else [(k, y, z - 1)]) ++ (if k = 3 then firstR rs (z - 1) else rs).take (i - 1)
theorem firstR_length (rs : List (Int × Int × Int)) (m : Int) : (firstR rs m).length = rs.length := by cases rs <;> rfl
theorem gathS_one (k y z : Int) (rs : List (Int × Int × Int)) : gathS k y z rs 1 = if k = 3 then [] else [(k, y, z - 1)] := by unfold gathS; simp
theorem gathS_len (k y z : Int) (rs : List (Int × Int × Int)) {i : Nat} (h : 1 ≤ i) : (gathS k y z rs i).length ≤ i := by
  unfold gathS
  rw [List.length_append, List.length_take]
  split <;> simp <;> omega
theorem take_one_more {α : Type} {F : List α} {j : Nat} (hj : j < F.length) : F.take (j + 1) = F.take j ++ [F[j]] := List.take_succ_eq_append_getElem hj
theorem gathS_step (k y z : Int) (e : Int × Int × Int) (rs : List (Int × Int × Int)) {i : Nat} (h1 : 1 ≤ i) (hi : i < (e :: rs).length) :
    gathS k y z rs (i + 1) = gathS k y z rs i ++ [((e :: rs)[i].1, (e :: rs)[i].2.1, if k = 3 ∧ i = 1 then min (e :: rs)[i].2.2 (z - 1) else (e :: rs)[i].2.2)] := by
  obtain ⟨j, rfl⟩ : ∃ j, i = j + 1 := ⟨i - 1, by omega⟩
  have hj : j < rs.length := by simpa using hi
  unfold gathS
  simp only [Nat.add_sub_cancel, List.getElem_cons_succ]
  by_cases h3 : k = 3
  · simp only [if_pos h3, List.nil_append]
    rw [take_one_more (by rw [firstR_length]; exact hj)]
    congr 1
    cases rs with
    | nil => simp at hj
    | cons r t =>
      cases j with
      | zero => simp [firstR, h3]
      | succ j => simp [firstR]
  · simp only [if_neg h3]
    simp [h3]
    exact take_one_more hj
theorem forwardR_ok {l : List (Int × Int × Int)} {x y z : Int} {rs : List (Int × Int × Int)} {ttl f1 f2 : Int} (hs : fnd l x = some (f1, f2)) (hz : z ≠ 0) :
    forwardR l x y z rs ttl = .ok (f1, gathS f2 y z rs (rs.length + 1), if f2 = 3 ∧ rs = [] then min ttl (z - 1) else ttl) := by
  unfold forwardR gathS
  rw [hs]
  simp only [if_neg hz, Nat.add_sub_cancel]
  by_cases h3 : f2 = 3
  · simp only [if_pos h3]
    cases rs with
    | nil => simp [firstR, h3]
    | cons r t => simp [firstR]
  · simp only [if_neg h3]
    simp [h3]

set_option maxRecDepth 100000 in
set_option maxHeartbeats 3200000 in
theorem refstep_calls (A1 A2 : Option Addr) (n1 c1 n2 c2 : Nat) (l u : List (Int × Int × Int)) (most : Int) (a : Option Addr) (n c : Nat) (es : List (Int × Int × Int)) (tun ttl : Int) (pay : ByteArray) (w : World) (h1 : Row ec w w.heap.size A1 n1 l) (h2 : Row ec w w.heap.size A2 n2 u) (hr : Row ec w w.heap.size a n es) (hn1 : n1 ≤ 1099511627776) (hn2 : n2 ≤ 1099511627776) (hn : n ≤ 1099511627776) :
    Calls Try.prog 20 #[.agg #[.slice A1 n1 c1, .slice A2 n2 c2, .int .i64 most], .agg #[.slice a n c, .int .i64 tun, .int .i64 ttl, .string pay]] w (StepPost w (stepR l u es tun ttl pay.size) tun pay) := by
  have K0 := Lib.hid (bel_new (bel_new (bel_new (Below.refl w.heap.size w) (.cells #[.slice A1 n1 c1, .slice A2 n2 c2, .int .i64 most] 28)) (.cells #[.slice a n c, .int .i64 tun, .int .i64 ttl, .string pay] 33)) (.cells #[.slice none 0 0, .int .i64 0, .int .i64 0, .string ⟨#[]⟩] 33))
  have T0 := Lib.hid (((Blk.new w 28 [.slice A1 n1 c1, .slice A2 n2 c2, .int .i64 most]).alloc (.cells #[.slice a n c, .int .i64 tun, .int .i64 ttl, .string pay] 33)).alloc (.cells #[.slice none 0 0, .int .i64 0, .int .i64 0, .string ⟨#[]⟩] 33))
  have P0 := Lib.hid (show Blk (((w.alloc (.cells #[.slice A1 n1 c1, .slice A2 n2 c2, .int .i64 most] 28)).alloc (.cells #[.slice a n c, .int .i64 tun, .int .i64 ttl, .string pay] 33)).alloc (.cells #[.slice none 0 0, .int .i64 0, .int .i64 0, .string ⟨#[]⟩] 33)) (w.heap.size + 1) 33 [.slice a n c, .int .i64 tun, .int .i64 ttl, .string pay] by
    have := (Blk.new (w.alloc (.cells #[.slice A1 n1 c1, .slice A2 n2 c2, .int .i64 most] 28)) 33 [.slice a n c, .int .i64 tun, .int .i64 ttl, .string pay]).alloc (.cells #[.slice none 0 0, .int .i64 0, .int .i64 0, .string ⟨#[]⟩] 33)
    rwa [World.size_alloc] at this)
  have R0 := Lib.hid (show Blk (((w.alloc (.cells #[.slice A1 n1 c1, .slice A2 n2 c2, .int .i64 most] 28)).alloc (.cells #[.slice a n c, .int .i64 tun, .int .i64 ttl, .string pay] 33)).alloc (.cells #[.slice none 0 0, .int .i64 0, .int .i64 0, .string ⟨#[]⟩] 33)) (w.heap.size + 2) 33 [.slice none 0 0, .int .i64 0, .int .i64 0, .string ⟨#[]⟩] by
    have := Blk.new ((w.alloc (.cells #[.slice A1 n1 c1, .slice A2 n2 c2, .int .i64 most] 28)).alloc (.cells #[.slice a n c, .int .i64 tun, .int .i64 ttl, .string pay] 33)) 33 [.slice none 0 0, .int .i64 0, .int .i64 0, .string ⟨#[]⟩]
    rwa [World.size_alloc, World.size_alloc] at this)
  have SZ := Lib.hid (show (((w.alloc (.cells #[.slice A1 n1 c1, .slice A2 n2 c2, .int .i64 most] 28)).alloc (.cells #[.slice a n c, .int .i64 tun, .int .i64 ttl, .string pay] 33)).alloc (.cells #[.slice none 0 0, .int .i64 0, .int .i64 0, .string ⟨#[]⟩] 33)).heap.size = w.heap.size + 3 by simp)
  have H1 := Lib.hid ((h1.below K0.out).more K0.out.size)
  have H2 := Lib.hid ((h2.below K0.out).more K0.out.size)
  have RW := Lib.hid ((hr.below K0.out).more K0.out.size)
  have HL := Lib.hid hr.1
  clear h1 h2 hr
  go_enter Try.func20, Try.ntmps20
  go_wp2_with fail
  generalize (((w.alloc (.cells #[.slice A1 n1 c1, .slice A2 n2 c2, .int .i64 most] 28)).alloc (.cells #[.slice a n c, .int .i64 tun, .int .i64 ttl, .string pay] 33)).alloc (.cells #[.slice none 0 0, .int .i64 0, .int .i64 0, .string ⟨#[]⟩] 33)) = w1 at *
  ((with_reducible refine (refPacket_calls a n c es tun ttl pay w1 RW.out hn).mono ?_))
  rintro e w2 ⟨rfl, k2⟩
  have K2 := Lib.hid (bel_more K0.out (Nat.le_refl _) k2)
  have T2 := Lib.hid (T0.out.below k2)
  have P2 := Lib.hid (P0.out.below k2)
  have R2 := Lib.hid (R0.out.below k2)
  have H12 := Lib.hid ((H1.out.below k2).more k2.size)
  have H22 := Lib.hid ((H2.out.below k2).more k2.size)
  have RW2 := Lib.hid ((RW.out.below k2).more k2.size)
  have S2 := Lib.hid (show w.heap.size + 3 ≤ w2.heap.size by have := k2.size; rw [SZ.out] at this; exact this)
  clear k2 T0 P0 R0 H1 H2 RW SZ
  cases hok : okPkt es ttl pay.size
  · have r0 : w2.cell? ⟨w.heap.size + 2, 0, none⟩ = some (.slice none 0 0) := R2.out.cell 0
    have r1 : w2.cell? ⟨w.heap.size + 2, 1, none⟩ = some (.int .i64 0) := R2.out.cell 1
    have r2 : w2.cell? ⟨w.heap.size + 2, 2, none⟩ = some (.int .i64 0) := R2.out.cell 2
    have r3 : w2.cell? ⟨w.heap.size + 2, 3, none⟩ = some (.string ⟨#[]⟩) := R2.out.cell 3
    have g0' := R2.out.free 0
    have g1' := R2.out.free 1
    have g2' := R2.out.free 2
    have g3' := R2.out.free 3
    go_wp2
    have hq := R2.out.set4 (.slice none 0 0) (.int .i64 0) (.int .i64 0) (.string ⟨#[]⟩)
    have y0 := hq.cell 0
    have y1 := hq.cell 1
    have y2 := hq.cell 2
    have y3 := hq.cell 3
    simp only [List.getElem?_cons_zero, List.getElem?_cons_succ] at y0 y1 y2 y3
    refine bodyPost_ret (v := .tuple #[.int .i64 0, .agg #[.slice none 0 0, .int .i64 0, .int .i64 0, .string ⟨#[]⟩], .int .i64 2]) (by simp [results, Try.results20, go_sem, y0, y1, y2, y3]) rfl ?_
    exact stepPost_err (bel_set4 K2.out (by omega) _ _ _ _) (by unfold stepR; rw [hok]; rfl) rfl
  have HY := Lib.hid (okPkt_yes hok)
  have HOK := Lib.hid hok
  clear hok
  have ht0 := HY.out.2.2.2.1
  have ht1 := HY.out.2.2.2.2
  have p0 : w2.cell? ⟨w.heap.size + 1, 0, none⟩ = some (.slice a n c) := P2.out.cell 0
  cases es with
  | nil =>
    obtain rfl : n = 0 := HL.out.symm
    have p1 : w2.cell? ⟨w.heap.size + 1, 1, none⟩ = some (.int .i64 tun) := P2.out.cell 1
    have p2 : w2.cell? ⟨w.heap.size + 1, 2, none⟩ = some (.int .i64 ttl) := P2.out.cell 2
    have p3 : w2.cell? ⟨w.heap.size + 1, 3, none⟩ = some (.string pay) := P2.out.cell 3
    have t0 : w2.cell? ⟨w.heap.size, 0, none⟩ = some (.slice A1 n1 c1) := T2.out.cell 0
    have t1 : w2.cell? ⟨w.heap.size, 1, none⟩ = some (.slice A2 n2 c2) := T2.out.cell 1
    have t2 : w2.cell? ⟨w.heap.size, 2, none⟩ = some (.int .i64 most) := T2.out.cell 2
    have HB := Lib.hid (refbegins_calls A1 A2 n1 c1 n2 c2 u most a 0 c tun ttl pay w2 H22.out hn2 ht0 ht1)
    have HE := Lib.hid (show stepR l u [] tun ttl pay.size = beginR u tun ttl by unfold stepR; rw [HOK.out]; rfl)
    go_wp2_with fail
    ((with_reducible refine HB.out.mono ?_))
    rintro e w3 hp3
    obtain ⟨nx, er, A, c3, n3, tun', ttl', pay', rfl, k3, hfin⟩ := stepPost_more hp3 K2.out (Below.refl w2.heap.size w2)
    have R3 := Lib.hid (R2.out.below k3)
    have RL := Lib.hid R2.out.lt
    have K3 := Lib.hid (bel_more K2.out (Nat.le_refl _) k3)
    have HF := Lib.hid hfin
    clear hp3 k3 hfin p0 p1 p2 p3 t0 t1 t2
    have r0 : w3.cell? ⟨w.heap.size + 2, 0, none⟩ = some (.slice none 0 0) := R3.out.cell 0
    have r1 : w3.cell? ⟨w.heap.size + 2, 1, none⟩ = some (.int .i64 0) := R3.out.cell 1
    have r2 : w3.cell? ⟨w.heap.size + 2, 2, none⟩ = some (.int .i64 0) := R3.out.cell 2
    have r3 : w3.cell? ⟨w.heap.size + 2, 3, none⟩ = some (.string ⟨#[]⟩) := R3.out.cell 3
    have f0 := R3.out.free 0
    have f1 := R3.out.free 1
    have f2 := R3.out.free 2
    have f3 := R3.out.free 3
    go_wp2
    have hq := R3.out.set4 (.slice A n3 c3) (.int .i64 tun') (.int .i64 ttl') (.string pay')
    have y0 := hq.cell 0
    have y1 := hq.cell 1
    have y2 := hq.cell 2
    have y3 := hq.cell 3
    simp only [List.getElem?_cons_zero, List.getElem?_cons_succ] at y0 y1 y2 y3
    refine bodyPost_ret (v := .tuple #[.int .i64 nx, .agg #[.slice A n3 c3, .int .i64 tun', .int .i64 ttl', .string pay'], .int .i64 er]) (by simp [results, Try.results20, go_sem, y0, y1, y2, y3]) rfl ?_
    rw [HE.out]
    refine HF.out _ (bel_set4 (q := w.heap.size + 2) K3.out (by omega) _ _ _ _) (fun es he => ?_)
    exact accr_setBelow (accr_setBelow (accr_setBelow (accr_setBelow he RL.out _) RL.out _) RL.out _) RL.out _
  | cons e0 rs =>
    obtain ⟨x, y, z⟩ := e0
    have hn0 : rs.length + 1 = n := HL.out
    have h8 : n ≤ 8 := by have := HY.out.1; rw [HL.out] at this; exact this
    have hne : ((n : Int) == 0) = false := by rw [beq_eq_false_iff_ne]; omega
    obtain ⟨b, o, rfl, _, hc⟩ := row_at3 RW2.out (by omega)
    obtain ⟨d0, d1, d2⟩ := hc 0 (by simp)
    simp only [Nat.zero_mul, Nat.add_zero, List.getElem_cons_zero] at d0 d1 d2
    obtain ⟨_, _, _, _, z0, z1⟩ := may_yes (x := x) (y := y) (z := z) (HY.out.2.2.1 (x, y, z) (by simp))
    have HE := Lib.hid (show stepR l u ((x, y, z) :: rs) tun ttl pay.size = forwardR l x y z rs ttl by unfold stepR; rw [HOK.out]; rfl)
    clear hc
    have k3 := bel_new (Below.refl w2.heap.size w2) (.cells #[.int .i64 x, .int .i64 y, .int .i64 z] 61)
    have H3 := Lib.hid ((H12.out.below k3).more k3.size)
    have t0 : (w2.alloc (.cells #[.int .i64 x, .int .i64 y, .int .i64 z] 61)).cell? ⟨w.heap.size, 0, none⟩ = some (.slice A1 n1 c1) := (T2.out.below k3).cell 0
    have e0 : (w2.alloc (.cells #[.int .i64 x, .int .i64 y, .int .i64 z] 61)).cell? ⟨w2.heap.size, 0, none⟩ = some (.int .i64 x) := (Blk.new w2 61 [.int .i64 x, .int .i64 y, .int .i64 z]).cell 0
    go_wp2_with fail
    ((with_reducible refine (reffind_calls A1 n1 c1 l x _ H3.out hn1).mono ?_))
    rintro e w4 ⟨rfl, b4⟩
    have HF := Lib.hid (show fndR l x = ((fndR l x).1, (fndR l x).2.1, (fndR l x).2.2) from rfl)
    generalize (fndR l x).1 = f0 at *
    generalize (fndR l x).2.1 = f1 at *
    generalize (fndR l x).2.2 = f2 at *
    have k5 := bel_new b4 (.cells #[.int .i64 f0, .int .i64 f1, .int .i64 f2] 77)
    have K5 := Lib.hid (bel_more (bel_more K2.out (Nat.le_refl _) k3) (Nat.le_refl _) k5)
    have P5 := Lib.hid ((P2.out.below k3).below k5)
    have R5 := Lib.hid ((R2.out.below k3).below k5)
    have O5 := Lib.hid ((Blk.new w2 61 [.int .i64 x, .int .i64 y, .int .i64 z]).below k5)
    have X5 := Lib.hid (Blk.new w4 77 [.int .i64 f0, .int .i64 f1, .int .i64 f2])
    have RW5 := Lib.hid ((((RW2.out.below k3).more k3.size).below k5).more k5.size)
    have QS := Lib.hid (show w.heap.size + 3 ≤ w4.heap.size by have hh := b4.size; rw [World.size_alloc] at hh; have := S2.out; omega)
    clear b4 k3 k5 t0 e0 p0 d0 d1 d2 T2 P2 R2 H12 H22 RW2 K2 H3 hn0
    go_upto_region 7 with fail
    generalize w4.alloc (.cells #[.int .i64 f0, .int .i64 f1, .int .i64 f2] 77) = w5 at *
    generalize w4.heap.size = q at *
    generalize w2.heap.size = q1 at *
    have QQ := QS.out
    have S5 := Lib.hid (show w.heap.size + 3 ≤ w5.heap.size by have := X5.out.lt; omega)
    cases hs : (fnd l x).isSome
    · have hf : fnd l x = none := by simpa using hs
      have r0 : w5.cell? ⟨w.heap.size + 2, 0, none⟩ = some (.slice none 0 0) := R5.out.cell 0
      have r1 : w5.cell? ⟨w.heap.size + 2, 1, none⟩ = some (.int .i64 0) := R5.out.cell 1
      have r2 : w5.cell? ⟨w.heap.size + 2, 2, none⟩ = some (.int .i64 0) := R5.out.cell 2
      have r3 : w5.cell? ⟨w.heap.size + 2, 3, none⟩ = some (.string ⟨#[]⟩) := R5.out.cell 3
      have g0' := R5.out.free 0
      have g1' := R5.out.free 1
      have g2' := R5.out.free 2
      have g3' := R5.out.free 3
      go_wp2
      have hq := R5.out.set4 (.slice none 0 0) (.int .i64 0) (.int .i64 0) (.string ⟨#[]⟩)
      have y0 := hq.cell 0
      have y1 := hq.cell 1
      have y2 := hq.cell 2
      have y3 := hq.cell 3
      simp only [List.getElem?_cons_zero, List.getElem?_cons_succ] at y0 y1 y2 y3
      refine bodyPost_ret (v := .tuple #[.int .i64 0, .agg #[.slice none 0 0, .int .i64 0, .int .i64 0, .string ⟨#[]⟩], .int .i64 11]) (by simp [results, Try.results20, go_sem, y0, y1, y2, y3]) rfl ?_
      exact stepPost_err (bel_set4 K5.out (by omega) _ _ _ _) (by rw [HE.out]; unfold forwardR; rw [hf]) rfl
    obtain ⟨pp, hpp⟩ := Option.isSome_iff_exists.1 hs
    have hfr : (f0, f1, f2) = (x, pp) := by rw [← HF.out]; unfold fndR; rw [hpp]
    have HS := Lib.hid (show fnd l x = some (f1, f2) by rw [hpp]; injection hfr with _ e; rw [e])
    clear hs hpp hfr
    by_cases hz : z = 0
    · subst hz
      have o2 : w5.cell? ⟨q1, 2, none⟩ = some (.int .i64 0) := O5.out.cell 2
      have r0 : w5.cell? ⟨w.heap.size + 2, 0, none⟩ = some (.slice none 0 0) := R5.out.cell 0
      have r1 : w5.cell? ⟨w.heap.size + 2, 1, none⟩ = some (.int .i64 0) := R5.out.cell 1
      have r2 : w5.cell? ⟨w.heap.size + 2, 2, none⟩ = some (.int .i64 0) := R5.out.cell 2
      have r3 : w5.cell? ⟨w.heap.size + 2, 3, none⟩ = some (.string ⟨#[]⟩) := R5.out.cell 3
      have g0' := R5.out.free 0
      have g1' := R5.out.free 1
      have g2' := R5.out.free 2
      have g3' := R5.out.free 3
      go_wp2
      have hq := R5.out.set4 (.slice none 0 0) (.int .i64 0) (.int .i64 0) (.string ⟨#[]⟩)
      have y0 := hq.cell 0
      have y1 := hq.cell 1
      have y2 := hq.cell 2
      have y3 := hq.cell 3
      simp only [List.getElem?_cons_zero, List.getElem?_cons_succ] at y0 y1 y2 y3
      refine bodyPost_ret (v := .tuple #[.int .i64 0, .agg #[.slice none 0 0, .int .i64 0, .int .i64 0, .string ⟨#[]⟩], .int .i64 10]) (by simp [results, Try.results20, go_sem, y0, y1, y2, y3]) rfl ?_
      exact stepPost_err (bel_set4 K5.out (by omega) _ _ _ _) (by rw [HE.out]; unfold forwardR; rw [HS.out]; rfl) rfl
    have o2 : w5.cell? ⟨q1, 2, none⟩ = some (.int .i64 z) := O5.out.cell 2
    have x2 : w5.cell? ⟨q, 2, none⟩ = some (.int .i64 f2) := X5.out.cell 2
    have HFW := Lib.hid (forwardR_ok (y := y) (rs := rs) (ttl := ttl) HS.out hz)
    by_cases h3 : f2 = 3
    · subst h3
      go_wp2_with fail
      clear o2 x2
      go_loopw [10, 11] (fun s t W => ∃ (i cc : Nat) (A : Option Addr), 1 ≤ i ∧ i ≤ n ∧ t = .int .i64 (i : Int) ∧ s = .slice A (gathS 3 y z rs i).length cc ∧ AccE W w5.heap.size A cc (gathS 3 y z rs i) ∧ Below w5.heap.size w5 W) (fun _ t _ => n - (intOf t).toNat)
      case atStart => exact ⟨1, 0, none, Nat.le_refl _, by have := HL.out; simp at this; omega, rfl, by rw [gathS_one]; rfl, by rw [gathS_one]; exact AccR.nil _ _ _, Below.refl _ _⟩
      case round =>
        obtain ⟨i, cc, A, h1i, hin, rfl, rfl, hA, hB⟩ := hrel
        have HA := Lib.hid hA
        have HB := Lib.hid hB
        have GL := Lib.hid (gathS_len 3 y z rs h1i)
        have p0 : wr.cell? ⟨w.heap.size + 1, 0, none⟩ = some (.slice (some ⟨b, o, none⟩) n c) := (P5.out.below hB).cell 0
        by_cases hlt : i < n
        · have hil : i < ((x, y, z) :: rs).length := by rw [HL.out]; exact hlt
          obtain ⟨b', o', hbe, _, hc⟩ := row_at3 (RW5.out.below hB) (by omega)
          cases hbe
          obtain ⟨d0, d1, d2⟩ := hc i hil
          clear hc
          have CT := Lib.hid (gathS_step 3 y z (x, y, z) rs h1i hil)
          have hm := may_yes (HY.out.2.2.1 _ (List.getElem_mem hil))
          obtain ⟨_, _, _, _, s0, s1⟩ := hm
          clear hA hB
          generalize ((x, y, z) :: rs)[i].1 = v0' at *
          generalize ((x, y, z) :: rs)[i].2.1 = v1' at *
          generalize ((x, y, z) :: rs)[i].2.2 = v2' at *
          generalize HG : gathS 3 y z rs i = gl at *
          by_cases hi1 : i = 1
          · subst hi1
            have Y6 := Lib.hid (Blk.new wr 61 [.int .i64 v0', .int .i64 v1', .int .i64 v2'])
            have A6 := Lib.hid (show AccE (wr.alloc (.cells #[.int .i64 v0', .int .i64 v1', .int .i64 v2'] 61)) w5.heap.size A cc gl from HA.out.alloc _)
            have K6 := Lib.hid (bel_new HB.out (.cells #[.int .i64 v0', .int .i64 v1', .int .i64 v2'] 61))
            have x2 : (wr.alloc (.cells #[.int .i64 v0', .int .i64 v1', .int .i64 v2'] 61)).cell? ⟨q, 2, none⟩ = some (.int .i64 3) := (X5.out.below K6.out).cell 2
            have o2 : (wr.alloc (.cells #[.int .i64 v0', .int .i64 v1', .int .i64 v2'] 61)).cell? ⟨q1, 2, none⟩ = some (.int .i64 z) := (O5.out.below K6.out).cell 2
            have y2 : (wr.alloc (.cells #[.int .i64 v0', .int .i64 v1', .int .i64 v2'] 61)).cell? ⟨wr.heap.size, 2, none⟩ = some (.int .i64 v2') := Y6.out.cell 2
            have gf := Y6.out.free 2
            go_upto_region 20 with fail
            rw [show (if z - 1 < v2' then z - 1 else v2') = min v2' (z - 1) by split <;> omega]
            clear x2 o2 d0 d1 d2 p0 y2 gf
            clear Y6 A6 K6
            have Y6' := Lib.hid (Blk.new wr 61 [.int .i64 v0', .int .i64 v1', .int .i64 (min v2' (z - 1))])
            have A6' := Lib.hid (show AccE (wr.alloc (.cells #[.int .i64 v0', .int .i64 v1', .int .i64 (min v2' (z - 1))] 61)) w5.heap.size A cc gl from HA.out.alloc _)
            have K6' := Lib.hid (bel_new HB.out (.cells #[.int .i64 v0', .int .i64 v1', .int .i64 (min v2' (z - 1))] 61))
            clear HA HB
            generalize wr.alloc (.cells #[.int .i64 v0', .int .i64 v1', .int .i64 (min v2' (z - 1))] 61) = w6 at *
            generalize wr.heap.size = g at *
            have CT2 := Lib.hid (show gathS 3 y z rs (1 + 1) = gl ++ [(v0', v1', min v2' (z - 1))] by rw [CT.out]; simp)
            generalize min v2' (z - 1) = rv at *
            obtain ⟨A7, c7, w7, r7, a7, g7⟩ := acce_push A6'.out (v0', v1', rv) K6'.out.size (by have := GL.out; omega) 31
            have R7 := Lib.hid r7
            have A7' := Lib.hid a7
            have K7 := Lib.hid (belr_acc K6'.out A6'.out g7)
            simp only [ec] at R7
            have y0 : w6.cell? ⟨g, 0, none⟩ = some (.int .i64 v0') := Y6'.out.cell 0
            have y1 : w6.cell? ⟨g, 1, none⟩ = some (.int .i64 v1') := Y6'.out.cell 1
            have y2 : w6.cell? ⟨g, 2, none⟩ = some (.int .i64 rv) := Y6'.out.cell 2
            clear r7 a7 g7
            go_wp2_with (at_builtin; refine step_append rfl rfl rfl rfl R7.out ?_)
            exact ⟨⟨1 + 1, c7, A7, by omega, by omega, by go_num, by rw [CT2.out]; simp, by rw [CT2.out]; exact A7'.out, K7.out⟩, by simp [intOf]; omega⟩
          · have hib : ((i : Int) == 1) = false := by rw [beq_eq_false_iff_ne]; omega
            have Y6 := Lib.hid (Blk.new wr 61 [.int .i64 v0', .int .i64 v1', .int .i64 v2'])
            have A6 := Lib.hid (show AccE (wr.alloc (.cells #[.int .i64 v0', .int .i64 v1', .int .i64 v2'] 61)) w5.heap.size A cc gl from HA.out.alloc _)
            have K6 := Lib.hid (bel_new HB.out (.cells #[.int .i64 v0', .int .i64 v1', .int .i64 v2'] 61))
            have x2 : (wr.alloc (.cells #[.int .i64 v0', .int .i64 v1', .int .i64 v2'] 61)).cell? ⟨q, 2, none⟩ = some (.int .i64 3) := (X5.out.below K6.out).cell 2
            have o2 : (wr.alloc (.cells #[.int .i64 v0', .int .i64 v1', .int .i64 v2'] 61)).cell? ⟨q1, 2, none⟩ = some (.int .i64 z) := (O5.out.below K6.out).cell 2
            go_upto_region 20 with fail
            clear x2 o2 d0 d1 d2 p0 HA HB
            generalize wr.alloc (.cells #[.int .i64 v0', .int .i64 v1', .int .i64 v2'] 61) = w6 at *
            generalize wr.heap.size = g at *
            have CT2 := Lib.hid (show gathS 3 y z rs (i + 1) = gl ++ [(v0', v1', v2')] by rw [CT.out]; simp [hi1])
            obtain ⟨A7, c7, w7, r7, a7, g7⟩ := acce_push A6.out (v0', v1', v2') K6.out.size (by have := GL.out; omega) 31
            have R7 := Lib.hid r7
            have A7' := Lib.hid a7
            have K7 := Lib.hid (belr_acc K6.out A6.out g7)
            simp only [ec] at R7
            have y0 : w6.cell? ⟨g, 0, none⟩ = some (.int .i64 v0') := Y6.out.cell 0
            have y1 : w6.cell? ⟨g, 1, none⟩ = some (.int .i64 v1') := Y6.out.cell 1
            have y2 : w6.cell? ⟨g, 2, none⟩ = some (.int .i64 v2') := Y6.out.cell 2
            clear r7 a7 g7
            go_wp2_with (at_builtin; refine step_append rfl rfl rfl rfl R7.out ?_)
            exact ⟨⟨i + 1, c7, A7, by omega, by omega, by go_num, by rw [CT2.out]; simp, by rw [CT2.out]; exact A7'.out, K7.out⟩, by simp [intOf]; omega⟩
        · have hin' : i = n := by omega
          subst hin'
          have HG := Lib.hid (show gathS 3 y z rs i = gathS 3 y z rs (rs.length + 1) by rw [show rs.length + 1 = i from HL.out])
          rw [HG.out] at HA ⊢
          have P6 := Lib.hid (P5.out.below hB)
          have R6 := Lib.hid (R5.out.below hB)
          have X6 := Lib.hid (X5.out.below hB)
          have O6 := Lib.hid (O5.out.below hB)
          have K6 := Lib.hid (bel_more K5.out (Nat.le_refl _) hB)
          have A6 := Lib.hid (HA.out.lower S5.out)
          clear hA hB HA HB HG
          have x2 : wr.cell? ⟨q, 2, none⟩ = some (.int .i64 3) := X6.out.cell 2
          have o2 : wr.cell? ⟨q1, 2, none⟩ = some (.int .i64 z) := O6.out.cell 2
          have p2 : wr.cell? ⟨w.heap.size + 1, 2, none⟩ = some (.int .i64 ttl) := P6.out.cell 2
          have g0 := P6.out.free 0
          have g2 := P6.out.free 2
          generalize gathS 3 y z rs (rs.length + 1) = gl at *
          cases rs with
          | nil =>
            obtain rfl : i = 1 := HL.out.symm
            go_upto_region 23 with fail
            rw [show (if z - 1 < ttl then z - 1 else ttl) = min ttl (z - 1) by split <;> omega]
            have K7 := Lib.hid (K6.out.setCell (p := ⟨w.heap.size + 1, 2, none⟩) (by show w.heap.size ≤ w.heap.size + 1; omega) (.int .i64 (min ttl (z - 1))))
            have P7 := Lib.hid (show Blk (wr.setCell ⟨w.heap.size + 1, 2, none⟩ (.int .i64 (min ttl (z - 1)))) (w.heap.size + 1) 33 [.slice (some ⟨b, o, none⟩) 1 c, .int .i64 tun, .int .i64 (min ttl (z - 1)), .string pay] from P6.out.set 2 _)
            have R7 := Lib.hid (R6.out.other (p := ⟨w.heap.size + 1, 2, none⟩) (by simp) (.int .i64 (min ttl (z - 1))))
            have X7 := Lib.hid (X6.out.other (p := ⟨w.heap.size + 1, 2, none⟩) (by show w.heap.size + 1 ≠ q; omega) (.int .i64 (min ttl (z - 1))))
            have A7 := Lib.hid (show AccE (wr.setCell ⟨w.heap.size + 1, 2, none⟩ (.int .i64 (min ttl (z - 1)))) (w.heap.size + 3) A cc gl from accr_setBelow A6.out (by show w.heap.size + 1 < w.heap.size + 3; omega) _)
            have HFW2 := Lib.hid (show forwardR l x y z [] ttl = .ok (f1, gl, min ttl (z - 1)) by rw [HFW.out]; simp)
            clear x2 o2 p2 p0 g0 g2 P6 R6 X6 K6 A6
            generalize min ttl (z - 1) = tm at *
            generalize wr.setCell ⟨w.heap.size + 1, 2, none⟩ (.int .i64 tm) = w7 at *
            have p0 : w7.cell? ⟨w.heap.size + 1, 0, none⟩ = some (.slice (some ⟨b, o, none⟩) 1 c) := P7.out.cell 0
            have g0 := P7.out.free 0
            go_upto_region 24 with fail
            have K8 := Lib.hid (K7.out.setCell (p := ⟨w.heap.size + 1, 0, none⟩) (by show w.heap.size ≤ w.heap.size + 1; omega) (.slice A gl.length cc))
            have P8 := Lib.hid (show Blk (w7.setCell ⟨w.heap.size + 1, 0, none⟩ (.slice A gl.length cc)) (w.heap.size + 1) 33 [.slice A gl.length cc, .int .i64 tun, .int .i64 tm, .string pay] from P7.out.set 0 _)
            have R8 := Lib.hid (R7.out.other (p := ⟨w.heap.size + 1, 0, none⟩) (by simp) (.slice A gl.length cc))
            have X8 := Lib.hid (X7.out.other (p := ⟨w.heap.size + 1, 0, none⟩) (by show w.heap.size + 1 ≠ q; omega) (.slice A gl.length cc))
            have A8 := Lib.hid (show AccE (w7.setCell ⟨w.heap.size + 1, 0, none⟩ (.slice A gl.length cc)) (w.heap.size + 3) A cc gl from accr_setBelow A7.out (by show w.heap.size + 1 < w.heap.size + 3; omega) _)
            clear p0 g0 P7 R7 X7 K7 A7
            generalize w7.setCell ⟨w.heap.size + 1, 0, none⟩ (.slice A gl.length cc) = w8 at *
            refine region_seq (fun W => W.cell? ⟨q, 1, none⟩ = some (.int .i64 f1) ∧ W.cell? ⟨w.heap.size + 1, 0, none⟩ = some (.slice A gl.length cc) ∧ W.cell? ⟨w.heap.size + 1, 1, none⟩ = some (.int .i64 tun) ∧ W.cell? ⟨w.heap.size + 1, 2, none⟩ = some (.int .i64 tm) ∧ W.cell? ⟨w.heap.size + 1, 3, none⟩ = some (.string pay))
              [(0, true), (1, true), (2, true), (3, true), (4, false), (5, true)]
              (by kernel_rfl) (by kernel_rfl) (by kernel_rfl) (by kernel_rfl) (fun _ _ _ _ _ h => h) ⟨X8.out.cell 1, P8.out.cell 0, P8.out.cell 1, P8.out.cell 2, P8.out.cell 3⟩ ?_
            repeat
              refine seq_pure (v := ?_) rfl (by rfl) (fun W hW => ?_) ?_
              rotate_left
              · obtain ⟨d0, d1, d2, d3, d4⟩ := hW
                go_simp
                try with_reducible rfl
              simp only [Act.put, List.setIfInBounds_toArray, List.set_cons_zero, List.set_cons_succ]
            refine seq_make rfl (by rfl) (fun K hK => ?_)
            have r0 : w8.cell? ⟨w.heap.size + 2, 0, none⟩ = some (.slice none 0 0) := R8.out.cell 0
            have r1 : w8.cell? ⟨w.heap.size + 2, 1, none⟩ = some (.int .i64 0) := R8.out.cell 1
            have r2 : w8.cell? ⟨w.heap.size + 2, 2, none⟩ = some (.int .i64 0) := R8.out.cell 2
            have r3 : w8.cell? ⟨w.heap.size + 2, 3, none⟩ = some (.string ⟨#[]⟩) := R8.out.cell 3
            have f0 := R8.out.free 0
            have f1' := R8.out.free 1
            have f2' := R8.out.free 2
            have f3 := R8.out.free 3
            go_simp
            clear r0 r1 r2 r3 f0 f1' f2' f3
            have X9 := Lib.hid (X8.out.other4 (p := w.heap.size + 2) (by omega) (.slice A gl.length cc) (.int .i64 tun) (.int .i64 tm) (.string pay))
            have P9 := Lib.hid (P8.out.other4 (p := w.heap.size + 2) (by omega) (.slice A gl.length cc) (.int .i64 tun) (.int .i64 tm) (.string pay))
            have R9 := Lib.hid (R8.out.set4 (.slice A gl.length cc) (.int .i64 tun) (.int .i64 tm) (.string pay))
            have K9 := Lib.hid (bel_set4 (q := w.heap.size + 2) K8.out (by omega) (.slice A gl.length cc) (.int .i64 tun) (.int .i64 tm) (.string pay))
            have A9 := Lib.hid (show AccE ((((w8.setCell ⟨w.heap.size + 2, 0, none⟩ (.slice A gl.length cc)).setCell ⟨w.heap.size + 2, 1, none⟩ (.int .i64 tun)).setCell ⟨w.heap.size + 2, 2, none⟩ (.int .i64 tm)).setCell ⟨w.heap.size + 2, 3, none⟩ (.string pay)) (w.heap.size + 3) A cc gl from accr_setBelow (accr_setBelow (accr_setBelow (accr_setBelow A8.out (by show w.heap.size + 2 < w.heap.size + 3; omega) _) (by show w.heap.size + 2 < w.heap.size + 3; omega) _) (by show w.heap.size + 2 < w.heap.size + 3; omega) _) (by show w.heap.size + 2 < w.heap.size + 3; omega) _)
            generalize ((((w8.setCell ⟨w.heap.size + 2, 0, none⟩ (.slice A gl.length cc)).setCell ⟨w.heap.size + 2, 1, none⟩ (.int .i64 tun)).setCell ⟨w.heap.size + 2, 2, none⟩ (.int .i64 tm)).setCell ⟨w.heap.size + 2, 3, none⟩ (.string pay)) = w9 at *
            refine hK _ _ (fun W => W.cell? ⟨q, 1, none⟩ = some (.int .i64 f1) ∧ W.cell? ⟨w.heap.size + 1, 0, none⟩ = some (.slice A gl.length cc) ∧ W.cell? ⟨w.heap.size + 1, 1, none⟩ = some (.int .i64 tun) ∧ W.cell? ⟨w.heap.size + 1, 2, none⟩ = some (.int .i64 tm) ∧ W.cell? ⟨w.heap.size + 1, 3, none⟩ = some (.string pay)) (fun W h => h) ⟨X9.out.cell 1, P9.out.cell 0, P9.out.cell 1, P9.out.cell 2, P9.out.cell 3⟩ ?_
            clear hK K
            repeat
              refine seq_pure (v := ?_) rfl (by rfl) (fun W hW => ?_) ?_
              rotate_left
              · clear hW
                go_simp
                try with_reducible rfl
              simp only [Act.put, List.setIfInBounds_toArray, List.set_cons_zero, List.set_cons_succ]
            refine seq_done ?_
            go_wp2
            have y0 : w9.cell? ⟨w.heap.size + 2, 0, none⟩ = some (.slice A gl.length cc) := R9.out.cell 0
            have y1 : w9.cell? ⟨w.heap.size + 2, 1, none⟩ = some (.int .i64 tun) := R9.out.cell 1
            have y2 : w9.cell? ⟨w.heap.size + 2, 2, none⟩ = some (.int .i64 tm) := R9.out.cell 2
            have y3 : w9.cell? ⟨w.heap.size + 2, 3, none⟩ = some (.string pay) := R9.out.cell 3
            refine bodyPost_ret (v := .tuple #[.int .i64 f1, .agg #[.slice A gl.length cc, .int .i64 tun, .int .i64 tm, .string pay], .int .i64 0]) (by simp [results, Try.results20, go_sem, y0, y1, y2, y3]) rfl ?_
            refine ⟨bel_drewN K9.out 1, .inr ⟨f1, gl, tm, A, cc, ?_, by first | rfl | (simp only [List.length_cons, List.length_nil]; done) | (rw [rfl]), A9.out.lower (by omega)⟩⟩
            rw [HE.out, HFW2.out]
          | cons r rs' =>
            have hi1 : ((i : Int) == 1) = false := by rw [beq_eq_false_iff_ne]; have := HL.out; simp at this; omega
            have HFW2 := Lib.hid (show forwardR l x y z (r :: rs') ttl = .ok (f1, gl, ttl) by rw [HFW.out]; simp)
            go_upto_region 24 with fail
            have K8 := Lib.hid (K6.out.setCell (p := ⟨w.heap.size + 1, 0, none⟩) (by show w.heap.size ≤ w.heap.size + 1; omega) (.slice A gl.length cc))
            have P8 := Lib.hid (show Blk (wr.setCell ⟨w.heap.size + 1, 0, none⟩ (.slice A gl.length cc)) (w.heap.size + 1) 33 [.slice A gl.length cc, .int .i64 tun, .int .i64 ttl, .string pay] from P6.out.set 0 _)
            have R8 := Lib.hid (R6.out.other (p := ⟨w.heap.size + 1, 0, none⟩) (by simp) (.slice A gl.length cc))
            have X8 := Lib.hid (X6.out.other (p := ⟨w.heap.size + 1, 0, none⟩) (by show w.heap.size + 1 ≠ q; omega) (.slice A gl.length cc))
            have A8 := Lib.hid (show AccE (wr.setCell ⟨w.heap.size + 1, 0, none⟩ (.slice A gl.length cc)) (w.heap.size + 3) A cc gl from accr_setBelow A6.out (by show w.heap.size + 1 < w.heap.size + 3; omega) _)
            clear x2 o2 p2 p0 g0 g2 P6 R6 X6 K6 A6
            generalize wr.setCell ⟨w.heap.size + 1, 0, none⟩ (.slice A gl.length cc) = w8 at *
            refine region_seq (fun W => W.cell? ⟨q, 1, none⟩ = some (.int .i64 f1) ∧ W.cell? ⟨w.heap.size + 1, 0, none⟩ = some (.slice A gl.length cc) ∧ W.cell? ⟨w.heap.size + 1, 1, none⟩ = some (.int .i64 tun) ∧ W.cell? ⟨w.heap.size + 1, 2, none⟩ = some (.int .i64 ttl) ∧ W.cell? ⟨w.heap.size + 1, 3, none⟩ = some (.string pay))
              [(0, true), (1, true), (2, true), (3, true), (4, false), (5, true)]
              (by kernel_rfl) (by kernel_rfl) (by kernel_rfl) (by kernel_rfl) (fun _ _ _ _ _ h => h) ⟨X8.out.cell 1, P8.out.cell 0, P8.out.cell 1, P8.out.cell 2, P8.out.cell 3⟩ ?_
            repeat
              refine seq_pure (v := ?_) rfl (by rfl) (fun W hW => ?_) ?_
              rotate_left
              · obtain ⟨d0, d1, d2, d3, d4⟩ := hW
                go_simp
                try with_reducible rfl
              simp only [Act.put, List.setIfInBounds_toArray, List.set_cons_zero, List.set_cons_succ]
            refine seq_make rfl (by rfl) (fun K hK => ?_)
            have r0 : w8.cell? ⟨w.heap.size + 2, 0, none⟩ = some (.slice none 0 0) := R8.out.cell 0
            have r1 : w8.cell? ⟨w.heap.size + 2, 1, none⟩ = some (.int .i64 0) := R8.out.cell 1
            have r2 : w8.cell? ⟨w.heap.size + 2, 2, none⟩ = some (.int .i64 0) := R8.out.cell 2
            have r3 : w8.cell? ⟨w.heap.size + 2, 3, none⟩ = some (.string ⟨#[]⟩) := R8.out.cell 3
            have f0 := R8.out.free 0
            have f1' := R8.out.free 1
            have f2' := R8.out.free 2
            have f3 := R8.out.free 3
            go_simp
            clear r0 r1 r2 r3 f0 f1' f2' f3
            have X9 := Lib.hid (X8.out.other4 (p := w.heap.size + 2) (by omega) (.slice A gl.length cc) (.int .i64 tun) (.int .i64 ttl) (.string pay))
            have P9 := Lib.hid (P8.out.other4 (p := w.heap.size + 2) (by omega) (.slice A gl.length cc) (.int .i64 tun) (.int .i64 ttl) (.string pay))
            have R9 := Lib.hid (R8.out.set4 (.slice A gl.length cc) (.int .i64 tun) (.int .i64 ttl) (.string pay))
            have K9 := Lib.hid (bel_set4 (q := w.heap.size + 2) K8.out (by omega) (.slice A gl.length cc) (.int .i64 tun) (.int .i64 ttl) (.string pay))
            have A9 := Lib.hid (show AccE ((((w8.setCell ⟨w.heap.size + 2, 0, none⟩ (.slice A gl.length cc)).setCell ⟨w.heap.size + 2, 1, none⟩ (.int .i64 tun)).setCell ⟨w.heap.size + 2, 2, none⟩ (.int .i64 ttl)).setCell ⟨w.heap.size + 2, 3, none⟩ (.string pay)) (w.heap.size + 3) A cc gl from accr_setBelow (accr_setBelow (accr_setBelow (accr_setBelow A8.out (by show w.heap.size + 2 < w.heap.size + 3; omega) _) (by show w.heap.size + 2 < w.heap.size + 3; omega) _) (by show w.heap.size + 2 < w.heap.size + 3; omega) _) (by show w.heap.size + 2 < w.heap.size + 3; omega) _)
            generalize ((((w8.setCell ⟨w.heap.size + 2, 0, none⟩ (.slice A gl.length cc)).setCell ⟨w.heap.size + 2, 1, none⟩ (.int .i64 tun)).setCell ⟨w.heap.size + 2, 2, none⟩ (.int .i64 ttl)).setCell ⟨w.heap.size + 2, 3, none⟩ (.string pay)) = w9 at *
            refine hK _ _ (fun W => W.cell? ⟨q, 1, none⟩ = some (.int .i64 f1) ∧ W.cell? ⟨w.heap.size + 1, 0, none⟩ = some (.slice A gl.length cc) ∧ W.cell? ⟨w.heap.size + 1, 1, none⟩ = some (.int .i64 tun) ∧ W.cell? ⟨w.heap.size + 1, 2, none⟩ = some (.int .i64 ttl) ∧ W.cell? ⟨w.heap.size + 1, 3, none⟩ = some (.string pay)) (fun W h => h) ⟨X9.out.cell 1, P9.out.cell 0, P9.out.cell 1, P9.out.cell 2, P9.out.cell 3⟩ ?_
            clear hK K
            repeat
              refine seq_pure (v := ?_) rfl (by rfl) (fun W hW => ?_) ?_
              rotate_left
              · clear hW
                go_simp
                try with_reducible rfl
              simp only [Act.put, List.setIfInBounds_toArray, List.set_cons_zero, List.set_cons_succ]
            refine seq_done ?_
            go_wp2
            have y0 : w9.cell? ⟨w.heap.size + 2, 0, none⟩ = some (.slice A gl.length cc) := R9.out.cell 0
            have y1 : w9.cell? ⟨w.heap.size + 2, 1, none⟩ = some (.int .i64 tun) := R9.out.cell 1
            have y2 : w9.cell? ⟨w.heap.size + 2, 2, none⟩ = some (.int .i64 ttl) := R9.out.cell 2
            have y3 : w9.cell? ⟨w.heap.size + 2, 3, none⟩ = some (.string pay) := R9.out.cell 3
            refine bodyPost_ret (v := .tuple #[.int .i64 f1, .agg #[.slice A gl.length cc, .int .i64 tun, .int .i64 ttl, .string pay], .int .i64 0]) (by simp [results, Try.results20, go_sem, y0, y1, y2, y3]) rfl ?_
            refine ⟨bel_drewN K9.out 1, .inr ⟨f1, gl, ttl, A, cc, ?_, by first | rfl | (simp only [List.length_cons, List.length_nil]; done) | (rw [rfl]), A9.out.lower (by omega)⟩⟩
            rw [HE.out, HFW2.out]
    · have hn3 : (!(f2 == 3)) = true := by simpa using h3
      have hn4 : (f2 == 3) = false := by simpa using h3
      have o1 : w5.cell? ⟨q1, 1, none⟩ = some (.int .i64 y) := O5.out.cell 1
      obtain ⟨A6, c6, w6, r6, a6, g6⟩ := acce_push (AccR.nil w5 w5.heap.size _ : AccE w5 w5.heap.size none 0 []) (f2, y, z - 1) (Nat.le_refl _) (by simp) 31
      have R6 := Lib.hid r6
      have A6' := Lib.hid a6
      have K6 := Lib.hid (belr_acc (Below.refl w5.heap.size w5) (AccR.nil w5 w5.heap.size _ : AccE w5 w5.heap.size none 0 []) g6)
      simp only [ec, List.length_nil] at R6
      clear r6 a6 g6
      go_wp2_with (at_builtin; refine step_append rfl rfl rfl rfl R6.out ?_)
      clear o2 x2 o1
      go_loopw [10, 11] (fun s t W => ∃ (i cc : Nat) (A : Option Addr), 1 ≤ i ∧ i ≤ n ∧ t = .int .i64 (i : Int) ∧ s = .slice A (gathS f2 y z rs i).length cc ∧ AccE W w5.heap.size A cc (gathS f2 y z rs i) ∧ Below w5.heap.size w5 W) (fun _ t _ => n - (intOf t).toNat)
      case atStart => exact ⟨1, c6, A6, Nat.le_refl _, by have := HL.out; simp at this; omega, rfl, by rw [gathS_one, if_neg h3]; rfl, by rw [gathS_one, if_neg h3]; exact A6'.out, K6.out⟩
      case round =>
        obtain ⟨i, cc, A, h1i, hin, rfl, rfl, hA, hB⟩ := hrel
        have HA := Lib.hid hA
        have HB := Lib.hid hB
        have GL := Lib.hid (gathS_len f2 y z rs h1i)
        have p0 : wr.cell? ⟨w.heap.size + 1, 0, none⟩ = some (.slice (some ⟨b, o, none⟩) n c) := (P5.out.below hB).cell 0
        by_cases hlt : i < n
        · have hil : i < ((x, y, z) :: rs).length := by rw [HL.out]; exact hlt
          obtain ⟨b', o', hbe, _, hc⟩ := row_at3 (RW5.out.below hB) (by omega)
          cases hbe
          obtain ⟨d0, d1, d2⟩ := hc i hil
          clear hc
          have CT := Lib.hid (gathS_step f2 y z (x, y, z) rs h1i hil)
          have hm := may_yes (HY.out.2.2.1 _ (List.getElem_mem hil))
          obtain ⟨_, _, _, _, s0, s1⟩ := hm
          clear hA hB
          generalize ((x, y, z) :: rs)[i].1 = v0' at *
          generalize ((x, y, z) :: rs)[i].2.1 = v1' at *
          generalize ((x, y, z) :: rs)[i].2.2 = v2' at *
          generalize HG : gathS f2 y z rs i = gl at *
          by_cases hi1 : i = 1
          · subst hi1
            have Y6 := Lib.hid (Blk.new wr 61 [.int .i64 v0', .int .i64 v1', .int .i64 v2'])
            have A6 := Lib.hid (show AccE (wr.alloc (.cells #[.int .i64 v0', .int .i64 v1', .int .i64 v2'] 61)) w5.heap.size A cc gl from HA.out.alloc _)
            have K6 := Lib.hid (bel_new HB.out (.cells #[.int .i64 v0', .int .i64 v1', .int .i64 v2'] 61))
            have x2 : (wr.alloc (.cells #[.int .i64 v0', .int .i64 v1', .int .i64 v2'] 61)).cell? ⟨q, 2, none⟩ = some (.int .i64 f2) := (X5.out.below K6.out).cell 2
            have o2 : (wr.alloc (.cells #[.int .i64 v0', .int .i64 v1', .int .i64 v2'] 61)).cell? ⟨q1, 2, none⟩ = some (.int .i64 z) := (O5.out.below K6.out).cell 2
            go_upto_region 20 with fail
            clear x2 o2 d0 d1 d2 p0 HA HB
            generalize wr.alloc (.cells #[.int .i64 v0', .int .i64 v1', .int .i64 v2'] 61) = w6 at *
            generalize wr.heap.size = g at *
            have CT2 := Lib.hid (show gathS f2 y z rs (1 + 1) = gl ++ [(v0', v1', v2')] by rw [CT.out]; simp [h3])
            obtain ⟨A7, c7, w7, r7, a7, g7⟩ := acce_push A6.out (v0', v1', v2') K6.out.size (by have := GL.out; omega) 31
            have R7 := Lib.hid r7
            have A7' := Lib.hid a7
            have K7 := Lib.hid (belr_acc K6.out A6.out g7)
            simp only [ec] at R7
            have y0 : w6.cell? ⟨g, 0, none⟩ = some (.int .i64 v0') := Y6.out.cell 0
            have y1 : w6.cell? ⟨g, 1, none⟩ = some (.int .i64 v1') := Y6.out.cell 1
            have y2 : w6.cell? ⟨g, 2, none⟩ = some (.int .i64 v2') := Y6.out.cell 2
            clear r7 a7 g7
            go_wp2_with (at_builtin; refine step_append rfl rfl rfl rfl R7.out ?_)
            exact ⟨⟨1 + 1, c7, A7, by omega, by omega, by go_num, by rw [CT2.out]; simp, by rw [CT2.out]; exact A7'.out, K7.out⟩, by simp [intOf]; omega⟩
          · have hib : ((i : Int) == 1) = false := by rw [beq_eq_false_iff_ne]; omega
            have Y6 := Lib.hid (Blk.new wr 61 [.int .i64 v0', .int .i64 v1', .int .i64 v2'])
            have A6 := Lib.hid (show AccE (wr.alloc (.cells #[.int .i64 v0', .int .i64 v1', .int .i64 v2'] 61)) w5.heap.size A cc gl from HA.out.alloc _)
            have K6 := Lib.hid (bel_new HB.out (.cells #[.int .i64 v0', .int .i64 v1', .int .i64 v2'] 61))
            have x2 : (wr.alloc (.cells #[.int .i64 v0', .int .i64 v1', .int .i64 v2'] 61)).cell? ⟨q, 2, none⟩ = some (.int .i64 f2) := (X5.out.below K6.out).cell 2
            have o2 : (wr.alloc (.cells #[.int .i64 v0', .int .i64 v1', .int .i64 v2'] 61)).cell? ⟨q1, 2, none⟩ = some (.int .i64 z) := (O5.out.below K6.out).cell 2
            go_upto_region 20 with fail
            clear x2 o2 d0 d1 d2 p0 HA HB
            generalize wr.alloc (.cells #[.int .i64 v0', .int .i64 v1', .int .i64 v2'] 61) = w6 at *
            generalize wr.heap.size = g at *
            have CT2 := Lib.hid (show gathS f2 y z rs (i + 1) = gl ++ [(v0', v1', v2')] by rw [CT.out]; simp [hi1])
            obtain ⟨A7, c7, w7, r7, a7, g7⟩ := acce_push A6.out (v0', v1', v2') K6.out.size (by have := GL.out; omega) 31
            have R7 := Lib.hid r7
            have A7' := Lib.hid a7
            have K7 := Lib.hid (belr_acc K6.out A6.out g7)
            simp only [ec] at R7
            have y0 : w6.cell? ⟨g, 0, none⟩ = some (.int .i64 v0') := Y6.out.cell 0
            have y1 : w6.cell? ⟨g, 1, none⟩ = some (.int .i64 v1') := Y6.out.cell 1
            have y2 : w6.cell? ⟨g, 2, none⟩ = some (.int .i64 v2') := Y6.out.cell 2
            clear r7 a7 g7
            go_wp2_with (at_builtin; refine step_append rfl rfl rfl rfl R7.out ?_)
            exact ⟨⟨i + 1, c7, A7, by omega, by omega, by go_num, by rw [CT2.out]; simp, by rw [CT2.out]; exact A7'.out, K7.out⟩, by simp [intOf]; omega⟩
        · have hin' : i = n := by omega
          subst hin'
          have HG := Lib.hid (show gathS f2 y z rs i = gathS f2 y z rs (rs.length + 1) by rw [show rs.length + 1 = i from HL.out])
          rw [HG.out] at HA ⊢
          have P6 := Lib.hid (P5.out.below hB)
          have R6 := Lib.hid (R5.out.below hB)
          have X6 := Lib.hid (X5.out.below hB)
          have O6 := Lib.hid (O5.out.below hB)
          have K6 := Lib.hid (bel_more K5.out (Nat.le_refl _) hB)
          have A6 := Lib.hid (HA.out.lower S5.out)
          clear hA hB HA HB HG
          have x2 : wr.cell? ⟨q, 2, none⟩ = some (.int .i64 f2) := X6.out.cell 2
          have o2 : wr.cell? ⟨q1, 2, none⟩ = some (.int .i64 z) := O6.out.cell 2
          have p2 : wr.cell? ⟨w.heap.size + 1, 2, none⟩ = some (.int .i64 ttl) := P6.out.cell 2
          have g0 := P6.out.free 0
          have g2 := P6.out.free 2
          generalize gathS f2 y z rs (rs.length + 1) = gl at *
          have HFW2 := Lib.hid (show forwardR l x y z rs ttl = .ok (f1, gl, ttl) by rw [HFW.out]; simp [h3])
          go_upto_region 24 with fail
          have K8 := Lib.hid (K6.out.setCell (p := ⟨w.heap.size + 1, 0, none⟩) (by show w.heap.size ≤ w.heap.size + 1; omega) (.slice A gl.length cc))
          have P8 := Lib.hid (show Blk (wr.setCell ⟨w.heap.size + 1, 0, none⟩ (.slice A gl.length cc)) (w.heap.size + 1) 33 [.slice A gl.length cc, .int .i64 tun, .int .i64 ttl, .string pay] from P6.out.set 0 _)
          have R8 := Lib.hid (R6.out.other (p := ⟨w.heap.size + 1, 0, none⟩) (by simp) (.slice A gl.length cc))
          have X8 := Lib.hid (X6.out.other (p := ⟨w.heap.size + 1, 0, none⟩) (by show w.heap.size + 1 ≠ q; omega) (.slice A gl.length cc))
          have A8 := Lib.hid (show AccE (wr.setCell ⟨w.heap.size + 1, 0, none⟩ (.slice A gl.length cc)) (w.heap.size + 3) A cc gl from accr_setBelow A6.out (by show w.heap.size + 1 < w.heap.size + 3; omega) _)
          clear x2 o2 p2 p0 g0 g2 P6 R6 X6 K6 A6
          generalize wr.setCell ⟨w.heap.size + 1, 0, none⟩ (.slice A gl.length cc) = w8 at *
          refine region_seq (fun W => W.cell? ⟨q, 1, none⟩ = some (.int .i64 f1) ∧ W.cell? ⟨w.heap.size + 1, 0, none⟩ = some (.slice A gl.length cc) ∧ W.cell? ⟨w.heap.size + 1, 1, none⟩ = some (.int .i64 tun) ∧ W.cell? ⟨w.heap.size + 1, 2, none⟩ = some (.int .i64 ttl) ∧ W.cell? ⟨w.heap.size + 1, 3, none⟩ = some (.string pay))
            [(0, true), (1, true), (2, true), (3, true), (4, false), (5, true)]
            (by kernel_rfl) (by kernel_rfl) (by kernel_rfl) (by kernel_rfl) (fun _ _ _ _ _ h => h) ⟨X8.out.cell 1, P8.out.cell 0, P8.out.cell 1, P8.out.cell 2, P8.out.cell 3⟩ ?_
          repeat
            refine seq_pure (v := ?_) rfl (by rfl) (fun W hW => ?_) ?_
            rotate_left
            · obtain ⟨d0, d1, d2, d3, d4⟩ := hW
              go_simp
              try with_reducible rfl
            simp only [Act.put, List.setIfInBounds_toArray, List.set_cons_zero, List.set_cons_succ]
          refine seq_make rfl (by rfl) (fun K hK => ?_)
          have r0 : w8.cell? ⟨w.heap.size + 2, 0, none⟩ = some (.slice none 0 0) := R8.out.cell 0
          have r1 : w8.cell? ⟨w.heap.size + 2, 1, none⟩ = some (.int .i64 0) := R8.out.cell 1
          have r2 : w8.cell? ⟨w.heap.size + 2, 2, none⟩ = some (.int .i64 0) := R8.out.cell 2
          have r3 : w8.cell? ⟨w.heap.size + 2, 3, none⟩ = some (.string ⟨#[]⟩) := R8.out.cell 3
          have f0 := R8.out.free 0
          have f1' := R8.out.free 1
          have f2' := R8.out.free 2
          have f3 := R8.out.free 3
          go_simp
          clear r0 r1 r2 r3 f0 f1' f2' f3
          have X9 := Lib.hid (X8.out.other4 (p := w.heap.size + 2) (by omega) (.slice A gl.length cc) (.int .i64 tun) (.int .i64 ttl) (.string pay))
          have P9 := Lib.hid (P8.out.other4 (p := w.heap.size + 2) (by omega) (.slice A gl.length cc) (.int .i64 tun) (.int .i64 ttl) (.string pay))
          have R9 := Lib.hid (R8.out.set4 (.slice A gl.length cc) (.int .i64 tun) (.int .i64 ttl) (.string pay))
          have K9 := Lib.hid (bel_set4 (q := w.heap.size + 2) K8.out (by omega) (.slice A gl.length cc) (.int .i64 tun) (.int .i64 ttl) (.string pay))
          have A9 := Lib.hid (show AccE ((((w8.setCell ⟨w.heap.size + 2, 0, none⟩ (.slice A gl.length cc)).setCell ⟨w.heap.size + 2, 1, none⟩ (.int .i64 tun)).setCell ⟨w.heap.size + 2, 2, none⟩ (.int .i64 ttl)).setCell ⟨w.heap.size + 2, 3, none⟩ (.string pay)) (w.heap.size + 3) A cc gl from accr_setBelow (accr_setBelow (accr_setBelow (accr_setBelow A8.out (by show w.heap.size + 2 < w.heap.size + 3; omega) _) (by show w.heap.size + 2 < w.heap.size + 3; omega) _) (by show w.heap.size + 2 < w.heap.size + 3; omega) _) (by show w.heap.size + 2 < w.heap.size + 3; omega) _)
          generalize ((((w8.setCell ⟨w.heap.size + 2, 0, none⟩ (.slice A gl.length cc)).setCell ⟨w.heap.size + 2, 1, none⟩ (.int .i64 tun)).setCell ⟨w.heap.size + 2, 2, none⟩ (.int .i64 ttl)).setCell ⟨w.heap.size + 2, 3, none⟩ (.string pay)) = w9 at *
          refine hK _ _ (fun W => W.cell? ⟨q, 1, none⟩ = some (.int .i64 f1) ∧ W.cell? ⟨w.heap.size + 1, 0, none⟩ = some (.slice A gl.length cc) ∧ W.cell? ⟨w.heap.size + 1, 1, none⟩ = some (.int .i64 tun) ∧ W.cell? ⟨w.heap.size + 1, 2, none⟩ = some (.int .i64 ttl) ∧ W.cell? ⟨w.heap.size + 1, 3, none⟩ = some (.string pay)) (fun W h => h) ⟨X9.out.cell 1, P9.out.cell 0, P9.out.cell 1, P9.out.cell 2, P9.out.cell 3⟩ ?_
          clear hK K
          repeat
            refine seq_pure (v := ?_) rfl (by rfl) (fun W hW => ?_) ?_
            rotate_left
            · clear hW
              go_simp
              try with_reducible rfl
            simp only [Act.put, List.setIfInBounds_toArray, List.set_cons_zero, List.set_cons_succ]
          refine seq_done ?_
          go_wp2
          have y0 : w9.cell? ⟨w.heap.size + 2, 0, none⟩ = some (.slice A gl.length cc) := R9.out.cell 0
          have y1 : w9.cell? ⟨w.heap.size + 2, 1, none⟩ = some (.int .i64 tun) := R9.out.cell 1
          have y2 : w9.cell? ⟨w.heap.size + 2, 2, none⟩ = some (.int .i64 ttl) := R9.out.cell 2
          have y3 : w9.cell? ⟨w.heap.size + 2, 3, none⟩ = some (.string pay) := R9.out.cell 3
          refine bodyPost_ret (v := .tuple #[.int .i64 f1, .agg #[.slice A gl.length cc, .int .i64 tun, .int .i64 ttl, .string pay], .int .i64 0]) (by simp [results, Try.results20, go_sem, y0, y1, y2, y3]) rfl ?_
          refine ⟨bel_drewN K9.out 1, .inr ⟨f1, gl, ttl, A, cc, ?_, by first | rfl | (simp only [List.length_cons, List.length_nil]; done) | (rw [rfl]), A9.out.lower (by omega)⟩⟩
          rw [HE.out, HFW2.out]
end Go.Proofs.Ytkbbnfinmipenaa
