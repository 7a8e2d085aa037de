/-
  Contract of package lfib: Step. Conditions: the table is one that New made; the packet's entries read as a list, of at most 2^40; its numbers are of 64 bits.
-/
import Derived.Test.YtkbbnfinmipenaaLfibE
namespace Go.Proofs.Ytkbbnfinmipenaa
open Go.RowKit Go.Maps

/-- What a step answers. -/
def stepR (l u es : List (Int × Int × Int)) (tun ttl : Int) (n : Nat) : Except Int (Int × List (Int × Int × Int) × Int) :=
  if okPkt es ttl n = true then (match es with
    | [] => beginR u tun ttl
    | e :: rs => forwardR l e.1 e.2.1 e.2.2 rs ttl)
  else .error 2

theorem okPkt_yes {es : List (Int × Int × Int)} {ttl : Int} {n : Nat} (h : okPkt es ttl n = true) : es.length ≤ 8 ∧ n ≤ 4096 ∧ (∀ e ∈ es, mE e = true) ∧ 0 ≤ ttl ∧ ttl ≤ 255 := by
  simp only [okPkt, Bool.and_eq_true, decide_eq_true_eq, List.all_eq_true] at h
  exact ⟨h.1, h.2.1, h.2.2.1, (wn_yes h.2.2.2).1, (wn_yes h.2.2.2).2⟩

section
variable {w : World} {tb lb ub : Nat} {most : Int} {l u : List (Int × Int × Int)}

/-- What a step of one of both kinds answers is stored, and told. -/
theorem stepPost_more {w w1 w2 w3 : World} {r : Except Int (Int × List (Int × Int × Int) × Int)} {tun : Int} {pay : ByteArray} {e : Ending} (h : StepPost w2 r tun pay e w3) (hw : Below w.heap.size w w1) (hb : Below w1.heap.size w1 w2) : ∃ (nx er : Int) (A : Option Addr) (c n : Nat) (tun' ttl' : Int) (pay' : ByteArray), e = .returned (.tuple #[.int .i64 nx, .agg #[.slice A n c, .int .i64 tun', .int .i64 ttl', .string pay'], .int .i64 er]) ∧ Below w1.heap.size w1 w3 ∧
    ∀ w4, Below w.heap.size w w4 → (∀ es, AccE w3 w2.heap.size A c es → AccE w4 w2.heap.size A c es) → StepPost w r tun pay (.returned (.tuple #[.int .i64 nx, .agg #[.slice A n c, .int .i64 tun', .int .i64 ttl', .string pay'], .int .i64 er])) w4 := by
  have hz := (bel_more hw (Nat.le_refl _) hb).size
  obtain ⟨h1, ⟨er, hr, he⟩ | ⟨nx, es, ttl, A, c, hr, he, ha⟩⟩ := h
  · exact ⟨0, er, none, 0, 0, 0, 0, ⟨#[]⟩, he, bel_more hb (Nat.le_refl _) h1, fun w4 h4 _ => ⟨h4, .inl ⟨er, hr, rfl⟩⟩⟩
  · exact ⟨nx, 0, A, c, es.length, tun, ttl, pay, he, bel_more hb (Nat.le_refl _) h1, fun w4 h4 hc => ⟨h4, .inr ⟨nx, es, ttl, A, c, hr, rfl, (hc es ha).lower hz⟩⟩⟩

set_option maxRecDepth 100000 in
set_option maxHeartbeats 1600000 in
theorem step_calls (h : Tbl w tb lb ub most l u) (a : Option Addr) (n c : Nat) (es : List (Int × Int × Int)) (tun ttl : Int) (pay : ByteArray) (hr : Row ec w w.heap.size a n es) (hn : n ≤ 1099511627776) (hc : n ≤ c) (hk : (Lit.int .i64 tun).wf = true) :
    Calls Try.prog 19 #[.pointer (some ⟨tb, 0, none⟩), .agg #[.slice a n c, .int .i64 tun, .int .i64 ttl, .string pay]] w (StepPost w (stepR l u es tun ttl pay.size) tun pay) := by
  have K0 := Lib.hid (bel_new (bel_new (Below.refl w.heap.size w) (.cells #[.slice a n c, .int .i64 tun, .int .i64 ttl, .string pay] 33)) (.cells #[.slice none 0 0, .int .i64 0, .int .i64 0, .string ⟨#[]⟩] 33))
  have B0 := Lib.hid ((Blk.new w 33 [.slice a n c, .int .i64 tun, .int .i64 ttl, .string pay]).alloc (.cells #[.slice none 0 0, .int .i64 0, .int .i64 0, .string ⟨#[]⟩] 33))
  have R0 := Lib.hid (show Blk ((w.alloc (.cells #[.slice a n c, .int .i64 tun, .int .i64 ttl, .string pay] 33)).alloc (.cells #[.slice none 0 0, .int .i64 0, .int .i64 0, .string ⟨#[]⟩] 33)) (w.heap.size + 1) 33 [.slice none 0 0, .int .i64 0, .int .i64 0, .string ⟨#[]⟩] by
    have := Blk.new (w.alloc (.cells #[.slice a n c, .int .i64 tun, .int .i64 ttl, .string pay] 33)) 33 [.slice none 0 0, .int .i64 0, .int .i64 0, .string ⟨#[]⟩]
    rwa [World.size_alloc] at this)
  have H1 := Lib.hid (h.below K0.out)
  have RW := Lib.hid ((hr.below K0.out).more K0.out.size)
  have HL := Lib.hid hr.1
  have HK := Lib.hid hk
  clear h hr hk
  go_enter Try.func19, Try.ntmps19
  go_wp2_with fail
  generalize ((w.alloc (.cells #[.slice a n c, .int .i64 tun, .int .i64 ttl, .string pay] 33)).alloc (.cells #[.slice none 0 0, .int .i64 0, .int .i64 0, .string ⟨#[]⟩] 33)) = w1 at *
  ((with_reducible refine (lmade_calls H1.out).mono ?_))
  rintro e w' ⟨rfl, rfl⟩
  have b0 : w1.cell? ⟨w.heap.size, 0, none⟩ = some (.slice a n c) := B0.out.cell 0
  have b1 : w1.cell? ⟨w.heap.size, 1, none⟩ = some (.int .i64 tun) := B0.out.cell 1
  have b2 : w1.cell? ⟨w.heap.size, 2, none⟩ = some (.int .i64 ttl) := B0.out.cell 2
  have b3 : w1.cell? ⟨w.heap.size, 3, none⟩ = some (.string pay) := B0.out.cell 3
  go_wp2_with fail
  ((with_reducible refine (validPacket_calls a n c es tun ttl pay w1 RW.out hn).mono ?_))
  rintro e w2 ⟨rfl, k2⟩
  have K2 := Lib.hid k2
  have B2 := Lib.hid (B0.out.below k2)
  have R2 := Lib.hid (R0.out.below k2)
  have H2 := Lib.hid (H1.out.below k2)
  have RW2 := Lib.hid ((RW.out.below k2).more k2.size)
  clear k2 b0 b1 b2 b3 B0 H1 RW
  cases hok : okPkt es ttl pay.size
  · have r0 : w2.cell? ⟨w.heap.size + 1, 0, none⟩ = some (.slice none 0 0) := R2.out.cell 0
    have r1 : w2.cell? ⟨w.heap.size + 1, 1, none⟩ = some (.int .i64 0) := R2.out.cell 1
    have r2 : w2.cell? ⟨w.heap.size + 1, 2, none⟩ = some (.int .i64 0) := R2.out.cell 2
    have r3 : w2.cell? ⟨w.heap.size + 1, 3, none⟩ = some (.string ⟨#[]⟩) := R2.out.cell 3
    have f0 := R2.out.free 0
    have f1 := R2.out.free 1
    have f2 := R2.out.free 2
    have f3 := R2.out.free 3
    go_wp2
    have hq := R2.out.set4 (.slice none 0 0) (.int .i64 0) (.int .i64 0) (.string ⟨#[]⟩)
    have y0 := hq.cell 0
    have y1 := hq.cell 1
    have y2 := hq.cell 2
    have y3 := hq.cell 3
    simp only [List.getElem?_cons_zero, List.getElem?_cons_succ] at y0 y1 y2 y3
    refine bodyPost_ret (v := .tuple #[.int .i64 0, .agg #[.slice none 0 0, .int .i64 0, .int .i64 0, .string ⟨#[]⟩], .int .i64 2]) (by simp [results, Try.results19, go_sem, y0, y1, y2, y3]) rfl ?_
    exact stepPost_err (bel_set4 (bel_more K0.out (Nat.le_refl _) K2.out) (by omega) _ _ _ _) (by unfold stepR; rw [hok]; rfl) rfl
  have hy := okPkt_yes hok
  have HY := Lib.hid hy
  have HOK := Lib.hid hok
  clear hy hok
  have b0 : w2.cell? ⟨w.heap.size, 0, none⟩ = some (.slice a n c) := B2.out.cell 0
  have b1 : w2.cell? ⟨w.heap.size, 1, none⟩ = some (.int .i64 tun) := B2.out.cell 1
  have b2 : w2.cell? ⟨w.heap.size, 2, none⟩ = some (.int .i64 ttl) := B2.out.cell 2
  have b3 : w2.cell? ⟨w.heap.size, 3, none⟩ = some (.string pay) := B2.out.cell 3
  cases es with
  | nil =>
    obtain rfl : n = 0 := HL.out.symm
    have HB := Lib.hid (begin_calls H2.out a 0 c tun ttl pay HK.out HY.out.2.2.2.1 HY.out.2.2.2.2)
    have HE := Lib.hid (show stepR l u [] tun ttl pay.size = beginR u tun ttl by unfold stepR; rw [HOK.out]; rfl)
    go_wp2_with fail
    ((with_reducible refine HB.out.mono ?_))
    rintro e w3 hp3
    obtain ⟨nx, er, A, c3, n3, tun', ttl', pay', rfl, k3, hfin⟩ := stepPost_more hp3 K0.out K2.out
    have R3 := Lib.hid (R0.out.below k3)
    have RL := Lib.hid R2.out.lt
    have K3 := Lib.hid (bel_more K0.out (Nat.le_refl _) k3)
    have HF := Lib.hid hfin
    clear hp3 k3 hfin b0 b1 b2 b3
    have r0 : w3.cell? ⟨w.heap.size + 1, 0, none⟩ = some (.slice none 0 0) := R3.out.cell 0
    have r1 : w3.cell? ⟨w.heap.size + 1, 1, none⟩ = some (.int .i64 0) := R3.out.cell 1
    have r2 : w3.cell? ⟨w.heap.size + 1, 2, none⟩ = some (.int .i64 0) := R3.out.cell 2
    have r3 : w3.cell? ⟨w.heap.size + 1, 3, none⟩ = some (.string ⟨#[]⟩) := R3.out.cell 3
    have f0 := R3.out.free 0
    have f1 := R3.out.free 1
    have f2 := R3.out.free 2
    have f3 := R3.out.free 3
    go_wp2
    have hq := R3.out.set4 (.slice A n3 c3) (.int .i64 tun') (.int .i64 ttl') (.string pay')
    have y0 := hq.cell 0
    have y1 := hq.cell 1
    have y2 := hq.cell 2
    have y3 := hq.cell 3
    simp only [List.getElem?_cons_zero, List.getElem?_cons_succ] at y0 y1 y2 y3
    refine bodyPost_ret (v := .tuple #[.int .i64 nx, .agg #[.slice A n3 c3, .int .i64 tun', .int .i64 ttl', .string pay'], .int .i64 er]) (by simp [results, Try.results19, go_sem, y0, y1, y2, y3]) rfl ?_
    rw [HE.out]
    refine HF.out _ (bel_set4 (q := w.heap.size + 1) K3.out (by omega) _ _ _ _) (fun es he => ?_)
    exact accr_setBelow (accr_setBelow (accr_setBelow (accr_setBelow he RL.out _) RL.out _) RL.out _) RL.out _
  | cons e0 rs =>
    obtain ⟨x, y, z⟩ := e0
    have hn0 : rs.length + 1 = n := HL.out
    obtain ⟨bb, oo, rfl, _, _⟩ := row_at3 RW2.out (by omega)
    have h8 : n ≤ 8 := by have := HY.out.1; rw [HL.out] at this; exact this
    have hne : ((n : Int) == 0) = false := by rw [beq_eq_false_iff_ne]; omega
    have HB := Lib.hid (forward_calls H2.out bb oo n c x y z rs tun ttl pay RW2.out h8 hc (HY.out.2.2.1 _ (by simp)) (fun r hr => HY.out.2.2.1 r (by simp [hr])))
    have HE := Lib.hid (show stepR l u ((x, y, z) :: rs) tun ttl pay.size = forwardR l x y z rs ttl by unfold stepR; rw [HOK.out]; rfl)
    clear hn0
    go_wp2_with fail
    ((with_reducible refine HB.out.mono ?_))
    rintro e w3 hp3
    obtain ⟨nx, er, A, c3, n3, tun', ttl', pay', rfl, k3, hfin⟩ := stepPost_more hp3 K0.out K2.out
    have R3 := Lib.hid (R0.out.below k3)
    have RL := Lib.hid R2.out.lt
    have K3 := Lib.hid (bel_more K0.out (Nat.le_refl _) k3)
    have HF := Lib.hid hfin
    clear hp3 k3 hfin b0 b1 b2 b3
    have r0 : w3.cell? ⟨w.heap.size + 1, 0, none⟩ = some (.slice none 0 0) := R3.out.cell 0
    have r1 : w3.cell? ⟨w.heap.size + 1, 1, none⟩ = some (.int .i64 0) := R3.out.cell 1
    have r2 : w3.cell? ⟨w.heap.size + 1, 2, none⟩ = some (.int .i64 0) := R3.out.cell 2
    have r3 : w3.cell? ⟨w.heap.size + 1, 3, none⟩ = some (.string ⟨#[]⟩) := R3.out.cell 3
    have f0 := R3.out.free 0
    have f1 := R3.out.free 1
    have f2 := R3.out.free 2
    have f3 := R3.out.free 3
    go_wp2
    have hq := R3.out.set4 (.slice A n3 c3) (.int .i64 tun') (.int .i64 ttl') (.string pay')
    have y0 := hq.cell 0
    have y1 := hq.cell 1
    have y2 := hq.cell 2
    have y3 := hq.cell 3
    simp only [List.getElem?_cons_zero, List.getElem?_cons_succ] at y0 y1 y2 y3
    refine bodyPost_ret (v := .tuple #[.int .i64 nx, .agg #[.slice A n3 c3, .int .i64 tun', .int .i64 ttl', .string pay'], .int .i64 er]) (by simp [results, Try.results19, go_sem, y0, y1, y2, y3]) rfl ?_
    rw [HE.out]
    refine HF.out _ (bel_set4 (q := w.heap.size + 1) K3.out (by omega) _ _ _ _) (fun es he => ?_)
    exact accr_setBelow (accr_setBelow (accr_setBelow (accr_setBelow he RL.out _) RL.out _) RL.out _) RL.out _
end
end Go.Proofs.Ytkbbnfinmipenaa
