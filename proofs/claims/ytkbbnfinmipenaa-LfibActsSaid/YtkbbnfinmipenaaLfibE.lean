/-
  Contract of package lfib: forward. Conditions: the table is one that New made; the packet has entries, at most eight, which may be.
-/
import Derived.Test.YtkbbnfinmipenaaLfibD
namespace Go.Proofs.Ytkbbnfinmipenaa
open Go.RowKit Go.Maps

def forwardR (l : List (Int × Int × Int)) (x y z : Int) (rs : List (Int × Int × Int)) (ttl : Int) : Except Int (Int × List (Int × Int × Int) × Int) :=
  match fnd l x with
  | none => .error 11
  | some p => if z = 0 then .error 10 else if p.2 = 3 then (match rs with
      | [] => .ok (p.1, [], min ttl (z - 1))
      | r :: rs' => .ok (p.1, (r.1, r.2.1, min r.2.2 (z - 1)) :: rs', ttl))
    else .ok (p.1, (p.2, y, z - 1) :: rs, ttl)

theorem AccR.setOther {α : Type} {enc : α → List Value} {k : Nat} {w : World} {base c : Nat} {T : TypeId} {A : Option Addr} {l : List α} (h : AccR enc k w base T A c l) {q i : Nat} (hne : ∀ x, blk A = some x → x ≠ q) (u : Value) : AccR enc k (w.setCell ⟨q, i, none⟩ u) base T A c l :=
  h.kept (upd_set_p w q i u) (fun x hx e => hne x hx (by injection e with e; exact e.symm))

section
variable {w : World} {tb lb ub : Nat} {most : Int} {l u : List (Int × Int × Int)}

set_option maxRecDepth 100000 in
set_option maxHeartbeats 3200000 in
theorem forward_calls (h : Tbl w tb lb ub most l u) (b o n c : Nat) (x y z : Int) (rs : List (Int × Int × Int)) (tun ttl : Int) (pay : ByteArray) (hr : Row ec w w.heap.size (some ⟨b, o, none⟩) n ((x, y, z) :: rs)) (hn : n ≤ 8) (hc : n ≤ c) (hm : mE (x, y, z) = true) (hrz : ∀ r ∈ rs, mE r = true) :
    Calls Try.prog 43 #[.pointer (some ⟨tb, 0, none⟩), .agg #[.slice (some ⟨b, o, none⟩) n c, .int .i64 tun, .int .i64 ttl, .string pay]] w (StepPost w (forwardR l x y z rs ttl) tun pay) := by
  have hn0 : rs.length + 1 = n := hr.1
  subst hn0
  have hmy := may_yes hm
  obtain ⟨x0, x1, y0, y1, z0, z1⟩ := hmy
  have K0 := Lib.hid (bel_new (bel_new (Below.refl w.heap.size w) (.cells #[.slice (some ⟨b, o, none⟩) (rs.length + 1) c, .int .i64 tun, .int .i64 ttl, .string pay] 33)) (.cells #[.slice none 0 0, .int .i64 0, .int .i64 0, .string ⟨#[]⟩] 33))
  have B0 := Lib.hid ((Blk.new w 33 [.slice (some ⟨b, o, none⟩) (rs.length + 1) c, .int .i64 tun, .int .i64 ttl, .string pay]).alloc (.cells #[.slice none 0 0, .int .i64 0, .int .i64 0, .string ⟨#[]⟩] 33))
  have R0 := Lib.hid (show Blk ((w.alloc (.cells #[.slice (some ⟨b, o, none⟩) (rs.length + 1) c, .int .i64 tun, .int .i64 ttl, .string pay] 33)).alloc (.cells #[.slice none 0 0, .int .i64 0, .int .i64 0, .string ⟨#[]⟩] 33)) (w.heap.size + 1) 33 [.slice none 0 0, .int .i64 0, .int .i64 0, .string ⟨#[]⟩] by
    have := Blk.new (w.alloc (.cells #[.slice (some ⟨b, o, none⟩) (rs.length + 1) c, .int .i64 tun, .int .i64 ttl, .string pay] 33)) 33 [.slice none 0 0, .int .i64 0, .int .i64 0, .string ⟨#[]⟩]
    rwa [World.size_alloc] at this)
  have SZ := Lib.hid (show ((w.alloc (.cells #[.slice (some ⟨b, o, none⟩) (rs.length + 1) c, .int .i64 tun, .int .i64 ttl, .string pay] 33)).alloc (.cells #[.slice none 0 0, .int .i64 0, .int .i64 0, .string ⟨#[]⟩] 33)).heap.size = w.heap.size + 2 by simp)
  have H1 := Lib.hid (h.below K0.out)
  have HU := Lib.hid h.2.2.2.2.2.1
  have HK := Lib.hid (show (Lit.int .i64 x).wf = true from WalkArith.wf_i64 (by omega))
  obtain ⟨b', o', eb, hb, hat⟩ := row_at3 hr (by omega)
  injection eb with eb
  injection eb with eb1 eb2
  subst eb1
  subst eb2
  have hat0 := hat 0 (by simp)
  rw [Nat.zero_mul, Nat.add_zero] at hat0
  have RW := Lib.hid ((hr.below K0.out).more K0.out.size)
  have AT := Lib.hid (show At3 _ b o x y z from hat0.below K0.out hb)
  have HB := Lib.hid (Nat.lt_of_lt_of_le hb K0.out.size)
  have HRZ := Lib.hid hrz
  have hp : (fnd l x).getD (0, 0) = (((fnd l x).getD (0, 0)).1, ((fnd l x).getD (0, 0)).2) := rfl
  generalize hp1 : ((fnd l x).getD (0, 0)).1 = p1 at hp
  generalize hp2 : ((fnd l x).getD (0, 0)).2 = p2 at hp
  have hok : (fnd l x).isSome = (fnd l x).isSome := rfl
  generalize hok1 : (fnd l x).isSome = ok at hok
  have HP := Lib.hid hp
  have HOK := Lib.hid hok1
  clear h hp hok hp1 hp2 hok1 hr hat hat0 hrz hb
  go_enter Try.func43, Try.ntmps43
  go_wp2_with fail
  generalize ((w.alloc (.cells #[.slice (some ⟨b, o, none⟩) (rs.length + 1) c, .int .i64 tun, .int .i64 ttl, .string pay] 33)).alloc (.cells #[.slice none 0 0, .int .i64 0, .int .i64 0, .string ⟨#[]⟩] 33)) = w1 at *
  ((with_reducible refine (pop_calls b o (rs.length + 1) c ((x, y, z) :: rs) x y z w1 RW.out AT.out HB.out (by omega) (by omega) hc).mono ?_))
  rintro e w2 ⟨A, c2, rfl, a2, _, k2⟩
  rw [Nat.add_sub_cancel]
  have A2 := Lib.hid (show AccE w2 w1.heap.size A c2 rs from a2)
  have B2 := Lib.hid (B0.out.below k2)
  have R2 := Lib.hid (R0.out.below k2)
  have H2 := Lib.hid (H1.out.below k2)
  have K2 := Lib.hid (bel_more K0.out (Nat.le_refl _) k2)
  have Q2 := Lib.hid (show w.heap.size + 2 ≤ w2.heap.size by have := k2.size; rw [SZ.out] at this; exact this)
  have AL := Lib.hid (show ∀ g, blk A = some g → g < w2.heap.size ∧ w.heap.size + 2 ≤ g from fun g hg => by have := AccR.ge a2 hg; rw [SZ.out] at this; exact ⟨this.2, this.1⟩)
  rw [SZ.out] at A2
  clear a2 k2 B0 R0 H1 K0 RW AT HB SZ
  go_wp2_with fail
  have T3 := Lib.hid (Blk.new w2 61 [.int .i64 x, .int .i64 y, .int .i64 z])
  have k3 := bel_new (Below.refl w2.heap.size w2) (.cells #[.int .i64 x, .int .i64 y, .int .i64 z] 61)
  have A3 := Lib.hid (show AccE (w2.alloc (.cells #[.int .i64 x, .int .i64 y, .int .i64 z] 61)) (w.heap.size + 2) A c2 rs from A2.out.bel k3)
  have B3 := Lib.hid (B2.out.below k3)
  have R3 := Lib.hid (R2.out.below k3)
  have H3 := Lib.hid (H2.out.below k3)
  have K3 := Lib.hid (bel_more K2.out (Nat.le_refl _) k3)
  have S3 := Lib.hid (World.size_alloc w2 (.cells #[.int .i64 x, .int .i64 y, .int .i64 z] 61))
  clear k3 A2 B2 R2 H2 K2
  generalize (w2.alloc (.cells #[.int .i64 x, .int .i64 y, .int .i64 z] 61)) = w3 at *
  generalize w2.heap.size = q at *
  have CC := Lib.hid (show w3.cell? ⟨tb, 1, none⟩ = some (.map (some lb)) ∧ w3.cell? ⟨q, 0, none⟩ = some (.int .i64 x) ∧ Outs w3 lb l from ⟨H3.out.c1, T3.out.cell 0, H3.out.2.1⟩)
  refine region_seq (fun W => W.cell? ⟨tb, 1, none⟩ = some (.map (some lb)) ∧ W.cell? ⟨q, 0, none⟩ = some (.int .i64 x) ∧ Outs W lb l)
    [(0, true), (1, true), (2, true), (3, true), (4, true), (5, true), (6, true), (7, true), (8, true), (9, true), (10, true), (11, false), (12, false), (13, true)]
    (by kernel_rfl) (by kernel_rfl) (by kernel_rfl) (by kernel_rfl) (fun _ _ _ _ _ h => h) CC.out ?_
  repeat
    refine seq_pure (v := ?_) rfl (by rfl) (fun W hW => ?_) ?_
    rotate_left
    · obtain ⟨d0, d1, ho⟩ := hW
      have hl := look_run ho HK.out HP.out HOK.out
      clear ho
      go_simp
      try with_reducible rfl
    simp only [Act.put, List.setIfInBounds_toArray, List.set_cons_zero, List.set_cons_succ]
  refine seq_make rfl (by rfl) (fun K hK => ?_)
  go_simp
  have k4 := Lib.hid (bel_new (Below.refl w3.heap.size w3) (.cells #[.int .i64 0, .int .i64 0] 30))
  have C4 := Lib.hid (show (w3.alloc (.cells #[.int .i64 0, .int .i64 0] 30)).cell? ⟨tb, 1, none⟩ = some (.map (some lb)) ∧ (w3.alloc (.cells #[.int .i64 0, .int .i64 0] 30)).cell? ⟨q, 0, none⟩ = some (.int .i64 x) ∧ Outs (w3.alloc (.cells #[.int .i64 0, .int .i64 0] 30)) lb l from ⟨(H3.out.below k4.out).c1, (T3.out.below k4.out).cell 0, (H3.out.below k4.out).2.1⟩)
  refine hK _ _ (fun W => W.cell? ⟨tb, 1, none⟩ = some (.map (some lb)) ∧ W.cell? ⟨q, 0, none⟩ = some (.int .i64 x) ∧ Outs W lb l) (fun W h => h) C4.out ?_
  clear hK K
  refine seq_make rfl (by rfl) (fun K hK => ?_)
  go_simp
  have k5 := Lib.hid (bel_new (Below.refl w3.heap.size w3) (.cells #[.int .i64 p1, .int .i64 p2] 30))
  have C5 := Lib.hid (show (w3.alloc (.cells #[.int .i64 p1, .int .i64 p2] 30)).cell? ⟨tb, 1, none⟩ = some (.map (some lb)) ∧ (w3.alloc (.cells #[.int .i64 p1, .int .i64 p2] 30)).cell? ⟨q, 0, none⟩ = some (.int .i64 x) ∧ Outs (w3.alloc (.cells #[.int .i64 p1, .int .i64 p2] 30)) lb l from ⟨(H3.out.below k5.out).c1, (T3.out.below k5.out).cell 0, (H3.out.below k5.out).2.1⟩)
  refine hK _ _ (fun W => W.cell? ⟨tb, 1, none⟩ = some (.map (some lb)) ∧ W.cell? ⟨q, 0, none⟩ = some (.int .i64 x) ∧ Outs W lb l) (fun W h => h) C5.out ?_
  clear hK K
  have K4 := Lib.hid (show Below w.heap.size w (w3.alloc (.cells #[.int .i64 p1, .int .i64 p2] 30)).drew from bel_drewN (bel_more K3.out (Nat.le_refl _) k5.out) 1)
  have B4 := Lib.hid (show Blk (w3.alloc (.cells #[.int .i64 p1, .int .i64 p2] 30)).drew w.heap.size 33 [.slice (some ⟨b, o, none⟩) (rs.length + 1) c, .int .i64 tun, .int .i64 ttl, .string pay] from (B3.out.below k5.out).drew)
  have R4 := Lib.hid (show Blk (w3.alloc (.cells #[.int .i64 p1, .int .i64 p2] 30)).drew (w.heap.size + 1) 33 [.slice none 0 0, .int .i64 0, .int .i64 0, .string ⟨#[]⟩] from (R3.out.below k5.out).drew)
  have T4 := Lib.hid (show Blk (w3.alloc (.cells #[.int .i64 p1, .int .i64 p2] 30)).drew q 61 [.int .i64 x, .int .i64 y, .int .i64 z] from (T3.out.below k5.out).drew)
  have O4 := Lib.hid (show Blk (w3.alloc (.cells #[.int .i64 p1, .int .i64 p2] 30)).drew w3.heap.size 30 [.int .i64 p1, .int .i64 p2] from Blk.new w3 _ _)
  have A4 := Lib.hid (show AccE (w3.alloc (.cells #[.int .i64 p1, .int .i64 p2] 30)).drew (w.heap.size + 2) A c2 rs from (AccR.bel A3.out k5.out).drew)
  clear K3 B3 R3 H3 T3 A3 C4 C5 CC k4 k5
  rw [S3.out] at O4 ⊢
  generalize (w3.alloc (.cells #[.int .i64 p1, .int .i64 p2] 30)).drew = w4 at *
  clear S3
  repeat
    refine seq_pure (v := ?_) rfl (by rfl) (fun W hW => ?_) ?_
    rotate_left
    · clear hW
      go_simp
      try with_reducible rfl
    simp only [Act.put, List.setIfInBounds_toArray, List.set_cons_zero, List.set_cons_succ]
  refine seq_done ?_
  have r0 : w4.cell? ⟨w.heap.size + 1, 0, none⟩ = some (.slice none 0 0) := R4.out.cell 0
  have r1 : w4.cell? ⟨w.heap.size + 1, 1, none⟩ = some (.int .i64 0) := R4.out.cell 1
  have r2 : w4.cell? ⟨w.heap.size + 1, 2, none⟩ = some (.int .i64 0) := R4.out.cell 2
  have r3 : w4.cell? ⟨w.heap.size + 1, 3, none⟩ = some (.string ⟨#[]⟩) := R4.out.cell 3
  have t2 : w4.cell? ⟨q, 2, none⟩ = some (.int .i64 z) := T4.out.cell 2
  have f0 := R4.out.free 0
  have f1 := R4.out.free 1
  have f2 := R4.out.free 2
  have f3 := R4.out.free 3
  cases ok
  · go_wp2
    have hq := R4.out.set4 (.slice none 0 0) (.int .i64 0) (.int .i64 0) (.string ⟨#[]⟩)
    have y0 := hq.cell 0
    have y1 := hq.cell 1
    have y2 := hq.cell 2
    have y3 := hq.cell 3
    simp only [List.getElem?_cons_zero, List.getElem?_cons_succ] at y0 y1 y2 y3
    refine bodyPost_ret (v := .tuple #[.int .i64 0, .agg #[.slice none 0 0, .int .i64 0, .int .i64 0, .string ⟨#[]⟩], .int .i64 11]) (by simp [results, Try.results43, go_sem, y0, y1, y2, y3]) rfl ?_
    exact stepPost_err (bel_set4 K4.out (by omega) _ _ _ _) (by unfold forwardR; rw [Option.isSome_eq_false_iff.1 HOK.out |> Option.isNone_iff_eq_none.1]) rfl
  have hsome : fnd l x = some (p1, p2) := by
    cases hf : fnd l x with
    | none => have := HOK.out; rw [hf] at this; cases this
    | some q => have := HP.out; rw [hf] at this; exact congrArg some this
  have HS := Lib.hid hsome
  clear hsome
  by_cases hz : z = 0
  · subst hz
    go_wp2
    have hq := R4.out.set4 (.slice none 0 0) (.int .i64 0) (.int .i64 0) (.string ⟨#[]⟩)
    have y0 := hq.cell 0
    have y1 := hq.cell 1
    have y2 := hq.cell 2
    have y3 := hq.cell 3
    simp only [List.getElem?_cons_zero, List.getElem?_cons_succ] at y0 y1 y2 y3
    refine bodyPost_ret (v := .tuple #[.int .i64 0, .agg #[.slice none 0 0, .int .i64 0, .int .i64 0, .string ⟨#[]⟩], .int .i64 10]) (by simp [results, Try.results43, go_sem, y0, y1, y2, y3]) rfl ?_
    exact stepPost_err (bel_set4 K4.out (by omega) _ _ _ _) (by unfold forwardR; rw [HS.out]; rfl) rfl
  have g2 := T4.out.free 2
  clear r0 r1 r2 r3 f0 f1 f2 f3
  have QQ := Q2.out
  go_upto_region 9 with fail
  have hz1 : (Value.int .i64 (z - 1)) = .int .i64 (z - 1) := rfl
  have K5 := Lib.hid (K4.out.setCell (p := ⟨q, 2, none⟩) (by show w.heap.size ≤ q; omega) (.int .i64 (z - 1)))
  have T5 := Lib.hid (show Blk (w4.setCell ⟨q, 2, none⟩ (.int .i64 (z - 1))) q 61 [.int .i64 x, .int .i64 y, .int .i64 (z - 1)] from T4.out.set 2 _)
  have B5 := Lib.hid (B4.out.other (p := ⟨q, 2, none⟩) (by show q ≠ w.heap.size; omega) (.int .i64 (z - 1)))
  have R5 := Lib.hid (R4.out.other (p := ⟨q, 2, none⟩) (by show q ≠ w.heap.size + 1; omega) (.int .i64 (z - 1)))
  have O5 := Lib.hid (O4.out.other (p := ⟨q, 2, none⟩) (by show q ≠ q + 1; omega) (.int .i64 (z - 1)))
  have A5 := Lib.hid (show AccE (w4.setCell ⟨q, 2, none⟩ (.int .i64 (z - 1))) (w.heap.size + 2) A c2 rs from AccR.setOther A4.out (fun g hg e => by have := (AL.out g hg).1; omega) _)
  clear K4 T4 B4 R4 O4 A4 t2 g2 hz1
  generalize w4.setCell ⟨q, 2, none⟩ (.int .i64 (z - 1)) = w5 at *
  have o1 : w5.cell? ⟨q + 1, 1, none⟩ = some (.int .i64 p2) := O5.out.cell 1
  by_cases h3 : p2 = 3
  · subst h3
    cases rs with
    | nil =>
      have t2 : w5.cell? ⟨q, 2, none⟩ = some (.int .i64 (z - 1)) := T5.out.cell 2
      have b2 : w5.cell? ⟨w.heap.size, 2, none⟩ = some (.int .i64 ttl) := B5.out.cell 2
      have g2 := B5.out.free 2
      go_upto_region 14 with fail
      rw [show (if z - 1 < ttl then z - 1 else ttl) = min ttl (z - 1) by split <;> omega]
      have K6 := Lib.hid (K5.out.setCell (p := ⟨w.heap.size, 2, none⟩) (Nat.le_refl _) (.int .i64 (min ttl (z - 1))))
      have B6 := Lib.hid (show Blk (w5.setCell ⟨w.heap.size, 2, none⟩ (.int .i64 (min ttl (z - 1)))) w.heap.size 33 [.slice (some ⟨b, o, none⟩) 1 c, .int .i64 tun, .int .i64 (min ttl (z - 1)), .string pay] from B5.out.set 2 _)
      have R6 := Lib.hid (R5.out.other (p := ⟨w.heap.size, 2, none⟩) (by simp) (.int .i64 (min ttl (z - 1))))
      have O6 := Lib.hid (O5.out.other (p := ⟨w.heap.size, 2, none⟩) (by show w.heap.size ≠ q + 1; omega) (.int .i64 (min ttl (z - 1))))
      have A6 := Lib.hid (show AccE (w5.setCell ⟨w.heap.size, 2, none⟩ (.int .i64 (min ttl (z - 1)))) (w.heap.size + 2) A c2 [] from accr_setBelow A5.out (by show w.heap.size < w.heap.size + 2; omega) _)
      clear K5 T5 B5 R5 O5 A5 t2 b2 g2 o1
      generalize HTM : min ttl (z - 1) = tm at *
      generalize w5.setCell ⟨w.heap.size, 2, none⟩ (.int .i64 tm) = w6 at *
      have b0 : w6.cell? ⟨w.heap.size, 0, none⟩ = some (.slice (some ⟨b, o, none⟩) 1 c) := B6.out.cell 0
      have g0 := B6.out.free 0
      go_upto_region 15 with fail
      have K8 := Lib.hid (K6.out.setCell (p := ⟨w.heap.size, 0, none⟩) (Nat.le_refl _) (.slice A 0 c2))
      have B8 := Lib.hid (show Blk (w6.setCell ⟨w.heap.size, 0, none⟩ (.slice A 0 c2)) w.heap.size 33 [.slice A 0 c2, .int .i64 tun, .int .i64 tm, .string pay] from B6.out.set 0 _)
      have R8 := Lib.hid (R6.out.other (p := ⟨w.heap.size, 0, none⟩) (by simp) (.slice A 0 c2))
      have O8 := Lib.hid (O6.out.other (p := ⟨w.heap.size, 0, none⟩) (by show w.heap.size ≠ q + 1; omega) (.slice A 0 c2))
      have A8 := Lib.hid (show AccE (w6.setCell ⟨w.heap.size, 0, none⟩ (.slice A 0 c2)) (w.heap.size + 2) A c2 [] from accr_setBelow A6.out (by show w.heap.size < w.heap.size + 2; omega) _)
      clear K6 B6 R6 O6 A6 b0 g0
      generalize w6.setCell ⟨w.heap.size, 0, none⟩ (.slice A 0 c2) = w8 at *
      refine region_seq (fun W => W.cell? ⟨q + 1, 0, none⟩ = some (.int .i64 p1) ∧ W.cell? ⟨w.heap.size, 0, none⟩ = some (.slice A 0 c2) ∧ W.cell? ⟨w.heap.size, 1, none⟩ = some (.int .i64 tun) ∧ W.cell? ⟨w.heap.size, 2, none⟩ = some (.int .i64 tm) ∧ W.cell? ⟨w.heap.size, 3, none⟩ = some (.string pay))
        [(0, true), (1, true), (2, true), (3, true), (4, false), (5, true)]
        (by kernel_rfl) (by kernel_rfl) (by kernel_rfl) (by kernel_rfl) (fun _ _ _ _ _ h => h) ⟨O8.out.cell 0, B8.out.cell 0, B8.out.cell 1, B8.out.cell 2, B8.out.cell 3⟩ ?_
      repeat
        refine seq_pure (v := ?_) rfl (by rfl) (fun W hW => ?_) ?_
        rotate_left
        · obtain ⟨d0, d1, d2, d3, d4⟩ := hW
          go_simp
          try with_reducible rfl
        simp only [Act.put, List.setIfInBounds_toArray, List.set_cons_zero, List.set_cons_succ]
      refine seq_make rfl (by rfl) (fun K hK => ?_)
      have r0 : w8.cell? ⟨w.heap.size + 1, 0, none⟩ = some (.slice none 0 0) := R8.out.cell 0
      have r1 : w8.cell? ⟨w.heap.size + 1, 1, none⟩ = some (.int .i64 0) := R8.out.cell 1
      have r2 : w8.cell? ⟨w.heap.size + 1, 2, none⟩ = some (.int .i64 0) := R8.out.cell 2
      have r3 : w8.cell? ⟨w.heap.size + 1, 3, none⟩ = some (.string ⟨#[]⟩) := R8.out.cell 3
      have f0 := R8.out.free 0
      have f1 := R8.out.free 1
      have f2 := R8.out.free 2
      have f3 := R8.out.free 3
      go_simp
      clear r0 r1 r2 r3 f0 f1 f2 f3
      have O9 := Lib.hid (O8.out.other4 (p := w.heap.size + 1) (by omega) (.slice A 0 c2) (.int .i64 tun) (.int .i64 tm) (.string pay))
      have B9 := Lib.hid (B8.out.other4 (p := w.heap.size + 1) (by omega) (.slice A 0 c2) (.int .i64 tun) (.int .i64 tm) (.string pay))
      have R9 := Lib.hid (R8.out.set4 (.slice A 0 c2) (.int .i64 tun) (.int .i64 tm) (.string pay))
      have K9 := Lib.hid (bel_set4 (q := w.heap.size + 1) K8.out (by omega) (.slice A 0 c2) (.int .i64 tun) (.int .i64 tm) (.string pay))
      have A9 := Lib.hid (show AccE ((((w8.setCell ⟨w.heap.size + 1, 0, none⟩ (.slice A 0 c2)).setCell ⟨w.heap.size + 1, 1, none⟩ (.int .i64 tun)).setCell ⟨w.heap.size + 1, 2, none⟩ (.int .i64 tm)).setCell ⟨w.heap.size + 1, 3, none⟩ (.string pay)) (w.heap.size + 2) A c2 [] from accr_setBelow (accr_setBelow (accr_setBelow (accr_setBelow A8.out (by show w.heap.size + 1 < w.heap.size + 2; omega) _) (by show w.heap.size + 1 < w.heap.size + 2; omega) _) (by show w.heap.size + 1 < w.heap.size + 2; omega) _) (by show w.heap.size + 1 < w.heap.size + 2; omega) _)
      generalize ((((w8.setCell ⟨w.heap.size + 1, 0, none⟩ (.slice A 0 c2)).setCell ⟨w.heap.size + 1, 1, none⟩ (.int .i64 tun)).setCell ⟨w.heap.size + 1, 2, none⟩ (.int .i64 tm)).setCell ⟨w.heap.size + 1, 3, none⟩ (.string pay)) = w9 at *
      refine hK _ _ (fun W => W.cell? ⟨q + 1, 0, none⟩ = some (.int .i64 p1) ∧ W.cell? ⟨w.heap.size, 0, none⟩ = some (.slice A 0 c2) ∧ W.cell? ⟨w.heap.size, 1, none⟩ = some (.int .i64 tun) ∧ W.cell? ⟨w.heap.size, 2, none⟩ = some (.int .i64 tm) ∧ W.cell? ⟨w.heap.size, 3, none⟩ = some (.string pay)) (fun W h => h) ⟨O9.out.cell 0, B9.out.cell 0, B9.out.cell 1, B9.out.cell 2, B9.out.cell 3⟩ ?_
      clear hK K
      repeat
        refine seq_pure (v := ?_) rfl (by rfl) (fun W hW => ?_) ?_
        rotate_left
        · clear hW
          go_simp
          try with_reducible rfl
        simp only [Act.put, List.setIfInBounds_toArray, List.set_cons_zero, List.set_cons_succ]
      refine seq_done ?_
      go_wp2
      have y0 : w9.cell? ⟨w.heap.size + 1, 0, none⟩ = some (.slice A 0 c2) := R9.out.cell 0
      have y1 : w9.cell? ⟨w.heap.size + 1, 1, none⟩ = some (.int .i64 tun) := R9.out.cell 1
      have y2 : w9.cell? ⟨w.heap.size + 1, 2, none⟩ = some (.int .i64 tm) := R9.out.cell 2
      have y3 : w9.cell? ⟨w.heap.size + 1, 3, none⟩ = some (.string pay) := R9.out.cell 3
      refine bodyPost_ret (v := .tuple #[.int .i64 p1, .agg #[.slice A 0 c2, .int .i64 tun, .int .i64 tm, .string pay], .int .i64 0]) (by simp [results, Try.results43, go_sem, y0, y1, y2, y3]) rfl ?_
      refine ⟨bel_drewN K9.out 1, .inr ⟨p1, [], tm, A, c2, ?_, rfl, A9.out.lower (by omega)⟩⟩
      unfold forwardR
      rw [HS.out]
      simp only [if_neg hz, if_true]
      rw [HTM]
    | cons r rs' =>
      obtain ⟨r0', r1', r2'⟩ := r
      have hrm := HRZ.out (r0', r1', r2') (by simp)
      have hry := may_yes (x := r0') (y := r1') (z := r2') hrm
      obtain ⟨_, _, _, _, v0, v1⟩ := hry
      clear hrm
      obtain ⟨g, rfl, hcell, hfree, hgw⟩ : ∃ g, A = some ⟨g, 0, none⟩ ∧ At3 w5 g 0 r0' r1' r2' ∧ w5.frozen? ⟨g, 2, none⟩ = false ∧ g < w5.heap.size := by
        have ha := A5.out
        obtain ⟨g, o', e, hg, hat⟩ := row_at3 (AccR.row ha) (by simp)
        have h00 := hat 0 (by simp)
        rcases ha.2 with ⟨_, h1⟩ | ⟨g', cap, cur, hv, _, hh, _⟩
        · simp at h1
        · injection hv with e1
          rw [e] at e1
          injection e1 with e1
          injection e1 with e1 e2
          subst e1
          subst e2
          exact ⟨g, e, by simpa using h00, by simp [World.frozen?, hh], hg⟩
      have t2 : w5.cell? ⟨q, 2, none⟩ = some (.int .i64 (z - 1)) := T5.out.cell 2
      have hgl := AL.out g rfl
      have AT := Lib.hid hcell
      clear hcell
      go_upto_region 13 with fail
      refine region_seq (fun W => W.cell? ⟨q, 2, none⟩ = some (.int .i64 (z - 1)))
        [(0, true), (1, true), (2, true), (3, true), (5, true), (6, true), (4, false), (7, true), (8, true), (9, true), (10, false)]
        (by kernel_rfl) (by kernel_rfl) (by kernel_rfl) (by kernel_rfl) (fun _ _ _ _ _ h => h) t2 ?_
      repeat
        refine seq_pure (v := ?_) rfl (by rfl) (fun W d3 => ?_) ?_
        rotate_left
        · try simp only at d3
          go_simp
          try with_reducible rfl
        simp only [Act.put, List.setIfInBounds_toArray, List.set_cons_zero, List.set_cons_succ]
      have e2 : w5.cell? ⟨g, 2, none⟩ = some (.int .i64 r2') := by have := AT.out.2.2; rwa [Nat.zero_add] at this
      refine seq_make rfl (by rfl) (fun K hK => ?_)
      go_simp
      refine hK _ _ (fun W => W.cell? ⟨q, 2, none⟩ = some (.int .i64 (z - 1))) (fun W h => h) t2 ?_
      clear hK K
      repeat
        refine seq_pure (v := ?_) rfl (by rfl) (fun W d3 => ?_) ?_
        rotate_left
        · try simp only at d3
          go_simp
          try with_reducible rfl
        simp only [Act.put, List.setIfInBounds_toArray, List.set_cons_zero, List.set_cons_succ]
      refine seq_make rfl (by rfl) (fun K hK => ?_)
      go_simp
      rw [show (if z - 1 < r2' then z - 1 else r2') = min r2' (z - 1) by split <;> omega]
      have st := World.ownsRow.stored A5.out 2 (.int .i64 (min r2' (z - 1)))
      have K6 := Lib.hid (show Below w.heap.size w (w5.setCell ⟨g, 2, none⟩ (.int .i64 (min r2' (z - 1)))).drew from bel_drewN (K5.out.setCell (p := ⟨g, 2, none⟩) (by show w.heap.size ≤ g; omega) _) 1)
      have B6 := Lib.hid (show Blk (w5.setCell ⟨g, 2, none⟩ (.int .i64 (min r2' (z - 1)))).drew w.heap.size 33 [.slice (some ⟨b, o, none⟩) (rs'.length + 1 + 1) c, .int .i64 tun, .int .i64 ttl, .string pay] from (B5.out.other (p := ⟨g, 2, none⟩) (by show g ≠ w.heap.size; omega) _).drew)
      have R6 := Lib.hid (show Blk (w5.setCell ⟨g, 2, none⟩ (.int .i64 (min r2' (z - 1)))).drew (w.heap.size + 1) 33 [.slice none 0 0, .int .i64 0, .int .i64 0, .string ⟨#[]⟩] from (R5.out.other (p := ⟨g, 2, none⟩) (by show g ≠ w.heap.size + 1; omega) _).drew)
      have O6 := Lib.hid (show Blk (w5.setCell ⟨g, 2, none⟩ (.int .i64 (min r2' (z - 1)))).drew (q + 1) 30 [.int .i64 p1, .int .i64 3] from (O5.out.other (p := ⟨g, 2, none⟩) (by show g ≠ q + 1; omega) _).drew)
      have T6 : (w5.setCell ⟨g, 2, none⟩ (.int .i64 (min r2' (z - 1)))).cell? ⟨q, 2, none⟩ = some (.int .i64 (z - 1)) := (T5.out.other (p := ⟨g, 2, none⟩) (by show g ≠ q; omega) (.int .i64 (min r2' (z - 1)))).cell 2
      have A6 := Lib.hid (show AccE (w5.setCell ⟨g, 2, none⟩ (.int .i64 (min r2' (z - 1)))).drew (w.heap.size + 2) (some ⟨g, 0, none⟩) c2 ((r0', r1', min r2' (z - 1)) :: rs') from st.1)
      refine hK _ _ (fun W => W.cell? ⟨q, 2, none⟩ = some (.int .i64 (z - 1))) (fun W h => h) T6 ?_
      clear hK K K5 T5 B5 R5 O5 A5 t2 o1 e2 st T6 hfree AT hgw
      refine seq_done ?_
      generalize HTM : min r2' (z - 1) = tm at *
      generalize (w5.setCell ⟨g, 2, none⟩ (.int .i64 tm)).drew = w6 at *
      have b0 : w6.cell? ⟨w.heap.size, 0, none⟩ = some (.slice (some ⟨b, o, none⟩) (rs'.length + 1 + 1) c) := B6.out.cell 0
      have g0 := B6.out.free 0
      go_upto_region 15 with fail
      have K8 := Lib.hid (K6.out.setCell (p := ⟨w.heap.size, 0, none⟩) (Nat.le_refl _) (.slice (some ⟨g, 0, none⟩) (rs'.length + 1) c2))
      have B8 := Lib.hid (show Blk (w6.setCell ⟨w.heap.size, 0, none⟩ (.slice (some ⟨g, 0, none⟩) (rs'.length + 1) c2)) w.heap.size 33 [.slice (some ⟨g, 0, none⟩) (rs'.length + 1) c2, .int .i64 tun, .int .i64 ttl, .string pay] from B6.out.set 0 _)
      have R8 := Lib.hid (R6.out.other (p := ⟨w.heap.size, 0, none⟩) (by simp) (.slice (some ⟨g, 0, none⟩) (rs'.length + 1) c2))
      have O8 := Lib.hid (O6.out.other (p := ⟨w.heap.size, 0, none⟩) (by show w.heap.size ≠ q + 1; omega) (.slice (some ⟨g, 0, none⟩) (rs'.length + 1) c2))
      have A8 := Lib.hid (show AccE (w6.setCell ⟨w.heap.size, 0, none⟩ (.slice (some ⟨g, 0, none⟩) (rs'.length + 1) c2)) (w.heap.size + 2) (some ⟨g, 0, none⟩) c2 ((r0', r1', tm) :: rs') from accr_setBelow A6.out (by show w.heap.size < w.heap.size + 2; omega) _)
      clear K6 B6 R6 O6 A6 b0 g0
      generalize w6.setCell ⟨w.heap.size, 0, none⟩ (.slice (some ⟨g, 0, none⟩) (rs'.length + 1) c2) = w8 at *
      refine region_seq (fun W => W.cell? ⟨q + 1, 0, none⟩ = some (.int .i64 p1) ∧ W.cell? ⟨w.heap.size, 0, none⟩ = some (.slice (some ⟨g, 0, none⟩) (rs'.length + 1) c2) ∧ W.cell? ⟨w.heap.size, 1, none⟩ = some (.int .i64 tun) ∧ W.cell? ⟨w.heap.size, 2, none⟩ = some (.int .i64 ttl) ∧ W.cell? ⟨w.heap.size, 3, none⟩ = some (.string pay))
        [(0, true), (1, true), (2, true), (3, true), (4, false), (5, true)]
        (by kernel_rfl) (by kernel_rfl) (by kernel_rfl) (by kernel_rfl) (fun _ _ _ _ _ h => h) ⟨O8.out.cell 0, B8.out.cell 0, B8.out.cell 1, B8.out.cell 2, B8.out.cell 3⟩ ?_
      repeat
        refine seq_pure (v := ?_) rfl (by rfl) (fun W hW => ?_) ?_
        rotate_left
        · obtain ⟨d0, d1, d2, d3, d4⟩ := hW
          go_simp
          try with_reducible rfl
        simp only [Act.put, List.setIfInBounds_toArray, List.set_cons_zero, List.set_cons_succ]
      refine seq_make rfl (by rfl) (fun K hK => ?_)
      have r0 : w8.cell? ⟨w.heap.size + 1, 0, none⟩ = some (.slice none 0 0) := R8.out.cell 0
      have r1 : w8.cell? ⟨w.heap.size + 1, 1, none⟩ = some (.int .i64 0) := R8.out.cell 1
      have r2 : w8.cell? ⟨w.heap.size + 1, 2, none⟩ = some (.int .i64 0) := R8.out.cell 2
      have r3 : w8.cell? ⟨w.heap.size + 1, 3, none⟩ = some (.string ⟨#[]⟩) := R8.out.cell 3
      have f0 := R8.out.free 0
      have f1 := R8.out.free 1
      have f2 := R8.out.free 2
      have f3 := R8.out.free 3
      go_simp
      clear r0 r1 r2 r3 f0 f1 f2 f3
      have O9 := Lib.hid (O8.out.other4 (p := w.heap.size + 1) (by omega) (.slice (some ⟨g, 0, none⟩) (rs'.length + 1) c2) (.int .i64 tun) (.int .i64 ttl) (.string pay))
      have B9 := Lib.hid (B8.out.other4 (p := w.heap.size + 1) (by omega) (.slice (some ⟨g, 0, none⟩) (rs'.length + 1) c2) (.int .i64 tun) (.int .i64 ttl) (.string pay))
      have R9 := Lib.hid (R8.out.set4 (.slice (some ⟨g, 0, none⟩) (rs'.length + 1) c2) (.int .i64 tun) (.int .i64 ttl) (.string pay))
      have K9 := Lib.hid (bel_set4 (q := w.heap.size + 1) K8.out (by omega) (.slice (some ⟨g, 0, none⟩) (rs'.length + 1) c2) (.int .i64 tun) (.int .i64 ttl) (.string pay))
      have A9 := Lib.hid (show AccE ((((w8.setCell ⟨w.heap.size + 1, 0, none⟩ (.slice (some ⟨g, 0, none⟩) (rs'.length + 1) c2)).setCell ⟨w.heap.size + 1, 1, none⟩ (.int .i64 tun)).setCell ⟨w.heap.size + 1, 2, none⟩ (.int .i64 ttl)).setCell ⟨w.heap.size + 1, 3, none⟩ (.string pay)) (w.heap.size + 2) (some ⟨g, 0, none⟩) c2 ((r0', r1', tm) :: rs') from accr_setBelow (accr_setBelow (accr_setBelow (accr_setBelow A8.out (by show w.heap.size + 1 < w.heap.size + 2; omega) _) (by show w.heap.size + 1 < w.heap.size + 2; omega) _) (by show w.heap.size + 1 < w.heap.size + 2; omega) _) (by show w.heap.size + 1 < w.heap.size + 2; omega) _)
      generalize ((((w8.setCell ⟨w.heap.size + 1, 0, none⟩ (.slice (some ⟨g, 0, none⟩) (rs'.length + 1) c2)).setCell ⟨w.heap.size + 1, 1, none⟩ (.int .i64 tun)).setCell ⟨w.heap.size + 1, 2, none⟩ (.int .i64 ttl)).setCell ⟨w.heap.size + 1, 3, none⟩ (.string pay)) = w9 at *
      refine hK _ _ (fun W => W.cell? ⟨q + 1, 0, none⟩ = some (.int .i64 p1) ∧ W.cell? ⟨w.heap.size, 0, none⟩ = some (.slice (some ⟨g, 0, none⟩) (rs'.length + 1) c2) ∧ W.cell? ⟨w.heap.size, 1, none⟩ = some (.int .i64 tun) ∧ W.cell? ⟨w.heap.size, 2, none⟩ = some (.int .i64 ttl) ∧ W.cell? ⟨w.heap.size, 3, none⟩ = some (.string pay)) (fun W h => h) ⟨O9.out.cell 0, B9.out.cell 0, B9.out.cell 1, B9.out.cell 2, B9.out.cell 3⟩ ?_
      clear hK K
      repeat
        refine seq_pure (v := ?_) rfl (by rfl) (fun W hW => ?_) ?_
        rotate_left
        · clear hW
          go_simp
          try with_reducible rfl
        simp only [Act.put, List.setIfInBounds_toArray, List.set_cons_zero, List.set_cons_succ]
      refine seq_done ?_
      go_wp2
      have y0 : w9.cell? ⟨w.heap.size + 1, 0, none⟩ = some (.slice (some ⟨g, 0, none⟩) (rs'.length + 1) c2) := R9.out.cell 0
      have y1 : w9.cell? ⟨w.heap.size + 1, 1, none⟩ = some (.int .i64 tun) := R9.out.cell 1
      have y2 : w9.cell? ⟨w.heap.size + 1, 2, none⟩ = some (.int .i64 ttl) := R9.out.cell 2
      have y3 : w9.cell? ⟨w.heap.size + 1, 3, none⟩ = some (.string pay) := R9.out.cell 3
      refine bodyPost_ret (v := .tuple #[.int .i64 p1, .agg #[.slice (some ⟨g, 0, none⟩) (rs'.length + 1) c2, .int .i64 tun, .int .i64 ttl, .string pay], .int .i64 0]) (by simp [results, Try.results43, go_sem, y0, y1, y2, y3]) rfl ?_
      refine ⟨bel_drewN K9.out 1, .inr ⟨p1, (r0', r1', tm) :: rs', ttl, some ⟨g, 0, none⟩, c2, ?_, by rw [List.length_cons], A9.out.lower (by omega)⟩⟩
      unfold forwardR
      rw [HS.out]
      simp only [if_neg hz, if_true]
      rw [HTM]
  · have hn3 : (!(p2 == 3)) = true := by simpa using h3
    have hok : okOut (p1, p2) := (HU.out _ (fnd_mem HS.out)).2
    have hm2 : mE (p2, y, z - 1) = true := by
      unfold okOut at hok
      simp only at hok
      simp [mE, may, wi]
      omega
    have HE := Lib.hid (show pushL rs (p2, y, z - 1) = (p2, y, z - 1) :: rs by
      have he : pushErr rs (p2, y, z - 1) = 0 := by unfold pushErr; rw [hm2, if_pos rfl, if_neg (by omega)]
      unfold pushL; rw [if_pos he])
    clear hok hm2
    have t0 : w5.cell? ⟨q, 0, none⟩ = some (.int .i64 x) := T5.out.cell 0
    have g0 := T5.out.free 0
    go_upto_region 11 with fail
    have K6 := Lib.hid (K5.out.setCell (p := ⟨q, 0, none⟩) (by show w.heap.size ≤ q; omega) (.int .i64 p2))
    have T6 := Lib.hid (show Blk (w5.setCell ⟨q, 0, none⟩ (.int .i64 p2)) q 61 [.int .i64 p2, .int .i64 y, .int .i64 (z - 1)] from T5.out.set 0 _)
    have B6 := Lib.hid (B5.out.other (p := ⟨q, 0, none⟩) (by show q ≠ w.heap.size; omega) (.int .i64 p2))
    have R6 := Lib.hid (R5.out.other (p := ⟨q, 0, none⟩) (by show q ≠ w.heap.size + 1; omega) (.int .i64 p2))
    have O6 := Lib.hid (O5.out.other (p := ⟨q, 0, none⟩) (by show q ≠ q + 1; omega) (.int .i64 p2))
    have A6 := Lib.hid (show AccE (w5.setCell ⟨q, 0, none⟩ (.int .i64 p2)) (w.heap.size + 2) A c2 rs from AccR.setOther A5.out (fun g hg e => by have := (AL.out g hg).1; omega) _)
    clear K5 T5 B5 R5 O5 A5 t0 g0 o1
    generalize w5.setCell ⟨q, 0, none⟩ (.int .i64 p2) = w6 at *
    have t0 : w6.cell? ⟨q, 0, none⟩ = some (.int .i64 p2) := T6.out.cell 0
    have t1 : w6.cell? ⟨q, 1, none⟩ = some (.int .i64 y) := T6.out.cell 1
    have t2 : w6.cell? ⟨q, 2, none⟩ = some (.int .i64 (z - 1)) := T6.out.cell 2
    go_wp2_with fail
    have RW6 := Lib.hid (show Row ec w6 w6.heap.size A rs.length rs from AccR.row A6.out)
    ((with_reducible refine (pushed_calls A rs.length c2 rs p2 y (z - 1) w6 RW6.out (by omega)).mono ?_))
    rintro e w7 ⟨A2, c7, rfl, a7, k7⟩
    rw [HE.out] at a7 ⊢
    have A7 := Lib.hid a7
    have B7 := Lib.hid (B6.out.below k7)
    have R7 := Lib.hid (R6.out.below k7)
    have O7 := Lib.hid (O6.out.below k7)
    have K7 := Lib.hid (bel_more K6.out (Nat.le_refl _) k7)
    have BL := Lib.hid B6.out.lt
    have RL := Lib.hid R6.out.lt
    have KL := Lib.hid K6.out.size
    clear a7 k7 t0 t1 t2 K6 T6 B6 R6 O6 A6 RW6
    simp only [List.length_cons]
    have b0 : w7.cell? ⟨w.heap.size, 0, none⟩ = some (.slice (some ⟨b, o, none⟩) (rs.length + 1) c) := B7.out.cell 0
    have g0 := B7.out.free 0
    go_upto_region 15 with fail
    have K8 := Lib.hid (K7.out.setCell (p := ⟨w.heap.size, 0, none⟩) (Nat.le_refl _) (.slice A2 (rs.length + 1) c7))
    have B8 := Lib.hid (show Blk (w7.setCell ⟨w.heap.size, 0, none⟩ (.slice A2 (rs.length + 1) c7)) w.heap.size 33 [.slice A2 (rs.length + 1) c7, .int .i64 tun, .int .i64 ttl, .string pay] from B7.out.set 0 _)
    have R8 := Lib.hid (R7.out.other (p := ⟨w.heap.size, 0, none⟩) (by simp) (.slice A2 (rs.length + 1) c7))
    have O8 := Lib.hid (O7.out.other (p := ⟨w.heap.size, 0, none⟩) (by show w.heap.size ≠ q + 1; omega) (.slice A2 (rs.length + 1) c7))
    have A8 := Lib.hid (show AccE (w7.setCell ⟨w.heap.size, 0, none⟩ (.slice A2 (rs.length + 1) c7)) w6.heap.size A2 c7 ((p2, y, z - 1) :: rs) from accr_setBelow A7.out BL.out _)
    clear K7 B7 R7 O7 A7 b0 g0
    generalize w7.setCell ⟨w.heap.size, 0, none⟩ (.slice A2 (rs.length + 1) c7) = w8 at *
    refine region_seq (fun W => W.cell? ⟨q + 1, 0, none⟩ = some (.int .i64 p1) ∧ W.cell? ⟨w.heap.size, 0, none⟩ = some (.slice A2 (rs.length + 1) c7) ∧ W.cell? ⟨w.heap.size, 1, none⟩ = some (.int .i64 tun) ∧ W.cell? ⟨w.heap.size, 2, none⟩ = some (.int .i64 ttl) ∧ W.cell? ⟨w.heap.size, 3, none⟩ = some (.string pay))
      [(0, true), (1, true), (2, true), (3, true), (4, false), (5, true)]
      (by kernel_rfl) (by kernel_rfl) (by kernel_rfl) (by kernel_rfl) (fun _ _ _ _ _ h => h) ⟨O8.out.cell 0, B8.out.cell 0, B8.out.cell 1, B8.out.cell 2, B8.out.cell 3⟩ ?_
    repeat
      refine seq_pure (v := ?_) rfl (by rfl) (fun W hW => ?_) ?_
      rotate_left
      · obtain ⟨d0, d1, d2, d3, d4⟩ := hW
        go_simp
        try with_reducible rfl
      simp only [Act.put, List.setIfInBounds_toArray, List.set_cons_zero, List.set_cons_succ]
    refine seq_make rfl (by rfl) (fun K hK => ?_)
    have r0 : w8.cell? ⟨w.heap.size + 1, 0, none⟩ = some (.slice none 0 0) := R8.out.cell 0
    have r1 : w8.cell? ⟨w.heap.size + 1, 1, none⟩ = some (.int .i64 0) := R8.out.cell 1
    have r2 : w8.cell? ⟨w.heap.size + 1, 2, none⟩ = some (.int .i64 0) := R8.out.cell 2
    have r3 : w8.cell? ⟨w.heap.size + 1, 3, none⟩ = some (.string ⟨#[]⟩) := R8.out.cell 3
    have f0 := R8.out.free 0
    have f1 := R8.out.free 1
    have f2 := R8.out.free 2
    have f3 := R8.out.free 3
    go_simp
    clear r0 r1 r2 r3 f0 f1 f2 f3
    have O9 := Lib.hid (O8.out.other4 (p := w.heap.size + 1) (by omega) (.slice A2 (rs.length + 1) c7) (.int .i64 tun) (.int .i64 ttl) (.string pay))
    have B9 := Lib.hid (B8.out.other4 (p := w.heap.size + 1) (by omega) (.slice A2 (rs.length + 1) c7) (.int .i64 tun) (.int .i64 ttl) (.string pay))
    have R9 := Lib.hid (R8.out.set4 (.slice A2 (rs.length + 1) c7) (.int .i64 tun) (.int .i64 ttl) (.string pay))
    have K9 := Lib.hid (bel_set4 (q := w.heap.size + 1) K8.out (by omega) (.slice A2 (rs.length + 1) c7) (.int .i64 tun) (.int .i64 ttl) (.string pay))
    have A9 := Lib.hid (show AccE ((((w8.setCell ⟨w.heap.size + 1, 0, none⟩ (.slice A2 (rs.length + 1) c7)).setCell ⟨w.heap.size + 1, 1, none⟩ (.int .i64 tun)).setCell ⟨w.heap.size + 1, 2, none⟩ (.int .i64 ttl)).setCell ⟨w.heap.size + 1, 3, none⟩ (.string pay)) w6.heap.size A2 c7 ((p2, y, z - 1) :: rs) from accr_setBelow (accr_setBelow (accr_setBelow (accr_setBelow A8.out RL.out _) RL.out _) RL.out _) RL.out _)
    generalize ((((w8.setCell ⟨w.heap.size + 1, 0, none⟩ (.slice A2 (rs.length + 1) c7)).setCell ⟨w.heap.size + 1, 1, none⟩ (.int .i64 tun)).setCell ⟨w.heap.size + 1, 2, none⟩ (.int .i64 ttl)).setCell ⟨w.heap.size + 1, 3, none⟩ (.string pay)) = w9 at *
    refine hK _ _ (fun W => W.cell? ⟨q + 1, 0, none⟩ = some (.int .i64 p1) ∧ W.cell? ⟨w.heap.size, 0, none⟩ = some (.slice A2 (rs.length + 1) c7) ∧ W.cell? ⟨w.heap.size, 1, none⟩ = some (.int .i64 tun) ∧ W.cell? ⟨w.heap.size, 2, none⟩ = some (.int .i64 ttl) ∧ W.cell? ⟨w.heap.size, 3, none⟩ = some (.string pay)) (fun W h => h) ⟨O9.out.cell 0, B9.out.cell 0, B9.out.cell 1, B9.out.cell 2, B9.out.cell 3⟩ ?_
    clear hK K
    repeat
      refine seq_pure (v := ?_) rfl (by rfl) (fun W hW => ?_) ?_
      rotate_left
      · clear hW
        go_simp
        try with_reducible rfl
      simp only [Act.put, List.setIfInBounds_toArray, List.set_cons_zero, List.set_cons_succ]
    refine seq_done ?_
    go_wp2
    have y0 : w9.cell? ⟨w.heap.size + 1, 0, none⟩ = some (.slice A2 (rs.length + 1) c7) := R9.out.cell 0
    have y1 : w9.cell? ⟨w.heap.size + 1, 1, none⟩ = some (.int .i64 tun) := R9.out.cell 1
    have y2 : w9.cell? ⟨w.heap.size + 1, 2, none⟩ = some (.int .i64 ttl) := R9.out.cell 2
    have y3 : w9.cell? ⟨w.heap.size + 1, 3, none⟩ = some (.string pay) := R9.out.cell 3
    refine bodyPost_ret (v := .tuple #[.int .i64 p1, .agg #[.slice A2 (rs.length + 1) c7, .int .i64 tun, .int .i64 ttl, .string pay], .int .i64 0]) (by simp [results, Try.results43, go_sem, y0, y1, y2, y3]) rfl ?_
    refine ⟨bel_drewN K9.out 1, .inr ⟨p1, (p2, y, z - 1) :: rs, ttl, A2, c7, ?_, by rw [List.length_cons], A9.out.lower KL.out⟩⟩
    unfold forwardR
    rw [HS.out]
    simp only [if_neg hz, if_neg h3]
end
end Go.Proofs.Ytkbbnfinmipenaa
