/-
  Contract of package body's fields. Conditions: the item's list reads as numbers; as of number.
-/
import Derived.Test.YthmgpffpiggomaaBodyMN
import Derived.Deep.CutBlock
namespace Go.Proofs.Ythmgpffpiggomaa
open Go.RowKit

/-- An item as it lies in memory, and the numbers that its list reads as. -/
structure It where
  cl : Int
  a : Int
  b : Int
  c : Int
  u : Nat
  la : Option Addr
  ln : Nat
  lc : Nat
  l : List Int
  w : Wnt
def It.val (x : It) : PIt := ⟨x.cl, x.a, x.b, x.c, x.u, x.l, x.w⟩
def It.cells (x : It) : List Value := [.int .i64 x.cl, .int .i64 x.a, .int .i64 x.b, .int .i64 x.c, .int .u64 (x.u : Int), .slice x.la x.ln x.lc, .int .u64 (x.w.bw : Int), .int .i64 x.w.setup, .int .i64 x.w.hold, .int .u32 (x.w.any : Int), .int .u32 (x.w.all : Int), .int .u32 (x.w.non : Int)]

section
variable {w W : World} {B p : Nat} {S : List Nat} {T : TypeId} {σ : DSt}

/-- A number, whichever direction it goes: some function answers it. -/
theorem num_any (h : Dir w B S T p σ) (k lo hi u : Nat) (x0 x1 x2 x3 : Int) (e0 : x0 = (k : Int)) (e1 : x1 = (lo : Int)) (e2 : x2 = (hi : Int)) (e3 : x3 = (u : Int)) (h1 : 1 ≤ k) (h8 : k ≤ 8) (hl : σ.len ≤ 1099511627776) (hB : B ≤ w.heap.size) :
    ∃ F, (F = 114 ∨ F = 116) ∧ (∀ (n : Nat) (a : Addr) (w : World), (method (n + 1) T (.pointer (some a)) "viaduct/body.number").run Try.prog w = .ok (F, .pointer (some a)) w) ∧
      Calls Try.prog F #[.pointer (some ⟨p, 0, none⟩), .int .i64 x0, .int .u64 x1, .int .u64 x2, .int .u64 x3] w (NumPost w B S T p σ k lo hi u) := by
  cases σ with
  | wr b bad =>
    have hc := wnum_calls h k lo hi u x0 x1 x2 x3 e0 e1 e2 e3 h1 h8 hl hB
    obtain ⟨rfl, _⟩ := h
    exact ⟨_, .inl rfl, meth_wn, hc⟩
  | rd l i err bad =>
    have hc := rnum_calls h k lo hi u x0 x1 x2 x3 e0 e1 e2
    obtain ⟨rfl, _⟩ := h
    exact ⟨_, .inr rfl, meth_rn, hc⟩

theorem run_hops : ∀ (l : List Int) (σ : DSt), nds (DSt.run (l.flatMap hopR) σ).1 = (DSt.hops l σ).1 ∧ (DSt.run (l.flatMap hopR) σ).2 = (DSt.hops l σ).2
  | [], σ => ⟨rfl, rfl⟩
  | x :: l, σ => by
    have ih := run_hops l (σ.hop x).2
    exact ⟨congrArg _ ih.1, ih.2⟩

theorem hops_len : ∀ (l : List Int) (σ : DSt), (DSt.hops l σ).1.length = l.length
  | [], _ => rfl
  | x :: l, σ => congrArg Nat.succ (hops_len l (σ.hop x).2)
theorem accr_typ {α : Type} {enc : α → List Value} {k : Nat} {w : World} {base c : Nat} {T : TypeId} {A : Option Addr} {l : List α} (h : AccR enc k w base T A c l) {x : Nat} (hx : blk A = some x) : Typ w x T := by
  rcases h.2 with ⟨hv, _⟩ | ⟨g, cap, cur, hv, _, hh, _⟩
  · injection hv with e; subst e; cases hx
  · injection hv with e; subst e; injection hx with hx; subst hx; exact ⟨_, _, hh⟩

/-- What is known behind the choice of a class. -/
def CutF (w : World) (B : Nat) (S : List Nat) (T : TypeId) (p : Nat) (vs rs : List Value) (r : PIt × DSt) (W : World) : Prop :=
  ∃ y : It, Env w W B S T p r.2 65 vs rs y.cells ∧ y.val = r.1 ∧ AccI W w.heap.size y.la y.lc y.l ∧ y.ln = y.l.length
/-- What fields answers. -/
def FldPost (w : World) (B : Nat) (S : List Nat) (T : TypeId) (p : Nat) (r : PIt × DSt) (e : Ending) (w' : World) : Prop :=
  ∃ y : It, e = .returned (.agg y.cells.toArray) ∧ y.val = r.1 ∧ AccI w' w.heap.size y.la y.lc y.l ∧ y.ln = y.l.length ∧ Dir w' B S T p r.2 ∧ Turn S w w'

set_option maxRecDepth 100000 in
set_option maxHeartbeats 1600000 in
theorem fields_calls (h : Dir w B S T p σ) (x : It) (hr : Row ei w w.heap.size x.la x.ln x.l) (hn : x.ln ≤ maxLen) (hu : x.u < 18446744073709551616) (h1 : x.w.any < 4294967296) (h2 : x.w.all < 4294967296) (h3 : x.w.non < 4294967296) (hl : σ.len ≤ 1000000) (hB : B ≤ w.heap.size) :
    Calls Try.prog 52 #[dv T p, .agg x.cells.toArray] w (FldPost w B S T p (σ.fields x.val)) := by
  have HX := Lib.hid hr.1
  have HR := Lib.hid hr
  obtain ⟨cl, xa, xb, xc, xu, la, ln, lc, l, bw, su, ho, an, al, no⟩ := x
  simp only at h1 h2 h3 hu hn HX HR
  have E := Env.new h hB 65 [.int .i64 cl, .int .i64 xa, .int .i64 xb, .int .i64 xc, .int .u64 (xu : Int), .slice la ln lc, .int .u64 (bw : Int), .int .i64 su, .int .i64 ho, .int .u32 (an : Int), .int .u32 (al : Int), .int .u32 (no : Int)] [.int .i64 0, .int .i64 0, .int .i64 0, .int .i64 0, .int .u64 0, .slice none 0 0, .int .u64 0, .int .i64 0, .int .i64 0, .int .u32 0, .int .u32 0, .int .u32 0] [.int .i64 cl, .int .i64 0, .int .i64 0, .int .i64 0, .int .u64 0, .slice none 0 0, .int .u64 0, .int .i64 0, .int .i64 0, .int .u32 0, .int .u32 0, .int .u32 0]
  have HE := Lib.hid E
  simp only [It.cells]
  clear E h hr
  unfold dv
  go_enter Try.func52, Try.ntmps52
  go_upto_region 2 with fail
  have HBel := Lib.hid (bel_new (bel_new (bel_new (Below.refl w.heap.size w) (.cells #[.int .i64 cl, .int .i64 xa, .int .i64 xb, .int .i64 xc, .int .u64 (xu : Int), .slice la ln lc, .int .u64 (bw : Int), .int .i64 su, .int .i64 ho, .int .u32 (an : Int), .int .u32 (al : Int), .int .u32 (no : Int)] 65)) (.cells #[.int .i64 0, .int .i64 0, .int .i64 0, .int .i64 0, .int .u64 0, .slice none 0 0, .int .u64 0, .int .i64 0, .int .i64 0, .int .u32 0, .int .u32 0, .int .u32 0] 65)) (.cells #[.int .i64 cl, .int .i64 0, .int .i64 0, .int .i64 0, .int .u64 0, .slice none 0 0, .int .u64 0, .int .i64 0, .int .i64 0, .int .u32 0, .int .u32 0, .int .u32 0] 65))
  revert HE HBel
  generalize World.alloc (World.alloc (World.alloc w _) _) _ = W1
  intro HE HBel
  have c0 := HE.out.box.cell 0
  simp only [List.getElem?_cons_zero] at c0
  go_upto_block 0 with fail
  clear c0
  go_cut [2] (fun _ W => CutF w B S T p [.int .i64 cl, .int .i64 xa, .int .i64 xb, .int .i64 xc, .int .u64 (xu : Int), .slice la ln lc, .int .u64 (bw : Int), .int .i64 su, .int .i64 ho, .int .u32 (an : Int), .int .u32 (al : Int), .int .u32 (no : Int)] [.int .i64 0, .int .i64 0, .int .i64 0, .int .i64 0, .int .u64 0, .slice none 0 0, .int .u64 0, .int .i64 0, .int .i64 0, .int .u32 0, .int .u32 0, .int .u32 0] (DSt.fields ⟨cl, xa, xb, xc, xu, l, ⟨bw, su, ho, an, al, no⟩⟩ σ) W)
  case first =>
    by_cases e0 : cl = 1
    · subst e0
      obtain ⟨v1, s1, r1⟩ : ∃ v s, DSt.node xa σ = (v, s) := ⟨_, _, rfl⟩
      have l1 : s1.len ≤ σ.len + 16 := by have hh := DSt.len_node σ xa; rw [r1] at hh; exact hh
      have R1 := Lib.hid r1
      have c1 := HE.out.box.cell 1
      simp only [List.getElem?_cons_zero, List.getElem?_cons_succ] at c1
      have hc := node_calls HE.out.dir xa (by omega) HE.out.room
      unfold dv at hc
      rw [r1] at hc
      clear r1
      go_wp2_with fail
      ((with_reducible refine hc.mono ?_))
      rintro e W2 ⟨rfl, hd, ht⟩
      have HF := Lib.hid (HE.out.call hd ht)
      have c2 := HF.out.out.cell 1
      have f2 := HF.out.out.free 1
      simp only [List.getElem?_cons_zero, List.getElem?_cons_succ] at c2
      clear c1 hc hd ht HE
      go_upto_region 5 with fail
      have HE := Lib.hid (HF.out.put (by decide) 1 (.int .i64 (v1 : Int)))
      simp only [List.set_cons_zero, List.set_cons_succ] at HE
      clear c2 f2 HF
      revert HE
      generalize World.setCell W2 _ _ = W1
      intro HE
      obtain ⟨s2, r2⟩ : ∃ s, DSt.alw 2 0 s1 = s := ⟨_, rfl⟩
      have l2 : s2.len ≤ s1.len + 16 := by have hh := DSt.len_alw s1 2 0 (by omega); rw [r2] at hh; exact Nat.le_trans hh (by omega)
      have R2 := Lib.hid r2
      have hc := always_calls HE.out.dir 2 0 2 0 rfl rfl (by omega) (by omega) (by omega) HE.out.room
      unfold dv AlwPost at hc
      rw [r2] at hc
      clear r2
      go_wp2_with fail
      ((with_reducible refine hc.mono ?_))
      rintro e W2 ⟨rfl, hd, ht⟩
      have HF := Lib.hid (HE.out.call hd ht)
      clear  hc hd ht HE
      have HE := HF
      clear HF
      revert HE
      generalize W2 = W1
      intro HE
      obtain ⟨v3, s3, r3⟩ : ∃ v s, DSt.small xb s2 = (v, s) := ⟨_, _, rfl⟩
      have l3 : s3.len ≤ s2.len + 16 := by have hh := DSt.len_upto s2 2 65535 xb (by omega); rw [show DSt.upto 2 65535 xb s2 = _ from r3] at hh; exact Nat.le_trans hh (by omega)
      have R3 := Lib.hid r3
      have c1 := HE.out.box.cell 2
      simp only [List.getElem?_cons_zero, List.getElem?_cons_succ] at c1
      have hc := small_calls HE.out.dir xb (by omega) HE.out.room
      unfold dv at hc
      rw [r3] at hc
      clear r3
      go_wp2_with fail
      ((with_reducible refine hc.mono ?_))
      rintro e W2 ⟨rfl, hd, ht⟩
      have HF := Lib.hid (HE.out.call hd ht)
      have c2 := HF.out.out.cell 2
      have f2 := HF.out.out.free 2
      simp only [List.getElem?_cons_zero, List.getElem?_cons_succ] at c2
      clear c1 hc hd ht HE
      go_upto_region 7 with fail
      have HE := Lib.hid (HF.out.put (by decide) 2 (.int .i64 (v3 : Int)))
      simp only [List.set_cons_zero, List.set_cons_succ] at HE
      clear c2 f2 HF
      revert HE
      generalize World.setCell W2 _ _ = W1
      intro HE
      obtain ⟨v4, s4, r4⟩ : ∃ v s, DSt.node xc s3 = (v, s) := ⟨_, _, rfl⟩
      have l4 : s4.len ≤ s3.len + 16 := by have hh := DSt.len_node s3 xc; rw [r4] at hh; exact hh
      have R4 := Lib.hid r4
      have c1 := HE.out.box.cell 3
      simp only [List.getElem?_cons_zero, List.getElem?_cons_succ] at c1
      have hc := node_calls HE.out.dir xc (by omega) HE.out.room
      unfold dv at hc
      rw [r4] at hc
      clear r4
      go_wp2_with fail
      ((with_reducible refine hc.mono ?_))
      rintro e W2 ⟨rfl, hd, ht⟩
      have HF := Lib.hid (HE.out.call hd ht)
      have c2 := HF.out.out.cell 3
      have f2 := HF.out.out.free 3
      simp only [List.getElem?_cons_zero, List.getElem?_cons_succ] at c2
      clear c1 hc hd ht HE
      have HE := Lib.hid (HF.out.put (by decide) 3 (.int .i64 (v4 : Int)))
      simp only [List.set_cons_zero, List.set_cons_succ] at HE
      go_wp2
      go_meet
      have hr : DSt.fields ⟨1, xa, xb, xc, xu, l, ⟨bw, su, ho, an, al, no⟩⟩ σ = (It.val ⟨1, v1, v3, v4, 0, none, 0, 0, [], Wnt.zero⟩, s4) := by
        have q1 := R1.out
        have q2 := R2.out
        have q3 := R3.out
        have q4 := R4.out
        simp only [DSt.node, DSt.small, DSt.upto, DSt.alw] at q1 q2 q3 q4
        simp [DSt.fields, rqs, DSt.run, mkI, at', zR, It.val, q1, q2, q3, q4]
      rw [hr]
      exact ⟨⟨1, v1, v3, v4, 0, none, 0, 0, [], Wnt.zero⟩, HE.out, rfl, AccR.nil _ _ _, rfl⟩
    by_cases e1 : cl = 3
    · subst e1
      obtain ⟨v1, s1, r1⟩ : ∃ v s, DSt.node xa σ = (v, s) := ⟨_, _, rfl⟩
      have l1 : s1.len ≤ σ.len + 16 := by have hh := DSt.len_node σ xa; rw [r1] at hh; exact hh
      have R1 := Lib.hid r1
      have c1 := HE.out.box.cell 1
      simp only [List.getElem?_cons_zero, List.getElem?_cons_succ] at c1
      have hc := node_calls HE.out.dir xa (by omega) HE.out.room
      unfold dv at hc
      rw [r1] at hc
      clear r1
      go_wp2_with fail
      ((with_reducible refine hc.mono ?_))
      rintro e W2 ⟨rfl, hd, ht⟩
      have HF := Lib.hid (HE.out.call hd ht)
      have c2 := HF.out.out.cell 1
      have f2 := HF.out.out.free 1
      simp only [List.getElem?_cons_zero, List.getElem?_cons_succ] at c2
      clear c1 hc hd ht HE
      go_upto_region 10 with fail
      have HE := Lib.hid (HF.out.put (by decide) 1 (.int .i64 (v1 : Int)))
      simp only [List.set_cons_zero, List.set_cons_succ] at HE
      clear c2 f2 HF
      revert HE
      generalize World.setCell W2 _ _ = W1
      intro HE
      obtain ⟨s2, r2⟩ : ∃ s, DSt.alw 4 0 s1 = s := ⟨_, rfl⟩
      have l2 : s2.len ≤ s1.len + 16 := by have hh := DSt.len_alw s1 4 0 (by omega); rw [r2] at hh; exact Nat.le_trans hh (by omega)
      have R2 := Lib.hid r2
      have hc := always_calls HE.out.dir 4 0 4 0 rfl rfl (by omega) (by omega) (by omega) HE.out.room
      unfold dv AlwPost at hc
      rw [r2] at hc
      clear r2
      go_wp2_with fail
      ((with_reducible refine hc.mono ?_))
      rintro e W2 ⟨rfl, hd, ht⟩
      have HF := Lib.hid (HE.out.call hd ht)
      clear  hc hd ht HE
      go_wp2
      go_meet
      have hr : DSt.fields ⟨3, xa, xb, xc, xu, l, ⟨bw, su, ho, an, al, no⟩⟩ σ = (It.val ⟨3, v1, 0, 0, 0, none, 0, 0, [], Wnt.zero⟩, s2) := by
        have q1 := R1.out
        have q2 := R2.out
        simp only [DSt.node, DSt.upto, DSt.alw] at q1 q2
        simp [DSt.fields, rqs, DSt.run, mkI, at', zR, It.val, q1, q2]
      rw [hr]
      exact ⟨⟨3, v1, 0, 0, 0, none, 0, 0, [], Wnt.zero⟩, HF.out, rfl, AccR.nil _ _ _, rfl⟩
    by_cases e2 : cl = 5
    · subst e2
      obtain ⟨v1, s1, r1⟩ : ∃ v s, DSt.num 4 0 4294967295 xu σ = (v, s) := ⟨_, _, rfl⟩
      obtain ⟨F, hF, hm, hc⟩ := num_any HE.out.dir 4 0 4294967295 xu 4 0 4294967295 (xu : Int) rfl rfl rfl rfl (by omega) (by omega) (by omega) HE.out.room
      unfold NumPost at hc
      have R1 := Lib.hid r1
      have c1 := HE.out.box.cell 4
      simp only [List.getElem?_cons_zero, List.getElem?_cons_succ] at c1
      rw [r1] at hc
      clear r1
      rcases hF with rfl | rfl
      · go_wp2_with fail
        ((with_reducible refine hc.mono ?_))
        rintro e W2 ⟨rfl, hd, ht⟩
        have HF := Lib.hid (HE.out.call hd ht)
        have c2 := HF.out.out.cell 4
        have f2 := HF.out.out.free 4
        simp only [List.getElem?_cons_zero, List.getElem?_cons_succ] at c2
        clear c1 hc hd ht HE hm
        have HE := Lib.hid (HF.out.put (by decide) 4 (.int .u64 (v1 : Int)))
        simp only [List.set_cons_zero, List.set_cons_succ] at HE
        go_wp2
        go_meet
        have hr : DSt.fields ⟨5, xa, xb, xc, xu, l, ⟨bw, su, ho, an, al, no⟩⟩ σ = (It.val ⟨5, 0, 0, 0, v1, none, 0, 0, [], Wnt.zero⟩, s1) := by
          have q1 := R1.out
          simp [DSt.fields, rqs, DSt.run, mkI, at', It.val, q1]
        rw [hr]
        exact ⟨⟨5, 0, 0, 0, v1, none, 0, 0, [], Wnt.zero⟩, HE.out, rfl, AccR.nil _ _ _, rfl⟩
      · go_wp2_with fail
        ((with_reducible refine hc.mono ?_))
        rintro e W2 ⟨rfl, hd, ht⟩
        have HF := Lib.hid (HE.out.call hd ht)
        have c2 := HF.out.out.cell 4
        have f2 := HF.out.out.free 4
        simp only [List.getElem?_cons_zero, List.getElem?_cons_succ] at c2
        clear c1 hc hd ht HE hm
        have HE := Lib.hid (HF.out.put (by decide) 4 (.int .u64 (v1 : Int)))
        simp only [List.set_cons_zero, List.set_cons_succ] at HE
        go_wp2
        go_meet
        have hr : DSt.fields ⟨5, xa, xb, xc, xu, l, ⟨bw, su, ho, an, al, no⟩⟩ σ = (It.val ⟨5, 0, 0, 0, v1, none, 0, 0, [], Wnt.zero⟩, s1) := by
          have q1 := R1.out
          simp [DSt.fields, rqs, DSt.run, mkI, at', It.val, q1]
        rw [hr]
        exact ⟨⟨5, 0, 0, 0, v1, none, 0, 0, [], Wnt.zero⟩, HE.out, rfl, AccR.nil _ _ _, rfl⟩
    by_cases e3 : cl = 6
    · subst e3
      obtain ⟨v1, s1, r1⟩ : ∃ v s, DSt.node xa σ = (v, s) := ⟨_, _, rfl⟩
      have l1 : s1.len ≤ σ.len + 16 := by have hh := DSt.len_node σ xa; rw [r1] at hh; exact hh
      have R1 := Lib.hid r1
      have c1 := HE.out.box.cell 1
      simp only [List.getElem?_cons_zero, List.getElem?_cons_succ] at c1
      have hc := node_calls HE.out.dir xa (by omega) HE.out.room
      unfold dv at hc
      rw [r1] at hc
      clear r1
      go_wp2_with fail
      ((with_reducible refine hc.mono ?_))
      rintro e W2 ⟨rfl, hd, ht⟩
      have HF := Lib.hid (HE.out.call hd ht)
      have c2 := HF.out.out.cell 1
      have f2 := HF.out.out.free 1
      simp only [List.getElem?_cons_zero, List.getElem?_cons_succ] at c2
      clear c1 hc hd ht HE
      go_upto_region 15 with fail
      have HE := Lib.hid (HF.out.put (by decide) 1 (.int .i64 (v1 : Int)))
      simp only [List.set_cons_zero, List.set_cons_succ] at HE
      clear c2 f2 HF
      revert HE
      generalize World.setCell W2 _ _ = W1
      intro HE
      obtain ⟨s2, r2⟩ : ∃ s, DSt.alw 1 0 s1 = s := ⟨_, rfl⟩
      have l2 : s2.len ≤ s1.len + 16 := by have hh := DSt.len_alw s1 1 0 (by omega); rw [r2] at hh; exact Nat.le_trans hh (by omega)
      have R2 := Lib.hid r2
      have hc := always_calls HE.out.dir 1 0 1 0 rfl rfl (by omega) (by omega) (by omega) HE.out.room
      unfold dv AlwPost at hc
      rw [r2] at hc
      clear r2
      go_wp2_with fail
      ((with_reducible refine hc.mono ?_))
      rintro e W2 ⟨rfl, hd, ht⟩
      have HF := Lib.hid (HE.out.call hd ht)
      clear  hc hd ht HE
      have HE := HF
      clear HF
      revert HE
      generalize W2 = W1
      intro HE
      obtain ⟨v3, s3, r3⟩ : ∃ v s, DSt.upto 1 255 xb s2 = (v, s) := ⟨_, _, rfl⟩
      have l3 : s3.len ≤ s2.len + 16 := by have hh := DSt.len_upto s2 1 255 xb (by omega); rw [r3] at hh; exact Nat.le_trans hh (by omega)
      have R3 := Lib.hid r3
      have c1 := HE.out.box.cell 2
      simp only [List.getElem?_cons_zero, List.getElem?_cons_succ] at c1
      have hc := upTo_calls HE.out.dir 1 255 xb 1 255 rfl rfl (by omega) (by omega) (by omega) (by omega) HE.out.room
      unfold dv at hc
      rw [r3] at hc
      clear r3
      go_wp2_with fail
      ((with_reducible refine hc.mono ?_))
      rintro e W2 ⟨rfl, hd, ht⟩
      have HF := Lib.hid (HE.out.call hd ht)
      have c2 := HF.out.out.cell 2
      have f2 := HF.out.out.free 2
      simp only [List.getElem?_cons_zero, List.getElem?_cons_succ] at c2
      clear c1 hc hd ht HE
      go_upto_region 17 with fail
      have HE := Lib.hid (HF.out.put (by decide) 2 (.int .i64 (v3 : Int)))
      simp only [List.set_cons_zero, List.set_cons_succ] at HE
      clear c2 f2 HF
      revert HE
      generalize World.setCell W2 _ _ = W1
      intro HE
      obtain ⟨v4, s4, r4⟩ : ∃ v s, DSt.small xc s3 = (v, s) := ⟨_, _, rfl⟩
      have l4 : s4.len ≤ s3.len + 16 := by have hh := DSt.len_upto s3 2 65535 xc (by omega); rw [show DSt.upto 2 65535 xc s3 = _ from r4] at hh; exact Nat.le_trans hh (by omega)
      have R4 := Lib.hid r4
      have c1 := HE.out.box.cell 3
      simp only [List.getElem?_cons_zero, List.getElem?_cons_succ] at c1
      have hc := small_calls HE.out.dir xc (by omega) HE.out.room
      unfold dv at hc
      rw [r4] at hc
      clear r4
      go_wp2_with fail
      ((with_reducible refine hc.mono ?_))
      rintro e W2 ⟨rfl, hd, ht⟩
      have HF := Lib.hid (HE.out.call hd ht)
      have c2 := HF.out.out.cell 3
      have f2 := HF.out.out.free 3
      simp only [List.getElem?_cons_zero, List.getElem?_cons_succ] at c2
      clear c1 hc hd ht HE
      have HE := Lib.hid (HF.out.put (by decide) 3 (.int .i64 (v4 : Int)))
      simp only [List.set_cons_zero, List.set_cons_succ] at HE
      go_wp2
      go_meet
      have hr : DSt.fields ⟨6, xa, xb, xc, xu, l, ⟨bw, su, ho, an, al, no⟩⟩ σ = (It.val ⟨6, v1, v3, v4, 0, none, 0, 0, [], Wnt.zero⟩, s4) := by
        have q1 := R1.out
        have q2 := R2.out
        have q3 := R3.out
        have q4 := R4.out
        simp only [DSt.node, DSt.small, DSt.upto, DSt.alw] at q1 q2 q3 q4
        simp [DSt.fields, rqs, DSt.run, mkI, at', zR, It.val, q1, q2, q3, q4]
      rw [hr]
      exact ⟨⟨6, v1, v3, v4, 0, none, 0, 0, [], Wnt.zero⟩, HE.out, rfl, AccR.nil _ _ _, rfl⟩
    by_cases e4 : cl = 8
    · subst e4
      obtain ⟨s1, r1⟩ : ∃ s, DSt.alw 4 18 σ = s := ⟨_, rfl⟩
      have l1 : s1.len ≤ σ.len + 16 := by have hh := DSt.len_alw σ 4 18 (by omega); rw [r1] at hh; exact Nat.le_trans hh (by omega)
      have R1 := Lib.hid r1
      have hc := always_calls HE.out.dir 4 18 4 18 rfl rfl (by omega) (by omega) (by omega) HE.out.room
      unfold dv AlwPost at hc
      rw [r1] at hc
      clear r1
      go_wp2_with fail
      ((with_reducible refine hc.mono ?_))
      rintro e W2 ⟨rfl, hd, ht⟩
      have HF := Lib.hid (HE.out.call hd ht)
      clear  hc hd ht HE
      go_wp2
      go_meet
      have hr : DSt.fields ⟨8, xa, xb, xc, xu, l, ⟨bw, su, ho, an, al, no⟩⟩ σ = (It.val ⟨8, 0, 0, 0, 0, none, 0, 0, [], Wnt.zero⟩, s1) := by
        have q1 := R1.out
        simp only [DSt.alw] at q1
        simp [DSt.fields, rqs, DSt.run, mkI, zR, It.val, q1]
      rw [hr]
      exact ⟨⟨8, 0, 0, 0, 0, none, 0, 0, [], Wnt.zero⟩, HF.out, rfl, AccR.nil _ _ _, rfl⟩
    by_cases e5 : cl = 9
    · subst e5
      obtain ⟨v1, s1, r1⟩ : ∃ v s, DSt.num 8 0 18446744073709551615 xu σ = (v, s) := ⟨_, _, rfl⟩
      obtain ⟨F, hF, hm, hc⟩ := num_any HE.out.dir 8 0 18446744073709551615 xu 8 0 18446744073709551615 (xu : Int) rfl rfl rfl rfl (by omega) (by omega) (by omega) HE.out.room
      unfold NumPost at hc
      have R1 := Lib.hid r1
      have c1 := HE.out.box.cell 4
      simp only [List.getElem?_cons_zero, List.getElem?_cons_succ] at c1
      rw [r1] at hc
      clear r1
      rcases hF with rfl | rfl
      · go_wp2_with fail
        ((with_reducible refine hc.mono ?_))
        rintro e W2 ⟨rfl, hd, ht⟩
        have HF := Lib.hid (HE.out.call hd ht)
        have c2 := HF.out.out.cell 4
        have f2 := HF.out.out.free 4
        simp only [List.getElem?_cons_zero, List.getElem?_cons_succ] at c2
        clear c1 hc hd ht HE hm
        have HE := Lib.hid (HF.out.put (by decide) 4 (.int .u64 (v1 : Int)))
        simp only [List.set_cons_zero, List.set_cons_succ] at HE
        go_wp2
        go_meet
        have hr : DSt.fields ⟨9, xa, xb, xc, xu, l, ⟨bw, su, ho, an, al, no⟩⟩ σ = (It.val ⟨9, 0, 0, 0, v1, none, 0, 0, [], Wnt.zero⟩, s1) := by
          have q1 := R1.out
          simp [DSt.fields, rqs, DSt.run, mkI, at', It.val, q1]
        rw [hr]
        exact ⟨⟨9, 0, 0, 0, v1, none, 0, 0, [], Wnt.zero⟩, HE.out, rfl, AccR.nil _ _ _, rfl⟩
      · go_wp2_with fail
        ((with_reducible refine hc.mono ?_))
        rintro e W2 ⟨rfl, hd, ht⟩
        have HF := Lib.hid (HE.out.call hd ht)
        have c2 := HF.out.out.cell 4
        have f2 := HF.out.out.free 4
        simp only [List.getElem?_cons_zero, List.getElem?_cons_succ] at c2
        clear c1 hc hd ht HE hm
        have HE := Lib.hid (HF.out.put (by decide) 4 (.int .u64 (v1 : Int)))
        simp only [List.set_cons_zero, List.set_cons_succ] at HE
        go_wp2
        go_meet
        have hr : DSt.fields ⟨9, xa, xb, xc, xu, l, ⟨bw, su, ho, an, al, no⟩⟩ σ = (It.val ⟨9, 0, 0, 0, v1, none, 0, 0, [], Wnt.zero⟩, s1) := by
          have q1 := R1.out
          simp [DSt.fields, rqs, DSt.run, mkI, at', It.val, q1]
        rw [hr]
        exact ⟨⟨9, 0, 0, 0, v1, none, 0, 0, [], Wnt.zero⟩, HE.out, rfl, AccR.nil _ _ _, rfl⟩
    by_cases e6 : cl = 12
    · subst e6
      obtain ⟨v1, s1, r1⟩ : ∃ v s, DSt.num 8 0 18446744073709551615 xu σ = (v, s) := ⟨_, _, rfl⟩
      obtain ⟨F, hF, hm, hc⟩ := num_any HE.out.dir 8 0 18446744073709551615 xu 8 0 18446744073709551615 (xu : Int) rfl rfl rfl rfl (by omega) (by omega) (by omega) HE.out.room
      unfold NumPost at hc
      have R1 := Lib.hid r1
      have c1 := HE.out.box.cell 4
      simp only [List.getElem?_cons_zero, List.getElem?_cons_succ] at c1
      rw [r1] at hc
      clear r1
      rcases hF with rfl | rfl
      · go_wp2_with fail
        ((with_reducible refine hc.mono ?_))
        rintro e W2 ⟨rfl, hd, ht⟩
        have HF := Lib.hid (HE.out.call hd ht)
        have c2 := HF.out.out.cell 4
        have f2 := HF.out.out.free 4
        simp only [List.getElem?_cons_zero, List.getElem?_cons_succ] at c2
        clear c1 hc hd ht HE hm
        have HE := Lib.hid (HF.out.put (by decide) 4 (.int .u64 (v1 : Int)))
        simp only [List.set_cons_zero, List.set_cons_succ] at HE
        go_wp2
        go_meet
        have hr : DSt.fields ⟨12, xa, xb, xc, xu, l, ⟨bw, su, ho, an, al, no⟩⟩ σ = (It.val ⟨12, 0, 0, 0, v1, none, 0, 0, [], Wnt.zero⟩, s1) := by
          have q1 := R1.out
          simp [DSt.fields, rqs, DSt.run, mkI, at', It.val, q1]
        rw [hr]
        exact ⟨⟨12, 0, 0, 0, v1, none, 0, 0, [], Wnt.zero⟩, HE.out, rfl, AccR.nil _ _ _, rfl⟩
      · go_wp2_with fail
        ((with_reducible refine hc.mono ?_))
        rintro e W2 ⟨rfl, hd, ht⟩
        have HF := Lib.hid (HE.out.call hd ht)
        have c2 := HF.out.out.cell 4
        have f2 := HF.out.out.free 4
        simp only [List.getElem?_cons_zero, List.getElem?_cons_succ] at c2
        clear c1 hc hd ht HE hm
        have HE := Lib.hid (HF.out.put (by decide) 4 (.int .u64 (v1 : Int)))
        simp only [List.set_cons_zero, List.set_cons_succ] at HE
        go_wp2
        go_meet
        have hr : DSt.fields ⟨12, xa, xb, xc, xu, l, ⟨bw, su, ho, an, al, no⟩⟩ σ = (It.val ⟨12, 0, 0, 0, v1, none, 0, 0, [], Wnt.zero⟩, s1) := by
          have q1 := R1.out
          simp [DSt.fields, rqs, DSt.run, mkI, at', It.val, q1]
        rw [hr]
        exact ⟨⟨12, 0, 0, 0, v1, none, 0, 0, [], Wnt.zero⟩, HE.out, rfl, AccR.nil _ _ _, rfl⟩
    by_cases e7 : cl = 10
    · subst e7
      obtain ⟨v1, s1, r1⟩ : ∃ v s, DSt.node xa σ = (v, s) := ⟨_, _, rfl⟩
      have l1 : s1.len ≤ σ.len + 16 := by have hh := DSt.len_node σ xa; rw [r1] at hh; exact hh
      have R1 := Lib.hid r1
      have c1 := HE.out.box.cell 1
      simp only [List.getElem?_cons_zero, List.getElem?_cons_succ] at c1
      have hc := node_calls HE.out.dir xa (by omega) HE.out.room
      unfold dv at hc
      rw [r1] at hc
      clear r1
      go_wp2_with fail
      ((with_reducible refine hc.mono ?_))
      rintro e W2 ⟨rfl, hd, ht⟩
      have HF := Lib.hid (HE.out.call hd ht)
      have c2 := HF.out.out.cell 1
      have f2 := HF.out.out.free 1
      simp only [List.getElem?_cons_zero, List.getElem?_cons_succ] at c2
      clear c1 hc hd ht HE
      go_upto_region 26 with fail
      have HE := Lib.hid (HF.out.put (by decide) 1 (.int .i64 (v1 : Int)))
      simp only [List.set_cons_zero, List.set_cons_succ] at HE
      clear c2 f2 HF
      revert HE
      generalize World.setCell W2 _ _ = W1
      intro HE
      obtain ⟨s2, r2⟩ : ∃ s, DSt.alw 2 0 s1 = s := ⟨_, rfl⟩
      have l2 : s2.len ≤ s1.len + 16 := by have hh := DSt.len_alw s1 2 0 (by omega); rw [r2] at hh; exact Nat.le_trans hh (by omega)
      have R2 := Lib.hid r2
      have hc := always_calls HE.out.dir 2 0 2 0 rfl rfl (by omega) (by omega) (by omega) HE.out.room
      unfold dv AlwPost at hc
      rw [r2] at hc
      clear r2
      go_wp2_with fail
      ((with_reducible refine hc.mono ?_))
      rintro e W2 ⟨rfl, hd, ht⟩
      have HF := Lib.hid (HE.out.call hd ht)
      clear  hc hd ht HE
      have HE := HF
      clear HF
      revert HE
      generalize W2 = W1
      intro HE
      obtain ⟨v3, s3, r3⟩ : ∃ v s, DSt.small xb s2 = (v, s) := ⟨_, _, rfl⟩
      have l3 : s3.len ≤ s2.len + 16 := by have hh := DSt.len_upto s2 2 65535 xb (by omega); rw [show DSt.upto 2 65535 xb s2 = _ from r3] at hh; exact Nat.le_trans hh (by omega)
      have R3 := Lib.hid r3
      have c1 := HE.out.box.cell 2
      simp only [List.getElem?_cons_zero, List.getElem?_cons_succ] at c1
      have hc := small_calls HE.out.dir xb (by omega) HE.out.room
      unfold dv at hc
      rw [r3] at hc
      clear r3
      go_wp2_with fail
      ((with_reducible refine hc.mono ?_))
      rintro e W2 ⟨rfl, hd, ht⟩
      have HF := Lib.hid (HE.out.call hd ht)
      have c2 := HF.out.out.cell 2
      have f2 := HF.out.out.free 2
      simp only [List.getElem?_cons_zero, List.getElem?_cons_succ] at c2
      clear c1 hc hd ht HE
      have HE := Lib.hid (HF.out.put (by decide) 2 (.int .i64 (v3 : Int)))
      simp only [List.set_cons_zero, List.set_cons_succ] at HE
      go_wp2
      go_meet
      have hr : DSt.fields ⟨10, xa, xb, xc, xu, l, ⟨bw, su, ho, an, al, no⟩⟩ σ = (It.val ⟨10, v1, v3, 0, 0, none, 0, 0, [], Wnt.zero⟩, s3) := by
        have q1 := R1.out
        have q2 := R2.out
        have q3 := R3.out
        simp only [DSt.node, DSt.small, DSt.upto, DSt.alw] at q1 q2 q3
        simp [DSt.fields, rqs, DSt.run, mkI, at', zR, It.val, q1, q2, q3]
      rw [hr]
      exact ⟨⟨10, v1, v3, 0, 0, none, 0, 0, [], Wnt.zero⟩, HE.out, rfl, AccR.nil _ _ _, rfl⟩
    by_cases e8 : cl = 11
    · subst e8
      obtain ⟨v1, s1, r1⟩ : ∃ v s, DSt.node xa σ = (v, s) := ⟨_, _, rfl⟩
      have l1 : s1.len ≤ σ.len + 16 := by have hh := DSt.len_node σ xa; rw [r1] at hh; exact hh
      have R1 := Lib.hid r1
      have c1 := HE.out.box.cell 1
      simp only [List.getElem?_cons_zero, List.getElem?_cons_succ] at c1
      have hc := node_calls HE.out.dir xa (by omega) HE.out.room
      unfold dv at hc
      rw [r1] at hc
      clear r1
      go_wp2_with fail
      ((with_reducible refine hc.mono ?_))
      rintro e W2 ⟨rfl, hd, ht⟩
      have HF := Lib.hid (HE.out.call hd ht)
      have c2 := HF.out.out.cell 1
      have f2 := HF.out.out.free 1
      simp only [List.getElem?_cons_zero, List.getElem?_cons_succ] at c2
      clear c1 hc hd ht HE
      go_upto_region 26 with fail
      have HE := Lib.hid (HF.out.put (by decide) 1 (.int .i64 (v1 : Int)))
      simp only [List.set_cons_zero, List.set_cons_succ] at HE
      clear c2 f2 HF
      revert HE
      generalize World.setCell W2 _ _ = W1
      intro HE
      obtain ⟨s2, r2⟩ : ∃ s, DSt.alw 2 0 s1 = s := ⟨_, rfl⟩
      have l2 : s2.len ≤ s1.len + 16 := by have hh := DSt.len_alw s1 2 0 (by omega); rw [r2] at hh; exact Nat.le_trans hh (by omega)
      have R2 := Lib.hid r2
      have hc := always_calls HE.out.dir 2 0 2 0 rfl rfl (by omega) (by omega) (by omega) HE.out.room
      unfold dv AlwPost at hc
      rw [r2] at hc
      clear r2
      go_wp2_with fail
      ((with_reducible refine hc.mono ?_))
      rintro e W2 ⟨rfl, hd, ht⟩
      have HF := Lib.hid (HE.out.call hd ht)
      clear  hc hd ht HE
      have HE := HF
      clear HF
      revert HE
      generalize W2 = W1
      intro HE
      obtain ⟨v3, s3, r3⟩ : ∃ v s, DSt.small xb s2 = (v, s) := ⟨_, _, rfl⟩
      have l3 : s3.len ≤ s2.len + 16 := by have hh := DSt.len_upto s2 2 65535 xb (by omega); rw [show DSt.upto 2 65535 xb s2 = _ from r3] at hh; exact Nat.le_trans hh (by omega)
      have R3 := Lib.hid r3
      have c1 := HE.out.box.cell 2
      simp only [List.getElem?_cons_zero, List.getElem?_cons_succ] at c1
      have hc := small_calls HE.out.dir xb (by omega) HE.out.room
      unfold dv at hc
      rw [r3] at hc
      clear r3
      go_wp2_with fail
      ((with_reducible refine hc.mono ?_))
      rintro e W2 ⟨rfl, hd, ht⟩
      have HF := Lib.hid (HE.out.call hd ht)
      have c2 := HF.out.out.cell 2
      have f2 := HF.out.out.free 2
      simp only [List.getElem?_cons_zero, List.getElem?_cons_succ] at c2
      clear c1 hc hd ht HE
      have HE := Lib.hid (HF.out.put (by decide) 2 (.int .i64 (v3 : Int)))
      simp only [List.set_cons_zero, List.set_cons_succ] at HE
      go_wp2
      go_meet
      have hr : DSt.fields ⟨11, xa, xb, xc, xu, l, ⟨bw, su, ho, an, al, no⟩⟩ σ = (It.val ⟨11, v1, v3, 0, 0, none, 0, 0, [], Wnt.zero⟩, s3) := by
        have q1 := R1.out
        have q2 := R2.out
        have q3 := R3.out
        simp only [DSt.node, DSt.small, DSt.upto, DSt.alw] at q1 q2 q3
        simp [DSt.fields, rqs, DSt.run, mkI, at', zR, It.val, q1, q2, q3]
      rw [hr]
      exact ⟨⟨11, v1, v3, 0, 0, none, 0, 0, [], Wnt.zero⟩, HE.out, rfl, AccR.nil _ _ _, rfl⟩
    by_cases e9 : cl = 16
    · subst e9
      obtain ⟨v1, s1, r1⟩ : ∃ v s, DSt.upto 4 1048575 xa σ = (v, s) := ⟨_, _, rfl⟩
      have l1 : s1.len ≤ σ.len + 16 := by have hh := DSt.len_upto σ 4 1048575 xa (by omega); rw [r1] at hh; exact Nat.le_trans hh (by omega)
      have R1 := Lib.hid r1
      have c1 := HE.out.box.cell 1
      simp only [List.getElem?_cons_zero, List.getElem?_cons_succ] at c1
      have hc := upTo_calls HE.out.dir 4 1048575 xa 4 1048575 rfl rfl (by omega) (by omega) (by omega) (by omega) HE.out.room
      unfold dv at hc
      rw [r1] at hc
      clear r1
      go_wp2_with fail
      ((with_reducible refine hc.mono ?_))
      rintro e W2 ⟨rfl, hd, ht⟩
      have HF := Lib.hid (HE.out.call hd ht)
      have c2 := HF.out.out.cell 1
      have f2 := HF.out.out.free 1
      simp only [List.getElem?_cons_zero, List.getElem?_cons_succ] at c2
      clear c1 hc hd ht HE
      have HE := Lib.hid (HF.out.put (by decide) 1 (.int .i64 (v1 : Int)))
      simp only [List.set_cons_zero, List.set_cons_succ] at HE
      go_wp2
      go_meet
      have hr : DSt.fields ⟨16, xa, xb, xc, xu, l, ⟨bw, su, ho, an, al, no⟩⟩ σ = (It.val ⟨16, v1, 0, 0, 0, none, 0, 0, [], Wnt.zero⟩, s1) := by
        have q1 := R1.out
        simp only [DSt.upto] at q1
        simp [DSt.fields, rqs, DSt.run, mkI, at', It.val, q1]
      rw [hr]
      exact ⟨⟨16, v1, 0, 0, 0, none, 0, 0, [], Wnt.zero⟩, HE.out, rfl, AccR.nil _ _ _, rfl⟩
    by_cases e10 : cl = 19
    · subst e10
      obtain ⟨s1, r1⟩ : ∃ s, DSt.alw 2 0 σ = s := ⟨_, rfl⟩
      have l1 : s1.len ≤ σ.len + 16 := by have hh := DSt.len_alw σ 2 0 (by omega); rw [r1] at hh; exact Nat.le_trans hh (by omega)
      have R1 := Lib.hid r1
      have hc := always_calls HE.out.dir 2 0 2 0 rfl rfl (by omega) (by omega) (by omega) HE.out.room
      unfold dv AlwPost at hc
      rw [r1] at hc
      clear r1
      go_wp2_with fail
      ((with_reducible refine hc.mono ?_))
      rintro e W2 ⟨rfl, hd, ht⟩
      have HF := Lib.hid (HE.out.call hd ht)
      clear  hc hd ht HE
      have HE := HF
      clear HF
      revert HE
      generalize W2 = W1
      intro HE
      obtain ⟨v2, s2, r2⟩ : ∃ v s, DSt.small xa s1 = (v, s) := ⟨_, _, rfl⟩
      have l2 : s2.len ≤ s1.len + 16 := by have hh := DSt.len_upto s1 2 65535 xa (by omega); rw [show DSt.upto 2 65535 xa s1 = _ from r2] at hh; exact Nat.le_trans hh (by omega)
      have R2 := Lib.hid r2
      have c1 := HE.out.box.cell 1
      simp only [List.getElem?_cons_zero, List.getElem?_cons_succ] at c1
      have hc := small_calls HE.out.dir xa (by omega) HE.out.room
      unfold dv at hc
      rw [r2] at hc
      clear r2
      go_wp2_with fail
      ((with_reducible refine hc.mono ?_))
      rintro e W2 ⟨rfl, hd, ht⟩
      have HF := Lib.hid (HE.out.call hd ht)
      have c2 := HF.out.out.cell 1
      have f2 := HF.out.out.free 1
      simp only [List.getElem?_cons_zero, List.getElem?_cons_succ] at c2
      clear c1 hc hd ht HE
      have HE := Lib.hid (HF.out.put (by decide) 1 (.int .i64 (v2 : Int)))
      simp only [List.set_cons_zero, List.set_cons_succ] at HE
      go_wp2
      go_meet
      have hr : DSt.fields ⟨19, xa, xb, xc, xu, l, ⟨bw, su, ho, an, al, no⟩⟩ σ = (It.val ⟨19, v2, 0, 0, 0, none, 0, 0, [], Wnt.zero⟩, s2) := by
        have q1 := R1.out
        have q2 := R2.out
        simp only [DSt.small, DSt.upto, DSt.alw] at q1 q2
        simp [DSt.fields, rqs, DSt.run, mkI, at', zR, It.val, q1, q2]
      rw [hr]
      exact ⟨⟨19, v2, 0, 0, 0, none, 0, 0, [], Wnt.zero⟩, HE.out, rfl, AccR.nil _ _ _, rfl⟩
    by_cases e11 : cl = 20
    · subst e11
      obtain ⟨xs, s1, r1⟩ : ∃ v s, DSt.hops (front (DSt.many ln σ) l) σ = (v, s) := ⟨_, _, rfl⟩
      have HXS := Lib.hid (show xs.length ≤ 16 by have hh := hops_len (front (DSt.many ln σ) l) σ; rw [r1, front_length] at hh; simp only at hh; have : DSt.many ln σ ≤ 16 := Nat.min_le_right _ _; omega)
      have R1 := Lib.hid r1
      have c1 := HE.out.box.cell 5
      simp only [List.getElem?_cons_zero, List.getElem?_cons_succ] at c1
      have hc := hops_calls HE.out.dir la ln lc l ((HR.out.below HBel.out).more HBel.out.size) hn (by omega) HE.out.room
      unfold dv at hc
      rw [r1] at hc
      clear r1
      go_wp2_with fail
      ((with_reducible refine hc.mono ?_))
      rintro e W2 ⟨g, rfl, hg, hgb, hd, ht⟩
      have HF := Lib.hid (HE.out.call hd ht)
      have c2 := HF.out.out.cell 5
      have f2 := HF.out.out.free 5
      simp only [List.getElem?_cons_zero, List.getElem?_cons_succ] at c2
      have HG := Lib.hid hgb
      have HGE := Lib.hid (Nat.le_trans HE.out.turn.size hg)
      clear hgb hg
      clear c1 hc hd ht HE
      have HE := Lib.hid (HF.out.put (by decide) 5 (.slice (some ⟨g, 0, none⟩) xs.length xs.length))
      simp only [List.set_cons_zero, List.set_cons_succ] at HE
      go_wp2
      go_meet
      have hq := run_hops (front (DSt.many ln σ) l) σ
      rw [R1.out] at hq
      have hr : DSt.fields ⟨20, xa, xb, xc, xu, l, ⟨bw, su, ho, an, al, no⟩⟩ σ = (It.val ⟨20, 0, 0, 0, 0, some ⟨g, 0, none⟩, xs.length, xs.length, xs, Wnt.zero⟩, s1) := by
        unfold DSt.fields
        simp only [rqs_list _ ⟨20, xa, xb, xc, xu, l, ⟨bw, su, ho, an, al, no⟩⟩ (.inl rfl), HX.out]
        rw [hq.2]
        simp [mkI, hq.1, It.val]
      rw [hr]
      exact ⟨⟨20, 0, 0, 0, 0, some ⟨g, 0, none⟩, xs.length, xs.length, xs, Wnt.zero⟩, HE.out, rfl, Blk.acci (HG.out.other (by have := HG.out.lt; have := HF.out.out.lt; exact fun e => typ_ne HF.out.out.typ HG.out.typ (by decide) e) _) HGE.out (by have := HXS.out; omega), rfl⟩
    by_cases e12 : cl = 21
    · subst e12
      obtain ⟨xs, s1, r1⟩ : ∃ v s, DSt.hops (front (DSt.many ln σ) l) σ = (v, s) := ⟨_, _, rfl⟩
      have HXS := Lib.hid (show xs.length ≤ 16 by have hh := hops_len (front (DSt.many ln σ) l) σ; rw [r1, front_length] at hh; simp only at hh; have : DSt.many ln σ ≤ 16 := Nat.min_le_right _ _; omega)
      have R1 := Lib.hid r1
      have c1 := HE.out.box.cell 5
      simp only [List.getElem?_cons_zero, List.getElem?_cons_succ] at c1
      have hc := hops_calls HE.out.dir la ln lc l ((HR.out.below HBel.out).more HBel.out.size) hn (by omega) HE.out.room
      unfold dv at hc
      rw [r1] at hc
      clear r1
      go_wp2_with fail
      ((with_reducible refine hc.mono ?_))
      rintro e W2 ⟨g, rfl, hg, hgb, hd, ht⟩
      have HF := Lib.hid (HE.out.call hd ht)
      have c2 := HF.out.out.cell 5
      have f2 := HF.out.out.free 5
      simp only [List.getElem?_cons_zero, List.getElem?_cons_succ] at c2
      have HG := Lib.hid hgb
      have HGE := Lib.hid (Nat.le_trans HE.out.turn.size hg)
      clear hgb hg
      clear c1 hc hd ht HE
      have HE := Lib.hid (HF.out.put (by decide) 5 (.slice (some ⟨g, 0, none⟩) xs.length xs.length))
      simp only [List.set_cons_zero, List.set_cons_succ] at HE
      go_wp2
      go_meet
      have hq := run_hops (front (DSt.many ln σ) l) σ
      rw [R1.out] at hq
      have hr : DSt.fields ⟨21, xa, xb, xc, xu, l, ⟨bw, su, ho, an, al, no⟩⟩ σ = (It.val ⟨21, 0, 0, 0, 0, some ⟨g, 0, none⟩, xs.length, xs.length, xs, Wnt.zero⟩, s1) := by
        unfold DSt.fields
        simp only [rqs_list _ ⟨21, xa, xb, xc, xu, l, ⟨bw, su, ho, an, al, no⟩⟩ (.inr rfl), HX.out]
        rw [hq.2]
        simp [mkI, hq.1, It.val]
      rw [hr]
      exact ⟨⟨21, 0, 0, 0, 0, some ⟨g, 0, none⟩, xs.length, xs.length, xs, Wnt.zero⟩, HE.out, rfl, Blk.acci (HG.out.other (by have := HG.out.lt; have := HF.out.out.lt; exact fun e => typ_ne HF.out.out.typ HG.out.typ (by decide) e) _) HGE.out (by have := HXS.out; omega), rfl⟩
    by_cases e13 : cl = 23
    · subst e13
      obtain ⟨s1, r1⟩ : ∃ s, DSt.alw 4 0 σ = s := ⟨_, rfl⟩
      have l1 : s1.len ≤ σ.len + 16 := by have hh := DSt.len_alw σ 4 0 (by omega); rw [r1] at hh; exact Nat.le_trans hh (by omega)
      have R1 := Lib.hid r1
      have hc := always_calls HE.out.dir 4 0 4 0 rfl rfl (by omega) (by omega) (by omega) HE.out.room
      unfold dv AlwPost at hc
      rw [r1] at hc
      clear r1
      go_wp2_with fail
      ((with_reducible refine hc.mono ?_))
      rintro e W2 ⟨rfl, hd, ht⟩
      have HF := Lib.hid (HE.out.call hd ht)
      clear  hc hd ht HE
      have HE := HF
      clear HF
      revert HE
      generalize W2 = W1
      intro HE
      obtain ⟨v2, s2, r2⟩ : ∃ v s, DSt.num 4 0 4294967295 xu s1 = (v, s) := ⟨_, _, rfl⟩
      obtain ⟨F, hF, hm, hc⟩ := num_any HE.out.dir 4 0 4294967295 xu 4 0 4294967295 (xu : Int) rfl rfl rfl rfl (by omega) (by omega) (by omega) HE.out.room
      unfold NumPost at hc
      have R2 := Lib.hid r2
      have c1 := HE.out.box.cell 4
      simp only [List.getElem?_cons_zero, List.getElem?_cons_succ] at c1
      rw [r2] at hc
      clear r2
      rcases hF with rfl | rfl
      · go_wp2_with fail
        ((with_reducible refine hc.mono ?_))
        rintro e W2 ⟨rfl, hd, ht⟩
        have HF := Lib.hid (HE.out.call hd ht)
        have c2 := HF.out.out.cell 4
        have f2 := HF.out.out.free 4
        simp only [List.getElem?_cons_zero, List.getElem?_cons_succ] at c2
        clear c1 hc hd ht HE hm
        have HE := Lib.hid (HF.out.put (by decide) 4 (.int .u64 (v2 : Int)))
        simp only [List.set_cons_zero, List.set_cons_succ] at HE
        go_wp2
        go_meet
        have hr : DSt.fields ⟨23, xa, xb, xc, xu, l, ⟨bw, su, ho, an, al, no⟩⟩ σ = (It.val ⟨23, 0, 0, 0, v2, none, 0, 0, [], Wnt.zero⟩, s2) := by
          have q1 := R1.out
          have q2 := R2.out
          simp only [DSt.alw] at q1
          simp [DSt.fields, rqs, DSt.run, mkI, at', zR, It.val, q1, q2]
        rw [hr]
        exact ⟨⟨23, 0, 0, 0, v2, none, 0, 0, [], Wnt.zero⟩, HE.out, rfl, AccR.nil _ _ _, rfl⟩
      · go_wp2_with fail
        ((with_reducible refine hc.mono ?_))
        rintro e W2 ⟨rfl, hd, ht⟩
        have HF := Lib.hid (HE.out.call hd ht)
        have c2 := HF.out.out.cell 4
        have f2 := HF.out.out.free 4
        simp only [List.getElem?_cons_zero, List.getElem?_cons_succ] at c2
        clear c1 hc hd ht HE hm
        have HE := Lib.hid (HF.out.put (by decide) 4 (.int .u64 (v2 : Int)))
        simp only [List.set_cons_zero, List.set_cons_succ] at HE
        go_wp2
        go_meet
        have hr : DSt.fields ⟨23, xa, xb, xc, xu, l, ⟨bw, su, ho, an, al, no⟩⟩ σ = (It.val ⟨23, 0, 0, 0, v2, none, 0, 0, [], Wnt.zero⟩, s2) := by
          have q1 := R1.out
          have q2 := R2.out
          simp only [DSt.alw] at q1
          simp [DSt.fields, rqs, DSt.run, mkI, at', zR, It.val, q1, q2]
        rw [hr]
        exact ⟨⟨23, 0, 0, 0, v2, none, 0, 0, [], Wnt.zero⟩, HE.out, rfl, AccR.nil _ _ _, rfl⟩
    by_cases e14 : cl = 207
    · subst e14
      obtain ⟨wn, s1, r1⟩ : ∃ v s, DSt.attr ⟨bw, su, ho, an, al, no⟩ σ = (v, s) := ⟨_, _, rfl⟩
      have R1 := Lib.hid r1
      have c1 := HE.out.box.cell 6
      have c2 := HE.out.box.cell 7
      have c3 := HE.out.box.cell 8
      have c4 := HE.out.box.cell 9
      have c5 := HE.out.box.cell 10
      have c6 := HE.out.box.cell 11
      simp only [List.getElem?_cons_zero, List.getElem?_cons_succ] at c1 c2 c3 c4 c5 c6
      have hc := attributes_calls HE.out.dir ⟨bw, su, ho, an, al, no⟩ h1 h2 h3 (by omega) HE.out.room
      simp only [Wnt.cells] at hc
      unfold dv at hc
      rw [r1] at hc
      clear r1
      go_wp2_with fail
      ((with_reducible refine hc.mono ?_))
      rintro e W2 ⟨rfl, hd, ht⟩
      have HF := Lib.hid (HE.out.call hd ht)
      have d1 := HF.out.out.cell 6
      have f1 := HF.out.out.free 6
      have d2 := HF.out.out.cell 7
      have f2 := HF.out.out.free 7
      have d3 := HF.out.out.cell 8
      have f3 := HF.out.out.free 8
      have d4 := HF.out.out.cell 9
      have f4 := HF.out.out.free 9
      have d5 := HF.out.out.cell 10
      have f5 := HF.out.out.free 10
      have d6 := HF.out.out.cell 11
      have f6 := HF.out.out.free 11
      simp only [List.getElem?_cons_zero, List.getElem?_cons_succ] at d1 d2 d3 d4 d5 d6
      obtain ⟨wb, ws, wh, wa, wl, wo⟩ := wn
      simp only [Wnt.cells]
      clear c1 c2 c3 c4 c5 c6 hc hd ht HE
      have HE := Lib.hid ((((((HF.out.put (by decide) 6 (.int .u64 (wb : Int))).put (by decide) 7 (.int .i64 ws)).put (by decide) 8 (.int .i64 wh)).put (by decide) 9 (.int .u32 (wa : Int))).put (by decide) 10 (.int .u32 (wl : Int))).put (by decide) 11 (.int .u32 (wo : Int)))
      simp only [List.set_cons_zero, List.set_cons_succ] at HE
      go_wp2
      go_meet
      have hr : DSt.fields ⟨207, xa, xb, xc, xu, l, ⟨bw, su, ho, an, al, no⟩⟩ σ = (It.val ⟨207, 0, 0, 0, 0, none, 0, 0, [], ⟨wb, ws, wh, wa, wl, wo⟩⟩, s1) := by
        have q1 := R1.out
        simp only [DSt.upto, DSt.alw, DSt.attr, DSt.grp, Prod.mk.injEq, Wnt.mk.injEq] at q1
        obtain ⟨⟨rfl, rfl, rfl, rfl, rfl, rfl⟩, rfl⟩ := q1
        simp [DSt.fields, rqs, DSt.run, mkI, at', zR, It.val]
      rw [hr]
      exact ⟨⟨207, 0, 0, 0, 0, none, 0, 0, [], ⟨wb, ws, wh, wa, wl, wo⟩⟩, HE.out, rfl, AccR.nil _ _ _, rfl⟩
    go_wp2
    go_meet
    have hr : DSt.fields ⟨cl, xa, xb, xc, xu, l, ⟨bw, su, ho, an, al, no⟩⟩ σ = (It.val ⟨cl, 0, 0, 0, 0, none, 0, 0, [], Wnt.zero⟩, σ) := by
      simp [DSt.fields, rqs, DSt.run, mkI, It.val, e0, e1, e2, e3, e4, e5, e6, e7, e8, e9, e10, e11, e12, e13, e14]
    rw [hr]
    exact ⟨⟨cl, 0, 0, 0, 0, none, 0, 0, [], Wnt.zero⟩, HE.out, rfl, AccR.nil _ _ _, rfl⟩
  case rest =>
    obtain ⟨y, E, hv, ha, hyn⟩ := hcut
    clear HE HBel
    have HF := Lib.hid E
    have HV := Lib.hid hv
    have HA := Lib.hid ha
    have HY := Lib.hid hyn
    clear E hv ha hyn
    obtain ⟨ycl, ya, yb, yc, yu, yla, yln, ylc, yl, ybw, ysu, yho, yan, yal, yno⟩ := y
    simp only [It.cells] at HF
    have a0 := HF.out.out.cell 0
    have b0 := HF.out.res.cell 0
    have g0 := HF.out.res.free 0
    have a1 := HF.out.out.cell 1
    have b1 := HF.out.res.cell 1
    have g1 := HF.out.res.free 1
    have a2 := HF.out.out.cell 2
    have b2 := HF.out.res.cell 2
    have g2 := HF.out.res.free 2
    have a3 := HF.out.out.cell 3
    have b3 := HF.out.res.cell 3
    have g3 := HF.out.res.free 3
    have a4 := HF.out.out.cell 4
    have b4 := HF.out.res.cell 4
    have g4 := HF.out.res.free 4
    have a5 := HF.out.out.cell 5
    have b5 := HF.out.res.cell 5
    have g5 := HF.out.res.free 5
    have a6 := HF.out.out.cell 6
    have b6 := HF.out.res.cell 6
    have g6 := HF.out.res.free 6
    have a7 := HF.out.out.cell 7
    have b7 := HF.out.res.cell 7
    have g7 := HF.out.res.free 7
    have a8 := HF.out.out.cell 8
    have b8 := HF.out.res.cell 8
    have g8 := HF.out.res.free 8
    have a9 := HF.out.out.cell 9
    have b9 := HF.out.res.cell 9
    have g9 := HF.out.res.free 9
    have a10 := HF.out.out.cell 10
    have b10 := HF.out.res.cell 10
    have g10 := HF.out.res.free 10
    have a11 := HF.out.out.cell 11
    have b11 := HF.out.res.cell 11
    have g11 := HF.out.res.free 11
    simp only [List.getElem?_cons_zero, List.getElem?_cons_succ] at a0 b0 a1 b1 a2 b2 a3 b3 a4 b4 a5 b5 a6 b6 a7 b7 a8 b8 a9 b9 a10 b10 a11 b11
    go_wp2
    clear a0 b0 a1 b1 a2 b2 a3 b3 a4 b4 a5 b5 a6 b6 a7 b7 a8 b8 a9 b9 a10 b10 a11 b11 g0 g1 g2 g3 g4 g5 g6 g7 g8 g9 g10 g11
    have HB := Lib.hid (show Blk _ (w.heap.size + 1) 65 [.int .i64 ycl, .int .i64 ya, .int .i64 yb, .int .i64 yc, .int .u64 (yu : Int), .slice yla yln ylc, .int .u64 (ybw : Int), .int .i64 ysu, .int .i64 yho, .int .u32 (yan : Int), .int .u32 (yal : Int), .int .u32 (yno : Int)] from ((((((((((((HF.out.res.set 0 (.int .i64 ycl)).set 1 (.int .i64 ya)).set 2 (.int .i64 yb)).set 3 (.int .i64 yc)).set 4 (.int .u64 (yu : Int))).set 5 (.slice yla yln ylc)).set 6 (.int .u64 (ybw : Int))).set 7 (.int .i64 ysu)).set 8 (.int .i64 yho)).set 9 (.int .u32 (yan : Int))).set 10 (.int .u32 (yal : Int))).set 11 (.int .u32 (yno : Int))))
    have HG := Lib.hid (HF.out.fin (by decide) (upd_trans (upd_trans (upd_trans (upd_trans (upd_trans (upd_trans (upd_trans (upd_trans (upd_trans (upd_trans (upd_trans (upd_set_p wc _ 0 (.int .i64 ycl)) (upd_set_p _ _ 1 (.int .i64 ya))) (upd_set_p _ _ 2 (.int .i64 yb))) (upd_set_p _ _ 3 (.int .i64 yc))) (upd_set_p _ _ 4 (.int .u64 (yu : Int)))) (upd_set_p _ _ 5 (.slice yla yln ylc))) (upd_set_p _ _ 6 (.int .u64 (ybw : Int)))) (upd_set_p _ _ 7 (.int .i64 ysu))) (upd_set_p _ _ 8 (.int .i64 yho))) (upd_set_p _ _ 9 (.int .u32 (yan : Int)))) (upd_set_p _ _ 10 (.int .u32 (yal : Int)))) (upd_set_p _ _ 11 (.int .u32 (yno : Int)))))
    have HT := Lib.hid (show ∀ k, blk yla = some k → some (w.heap.size + 1) ≠ some k from fun k hk e => by
      have h5 := HF.out.res.typ
      injection e with e
      exact typ_ne h5 (accr_typ HA.out hk) (by decide) e)
    have HAA := Lib.hid (AccR.kept HA.out (upd_trans (upd_trans (upd_trans (upd_trans (upd_trans (upd_trans (upd_trans (upd_trans (upd_trans (upd_trans (upd_trans (upd_set_p wc _ 0 (.int .i64 ycl)) (upd_set_p _ _ 1 (.int .i64 ya))) (upd_set_p _ _ 2 (.int .i64 yb))) (upd_set_p _ _ 3 (.int .i64 yc))) (upd_set_p _ _ 4 (.int .u64 (yu : Int)))) (upd_set_p _ _ 5 (.slice yla yln ylc))) (upd_set_p _ _ 6 (.int .u64 (ybw : Int)))) (upd_set_p _ _ 7 (.int .i64 ysu))) (upd_set_p _ _ 8 (.int .i64 yho))) (upd_set_p _ _ 9 (.int .u32 (yan : Int)))) (upd_set_p _ _ 10 (.int .u32 (yal : Int)))) (upd_set_p _ _ 11 (.int .u32 (yno : Int)))) HT.out)
    revert HB HG HAA
    generalize World.setCell (World.setCell (World.setCell (World.setCell (World.setCell (World.setCell (World.setCell (World.setCell (World.setCell (World.setCell (World.setCell (World.setCell wc _ _) _ _) _ _) _ _) _ _) _ _) _ _) _ _) _ _) _ _) _ _) _ _ = W3
    intro HB HG HAA
    have y0 := HB.out.cell 0
    have y1 := HB.out.cell 1
    have y2 := HB.out.cell 2
    have y3 := HB.out.cell 3
    have y4 := HB.out.cell 4
    have y5 := HB.out.cell 5
    have y6 := HB.out.cell 6
    have y7 := HB.out.cell 7
    have y8 := HB.out.cell 8
    have y9 := HB.out.cell 9
    have y10 := HB.out.cell 10
    have y11 := HB.out.cell 11
    simp only [List.getElem?_cons_zero, List.getElem?_cons_succ] at y0 y1 y2 y3 y4 y5 y6 y7 y8 y9 y10 y11
    refine bodyPost_ret (v := .agg #[.int .i64 ycl, .int .i64 ya, .int .i64 yb, .int .i64 yc, .int .u64 (yu : Int), .slice yla yln ylc, .int .u64 (ybw : Int), .int .i64 ysu, .int .i64 yho, .int .u32 (yan : Int), .int .u32 (yal : Int), .int .u32 (yno : Int)]) (by simp [results, Try.results52, go_sem, y0, y1, y2, y3, y4, y5, y6, y7, y8, y9, y10, y11]) rfl ?_
    exact ⟨⟨ycl, ya, yb, yc, yu, yla, yln, ylc, yl, ⟨ybw, ysu, yho, yan, yal, yno⟩⟩, rfl, HV.out, HAA.out, HY.out, HG.out.1, HG.out.2⟩
end
end Go.Proofs.Ythmgpffpiggomaa
