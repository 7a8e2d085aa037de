/-
  Contracts of package body's attributes. Conditions: as of number.
-/
import Derived.Test.YtocogdcecnnnnaaBodyC
import Derived.Deep.DeepCutAuto
namespace Go.Proofs.Ytocogdcecnnnnaa
open Go.RowKit

/-- A call's variables beside a direction: what came in, what is answered (not yet), what is gathered. -/
structure Env (w W : World) (B : Nat) (S : List Nat) (T : TypeId) (p : Nat) (σ : DSt) (U : TypeId) (vs rs ys : List Value) : Prop where
  dir : Dir W B S T p σ
  box : Blk W w.heap.size U vs
  res : Blk W (w.heap.size + 1) U rs
  out : Blk W (w.heap.size + 2) U ys
  turn : Turn S w W
  low : ∀ k ∈ S, k < w.heap.size
  base : B ≤ w.heap.size

section
variable {w W W' : World} {B p : Nat} {S : List Nat} {T U : TypeId} {σ σ' : DSt} {vs rs ys : List Value}
theorem Env.call (h : Env w W B S T p σ U vs rs ys) (hd : Dir W' B S T p σ') (ht : Turn S W W') : Env w W' B S T p σ' U vs rs ys := by
  have hs := h.turn.size
  have no : ∀ k, w.heap.size ≤ k → k ∉ S := fun k hk hm => by have := h.low k hm; omega
  exact ⟨hd, h.box.same (ht.block _ h.box.lt (no _ (by omega))), h.res.same (ht.block _ h.res.lt (no _ (by omega))), h.out.same (ht.block _ h.out.lt (no _ (by omega))), h.turn.trans ht, h.low, h.base⟩
theorem Env.put (h : Env w W B S T p σ U vs rs ys) (hU : U ≠ 5 ∧ U ≠ 55 ∧ U ≠ 67 ∧ U ≠ 92) (i : Nat) (v : Value) : Env w (W.setCell ⟨w.heap.size + 2, i, none⟩ v) B S T p σ U vs rs (ys.set i v) :=
  ⟨h.dir.turn1 h.out.typ hU (upd_set_p _ _ _ _), h.box.other (by simp) v, h.res.other (by simp) v, h.out.set i v,
    ⟨h.turn.os, h.turn.tape, h.turn.output, by simpa [World.setCell] using h.turn.size, fun k hk hm => (Below.heap_setCell _ _ _ _ (by simp; omega)).trans (h.turn.block k hk hm)⟩, h.low, h.base⟩
theorem Env.new (h : Dir w B S T p σ) (hB : B ≤ w.heap.size) (U : TypeId) (vs rs ys : List Value) : Env w (((w.alloc (.cells vs.toArray U)).alloc (.cells rs.toArray U)).alloc (.cells ys.toArray U)) B S T p σ U vs rs ys := by
  have b1 := bel_new (Below.refl w.heap.size w) (.cells vs.toArray U)
  have b2 := bel_new b1 (.cells rs.toArray U)
  have b3 := bel_new b2 (.cells ys.toArray U)
  have n2 := Blk.new (w.alloc (.cells vs.toArray U)) U rs
  have n3 := Blk.new ((w.alloc (.cells vs.toArray U)).alloc (.cells rs.toArray U)) U ys
  simp only [World.size_alloc] at n2 n3
  exact ⟨h.bel b3, ((Blk.new w U vs).alloc _).alloc _, n2.alloc _, n3, Turn.of_below b3, h.lt, hB⟩
theorem Env.fin (h : Env w W B S T p σ U vs rs ys) (hU : U ≠ 5 ∧ U ≠ 55 ∧ U ≠ 67 ∧ U ≠ 92) (hg : W.grownBy W' (some (w.heap.size + 1))) : Dir W' B S T p σ ∧ Turn S w W' :=
  ⟨h.dir.turn1 h.res.typ hU hg, hg.os.trans h.turn.os, hg.tape.trans h.turn.tape, hg.output.trans h.turn.output, Nat.le_trans h.turn.size hg.size, fun k hk hm => (hg.block k (Nat.lt_of_lt_of_le hk h.turn.size) (fun e => by injection e; omega)).trans (h.turn.block k hk hm)⟩
theorem Env.room (h : Env w W B S T p σ U vs rs ys) : B ≤ W.heap.size := Nat.le_trans h.base h.turn.size
end

/-- What is wanted, as plain numbers. -/
structure Wnt where
  bw : Nat
  setup : Int
  hold : Int
  any : Nat
  all : Nat
  non : Nat
def Wnt.cells (x : Wnt) : List Value := [.int .u64 (x.bw : Int), .int .i64 x.setup, .int .i64 x.hold, .int .u32 (x.any : Int), .int .u32 (x.all : Int), .int .u32 (x.non : Int)]
def Wnt.zero : Wnt := ⟨0, 0, 0, 0, 0, 0⟩
/-- What attributes answers, and what the direction holds then. -/
def DSt.attr (x : Wnt) (σ : DSt) : Wnt × DSt :=
  let n := σ.grp x.non
  let a := n.2.grp x.any
  let l := a.2.grp x.all
  let s := l.2.upto 1 7 x.setup
  let h := s.2.upto 1 7 x.hold
  (⟨0, s.1, h.1, a.1, l.1, n.1⟩, h.2.alw 2 0)

/-- What attributes answers. -/
def AttrPost (w : World) (B : Nat) (S : List Nat) (T : TypeId) (p : Nat) (r : Wnt × DSt) (e : Ending) (w' : World) : Prop :=
  e = .returned (.agg r.1.cells.toArray) ∧ Dir w' B S T p r.2 ∧ Turn S w w'

section
variable {w : World} {B p : Nat} {S : List Nat} {T : TypeId} {σ : DSt}
theorem DSt.len_grp (σ : DSt) (g : Nat) : (σ.grp g).2.len ≤ σ.len + 8 := σ.len_num _ _ _ _ (by omega)
theorem DSt.len_upto (σ : DSt) (k hi : Nat) (n : Int) (hk : k ≤ 8) : (σ.upto k hi n).2.len ≤ σ.len + 8 := σ.len_num _ _ _ _ hk

set_option maxRecDepth 100000 in
set_option maxHeartbeats 1000000 in
theorem attributes_calls (h : Dir w B S T p σ) (x : Wnt) (h1 : x.any < 4294967296) (h2 : x.all < 4294967296) (h3 : x.non < 4294967296) (hl : σ.len ≤ 1000000000) (hB : B ≤ w.heap.size) :
    Calls Try.prog 34 #[dv T p, .agg x.cells.toArray] w (AttrPost w B S T p (σ.attr x)) := by
  obtain ⟨bw, su, ho, an, al, no⟩ := x
  simp only at h1 h2 h3
  have E := Env.new h hB 26 [.int .u64 (bw : Int), .int .i64 su, .int .i64 ho, .int .u32 (an : Int), .int .u32 (al : Int), .int .u32 (no : Int)] [.int .u64 0, .int .i64 0, .int .i64 0, .int .u32 0, .int .u32 0, .int .u32 0] [.int .u64 0, .int .i64 0, .int .i64 0, .int .u32 0, .int .u32 0, .int .u32 0]
  have HE := Lib.hid E
  simp only [Wnt.cells]
  clear E h
  unfold dv
  go_enter Try.func34, Try.ntmps34
  go_upto_region 2 with fail
  revert HE
  generalize World.alloc (World.alloc (World.alloc w _) _) _ = W1
  intro HE
  obtain ⟨v1, s1, r1⟩ : ∃ v s, σ.grp no = (v, s) := ⟨_, _, rfl⟩
  have l1 : s1.len ≤ σ.len + 8 := by have hh := σ.len_grp no; rw [r1] at hh; exact hh
  have R1 := Lib.hid r1
  have c1 := HE.out.box.cell 5
  simp only [List.getElem?_cons_zero, List.getElem?_cons_succ] at c1
  have hc := groups_calls HE.out.dir no h3 (by omega) HE.out.room
  unfold dv at hc
  rw [r1] at hc
  clear r1
  go_wp2_with fail
  ((with_reducible refine hc.mono ?_))
  rintro e W2 ⟨rfl, hd, ht⟩
  have HF := Lib.hid (HE.out.call hd ht)
  have c2 := HF.out.out.cell 5
  have f2 := HF.out.out.free 5
  simp only [List.getElem?_cons_zero, List.getElem?_cons_succ] at c2
  clear c1 hc hd ht HE
  go_upto_region 3 with fail
  have HE := Lib.hid (HF.out.put (by decide) 5 (.int .u32 (v1 : Int)))
  simp only [List.set_cons_zero, List.set_cons_succ] at HE
  clear c2 f2 HF
  revert HE
  generalize World.setCell W2 _ _ = W1
  intro HE
  obtain ⟨v2, s2, r2⟩ : ∃ v s, s1.grp an = (v, s) := ⟨_, _, rfl⟩
  have l2 : s2.len ≤ s1.len + 8 := by have hh := s1.len_grp an; rw [r2] at hh; exact hh
  have R2 := Lib.hid r2
  have c1 := HE.out.box.cell 3
  simp only [List.getElem?_cons_zero, List.getElem?_cons_succ] at c1
  have hc := groups_calls HE.out.dir an h1 (by omega) HE.out.room
  unfold dv at hc
  rw [r2] at hc
  clear r2
  go_wp2_with fail
  ((with_reducible refine hc.mono ?_))
  rintro e W2 ⟨rfl, hd, ht⟩
  have HF := Lib.hid (HE.out.call hd ht)
  have c2 := HF.out.out.cell 3
  have f2 := HF.out.out.free 3
  simp only [List.getElem?_cons_zero, List.getElem?_cons_succ] at c2
  clear c1 hc hd ht HE
  go_upto_region 4 with fail
  have HE := Lib.hid (HF.out.put (by decide) 3 (.int .u32 (v2 : Int)))
  simp only [List.set_cons_zero, List.set_cons_succ] at HE
  clear c2 f2 HF
  revert HE
  generalize World.setCell W2 _ _ = W1
  intro HE
  obtain ⟨v3, s3, r3⟩ : ∃ v s, s2.grp al = (v, s) := ⟨_, _, rfl⟩
  have l3 : s3.len ≤ s2.len + 8 := by have hh := s2.len_grp al; rw [r3] at hh; exact hh
  have R3 := Lib.hid r3
  have c1 := HE.out.box.cell 4
  simp only [List.getElem?_cons_zero, List.getElem?_cons_succ] at c1
  have hc := groups_calls HE.out.dir al h2 (by omega) HE.out.room
  unfold dv at hc
  rw [r3] at hc
  clear r3
  go_wp2_with fail
  ((with_reducible refine hc.mono ?_))
  rintro e W2 ⟨rfl, hd, ht⟩
  have HF := Lib.hid (HE.out.call hd ht)
  have c2 := HF.out.out.cell 4
  have f2 := HF.out.out.free 4
  simp only [List.getElem?_cons_zero, List.getElem?_cons_succ] at c2
  clear c1 hc hd ht HE
  go_upto_region 5 with fail
  have HE := Lib.hid (HF.out.put (by decide) 4 (.int .u32 (v3 : Int)))
  simp only [List.set_cons_zero, List.set_cons_succ] at HE
  clear c2 f2 HF
  revert HE
  generalize World.setCell W2 _ _ = W1
  intro HE
  obtain ⟨v4, s4, r4⟩ : ∃ v s, s3.upto 1 7 su = (v, s) := ⟨_, _, rfl⟩
  have l4 : s4.len ≤ s3.len + 8 := by have hh := s3.len_upto 1 7 su (by omega); rw [r4] at hh; exact hh
  have R4 := Lib.hid r4
  have c1 := HE.out.box.cell 1
  simp only [List.getElem?_cons_zero, List.getElem?_cons_succ] at c1
  have hc := upTo_calls HE.out.dir 1 7 su 1 7 rfl rfl (by omega) (by omega) (by omega) (by omega) HE.out.room
  unfold dv at hc
  rw [r4] at hc
  clear r4
  go_wp2_with fail
  ((with_reducible refine hc.mono ?_))
  rintro e W2 ⟨rfl, hd, ht⟩
  have HF := Lib.hid (HE.out.call hd ht)
  have c2 := HF.out.out.cell 1
  have f2 := HF.out.out.free 1
  simp only [List.getElem?_cons_zero, List.getElem?_cons_succ] at c2
  clear c1 hc hd ht HE
  go_upto_region 6 with fail
  have HE := Lib.hid (HF.out.put (by decide) 1 (.int .i64 (v4 : Int)))
  simp only [List.set_cons_zero, List.set_cons_succ] at HE
  clear c2 f2 HF
  revert HE
  generalize World.setCell W2 _ _ = W1
  intro HE
  obtain ⟨v5, s5, r5⟩ : ∃ v s, s4.upto 1 7 ho = (v, s) := ⟨_, _, rfl⟩
  have l5 : s5.len ≤ s4.len + 8 := by have hh := s4.len_upto 1 7 ho (by omega); rw [r5] at hh; exact hh
  have R5 := Lib.hid r5
  have c1 := HE.out.box.cell 2
  simp only [List.getElem?_cons_zero, List.getElem?_cons_succ] at c1
  have hc := upTo_calls HE.out.dir 1 7 ho 1 7 rfl rfl (by omega) (by omega) (by omega) (by omega) HE.out.room
  unfold dv at hc
  rw [r5] at hc
  clear r5
  go_wp2_with fail
  ((with_reducible refine hc.mono ?_))
  rintro e W2 ⟨rfl, hd, ht⟩
  have HF := Lib.hid (HE.out.call hd ht)
  have c2 := HF.out.out.cell 2
  have f2 := HF.out.out.free 2
  simp only [List.getElem?_cons_zero, List.getElem?_cons_succ] at c2
  clear c1 hc hd ht HE
  go_upto_region 7 with fail
  have HE := Lib.hid (HF.out.put (by decide) 2 (.int .i64 (v5 : Int)))
  simp only [List.set_cons_zero, List.set_cons_succ] at HE
  clear c2 f2 HF
  revert HE
  generalize World.setCell W2 _ _ = W1
  intro HE
  have hc := always_calls HE.out.dir 2 0 2 0 rfl rfl (by omega) (by omega) (by omega) HE.out.room
  unfold dv at hc
  go_wp2_with fail
  ((with_reducible refine hc.mono ?_))
  rintro e W2 ⟨rfl, hd, ht⟩
  have HF := Lib.hid (HE.out.call hd ht)
  clear hc hd ht HE
  have a0 := HF.out.out.cell 0
  have a1 := HF.out.out.cell 1
  have a2 := HF.out.out.cell 2
  have a3 := HF.out.out.cell 3
  have a4 := HF.out.out.cell 4
  have a5 := HF.out.out.cell 5
  have b0 := HF.out.res.cell 0
  have b1 := HF.out.res.cell 1
  have b2 := HF.out.res.cell 2
  have b3 := HF.out.res.cell 3
  have b4 := HF.out.res.cell 4
  have b5 := HF.out.res.cell 5
  simp only [List.getElem?_cons_zero, List.getElem?_cons_succ] at a0 a1 a2 a3 a4 a5 b0 b1 b2 b3 b4 b5
  have g0 := HF.out.res.free 0
  have g1 := HF.out.res.free 1
  have g2 := HF.out.res.free 2
  have g3 := HF.out.res.free 3
  have g4 := HF.out.res.free 4
  have g5 := HF.out.res.free 5
  go_wp2
  clear a0 a1 a2 a3 a4 a5 b0 b1 b2 b3 b4 b5 g0 g1 g2 g3 g4 g5
  have HB := Lib.hid (show Blk _ (w.heap.size + 1) 26 [.int .u64 0, .int .i64 (v4 : Int), .int .i64 (v5 : Int), .int .u32 (v2 : Int), .int .u32 (v3 : Int), .int .u32 (v1 : Int)] from ((((((HF.out.res.set 0 (.int .u64 0)).set 1 (.int .i64 (v4 : Int))).set 2 (.int .i64 (v5 : Int))).set 3 (.int .u32 (v2 : Int))).set 4 (.int .u32 (v3 : Int))).set 5 (.int .u32 (v1 : Int))))
  have HG := Lib.hid (HF.out.fin (by decide) (upd_trans (upd_trans (upd_trans (upd_trans (upd_trans (upd_set_p W2 _ 0 (.int .u64 0)) (upd_set_p _ _ 1 (.int .i64 (v4 : Int)))) (upd_set_p _ _ 2 (.int .i64 (v5 : Int)))) (upd_set_p _ _ 3 (.int .u32 (v2 : Int)))) (upd_set_p _ _ 4 (.int .u32 (v3 : Int)))) (upd_set_p _ _ 5 (.int .u32 (v1 : Int)))))
  revert HB HG
  generalize World.setCell (World.setCell (World.setCell (World.setCell (World.setCell (World.setCell W2 _ _) _ _) _ _) _ _) _ _) _ _ = W3
  intro HB HG
  have y0 := HB.out.cell 0
  have y1 := HB.out.cell 1
  have y2 := HB.out.cell 2
  have y3 := HB.out.cell 3
  have y4 := HB.out.cell 4
  have y5 := HB.out.cell 5
  simp only [List.getElem?_cons_zero, List.getElem?_cons_succ] at y0 y1 y2 y3 y4 y5
  refine bodyPost_ret (v := .agg #[.int .u64 0, .int .i64 (v4 : Int), .int .i64 (v5 : Int), .int .u32 (v2 : Int), .int .u32 (v3 : Int), .int .u32 (v1 : Int)]) (by simp [results, Try.results34, go_sem, y0, y1, y2, y3, y4, y5]) rfl ?_
  have hr : σ.attr ⟨bw, su, ho, an, al, no⟩ = (⟨0, v4, v5, v2, v3, v1⟩, s5.alw 2 0) := by simp only [DSt.attr, R1.out, R2.out, R3.out, R4.out, R5.out]
  rw [hr]
  exact ⟨rfl, HG.out.1, HG.out.2⟩
end
end Go.Proofs.Ytocogdcecnnnnaa
