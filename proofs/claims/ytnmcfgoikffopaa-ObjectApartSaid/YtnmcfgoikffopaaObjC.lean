/-
  Contracts of object.read and object.Decode. Conditions: the reader is one that New made; the bytes that come in read as a list.
-/
import Derived.Test.YtnmcfgoikffopaaObjA
import Derived.Test.YtnmcfgoikffopaaBlk
namespace Go.Proofs.Ytnmcfgoikffopaa
open Go.RowKit

section
variable {w : World} {r g i : Nat} {l : List UInt8}
theorem uint_two (h : Rdr w r g l i 0) (hn : i + 2 ≤ l.length) :
    Calls Try.prog 29 #[.pointer (some ⟨r, 0, none⟩), .int .i64 2] w fun e w' => e = .returned (.int .u64 ((num ((l.drop i).take 2) : Nat) : Int)) ∧ Rdr w' r g l (i + 2) 0 ∧ w.grownBy w' (some r) :=
  uint_ok h 2 (by omega) (by omega) hn
theorem uint_one (h : Rdr w r g l i 0) (hn : i + 1 ≤ l.length) :
    Calls Try.prog 29 #[.pointer (some ⟨r, 0, none⟩), .int .i64 1] w fun e w' => e = .returned (.int .u64 ((num ((l.drop i).take 1) : Nat) : Int)) ∧ Rdr w' r g l (i + 1) 0 ∧ w.grownBy w' (some r) :=
  uint_ok h 1 (by omega) (by omega) hn
end

theorem uErr_stay (l : List UInt8) (p : Nat) : uErr l p 4 1 = 4 := by unfold uErr errOf; rw [if_neg (by omega)]
theorem uErr_lack (l : List UInt8) (p : Nat) (n : Int) (hw : wid n = true) (h : (l.length : Int) - (p : Int) < n) : uErr l p 0 n = 4 := by
  unfold uErr errOf; rw [if_pos rfl, hw, if_pos rfl, if_pos h]
theorem uErr_have (l : List UInt8) (p : Nat) (n : Int) (hw : wid n = true) (h : n ≤ (l.length : Int) - (p : Int)) : uErr l p 0 n = 0 := by
  unfold uErr errOf; rw [if_pos rfl, hw, if_pos rfl, if_neg (by omega)]
theorem short_err (l : List UInt8) (i : Nat) (h : l.length < i + 4) :
    uErr l (uPos l (uPos l i 0 2) (uErr l i 0 2) 1) (uErr l (uPos l i 0 2) (uErr l i 0 2) 1) 1 = 4 := by
  have w2 : wid 2 = true := by decide
  have w1 : wid 1 = true := by decide
  by_cases h2 : l.length < i + 2
  · rw [uErr_lack l i 2 w2 (by omega), uErr_stay, uErr_stay]
  · have e1 := uErr_have l i 2 w2 (by omega)
    have p1 : uPos l i 0 2 = i + 2 := by unfold uPos; rw [if_pos e1]; rfl
    rw [e1, p1]
    by_cases h3 : l.length < i + 3
    · rw [uErr_lack l (i + 2) 1 w1 (by omega), uErr_stay]
    · have e2 := uErr_have l (i + 2) 1 w1 (by omega)
      have p2 : uPos l (i + 2) 0 1 = i + 3 := by unfold uPos; rw [if_pos e2]; rfl
      rw [e2, p2, uErr_lack l (i + 3) 1 w1 (by omega)]

theorem Blk.grown {w w' : World} {q r : Nat} {T : TypeId} {vs : List Value} (h : Blk w q T vs) (hg : w.grownBy w' (some r)) (hne : q ≠ r) : Blk w' q T vs :=
  h.same (hg.block q h.lt (fun e => hne (by injection e)))
theorem Blk.set3o {w : World} {q : Nat} {T : TypeId} {u0 u1 u2 : Value} (h : Blk w q T [u0, u1, u2]) (v0 v1 v2 : Value) : Blk (((w.setCell ⟨q, 0, none⟩ v0).setCell ⟨q, 1, none⟩ v1).setCell ⟨q, 2, none⟩ v2) q T [v0, v1, v2] := ((h.set 0 v0).set 1 v1).set 2 v2
theorem block_set3 (w : World) {q k : Nat} (h : k ≠ q) (v0 v1 v2 : Value) : (((w.setCell ⟨q, 0, none⟩ v0).setCell ⟨q, 1, none⟩ v1).setCell ⟨q, 2, none⟩ v2).heap[k]? = w.heap[k]? := by
  rw [Below.heap_setCell _ _ _ _ h, Below.heap_setCell _ _ _ _ h, Below.heap_setCell _ _ _ _ h]
theorem upd_set3 {a w : World} {row : Option Nat} {q : Nat} (h : a.grownBy w row) (hq : a.heap.size ≤ q) (v0 v1 v2 : Value) : a.grownBy (((w.setCell ⟨q, 0, none⟩ v0).setCell ⟨q, 1, none⟩ v1).setCell ⟨q, 2, none⟩ v2) row :=
  ⟨h.os, h.tape, h.output, by simp [World.setCell]; exact h.size, fun k hk hne => (block_set3 w (by omega) v0 v1 v2).trans (h.block k hk hne)⟩
theorem Rdr.set3 {w : World} {r g i q : Nat} {l : List UInt8} {err : Int} (h : Rdr w r g l i err) (hr : r ≠ q) (hg : g ≠ q) (v0 v1 v2 : Value) : Rdr (((w.setCell ⟨q, 0, none⟩ v0).setCell ⟨q, 1, none⟩ v1).setCell ⟨q, 2, none⟩ v2) r g l i err :=
  h.same (block_set3 w hr v0 v1 v2) (block_set3 w hg v0 v1 v2)

/-- What 'read' answers where something is wrong. -/
def ReadNo (w : World) (r : Nat) (err : Int) (e : Ending) (w' : World) : Prop :=
  e = .returned (.tuple #[.agg #[.int .i64 0, .int .i64 0, .slice none 0 0], .int .i64 err]) ∧ w.grownBy w' (some r)
/-- What it answers where nothing is: an object whose bytes lie in new memory. -/
def ReadOk (w : World) (r g : Nat) (l : List UInt8) (i : Nat) (x y : Int) (M : Nat) (e : Ending) (w' : World) : Prop :=
  ∃ gb, e = .returned (.tuple #[.agg #[.int .i64 x, .int .i64 y, .slice (some ⟨gb, 0, none⟩) (M - 4) (M - 4)], .int .i64 0]) ∧ w.heap.size ≤ gb ∧ Own w' gb ((l.drop (i + 4)).take (M - 4)) ∧ Rdr w' r g l (i + M) 0 ∧ w.grownBy w' (some r)

section
variable {w : World} {r g i : Nat} {l : List UInt8}

set_option maxHeartbeats 400000 in
theorem read_short (h : Rdr w r g l i 0) (hs : l.length < i + 4) :
    Calls Try.prog 23 #[.pointer (some ⟨r, 0, none⟩)] w (ReadNo w r 4) := by
  have hrl := h.lt
  have b0 := bel_new (Below.refl w.heap.size w) (.cells #[.int .i64 0, .int .i64 0, .slice none 0 0] 44)
  have R0 := Lib.hid (h.bel b0)
  have Q0 := Lib.hid (Blk.new w 44 [.int .i64 0, .int .i64 0, .slice none 0 0])
  have U0 := Lib.hid (upd_below b0 (some r))
  have HE := Lib.hid (short_err l i hs)
  clear h b0
  go_enter Try.func23, Try.ntmps23
  go_wp2_with fail
  generalize (w.alloc (.cells #[.int .i64 0, .int .i64 0, .slice none 0 0] 44)) = w0 at *
  ((with_reducible refine (uint_any R0.out 2).mono ?_))
  rintro e w1 ⟨rfl, h1, u1⟩
  have R1 := Lib.hid h1
  have Q1 := Lib.hid (Q0.out.grown u1 (by omega))
  have U1 := Lib.hid (upd_trans U0.out u1)
  clear h1 u1
  generalize uVal l i 0 2 = V1
  go_wp2_with fail
  ((with_reducible refine (uint_any R1.out 1).mono ?_))
  rintro e w2 ⟨rfl, h2, u2⟩
  have R2 := Lib.hid h2
  have Q2 := Lib.hid (Q1.out.grown u2 (by omega))
  have U2 := Lib.hid (upd_trans U1.out u2)
  clear h2 u2
  generalize uVal l (uPos l i 0 2) (uErr l i 0 2) 1 = V2
  go_wp2_with fail
  ((with_reducible refine (uint_any R2.out 1).mono ?_))
  rintro e w3 ⟨rfl, h3, u3⟩
  rw [HE.out] at h3
  have R3 := Lib.hid h3
  have Q3 := Lib.hid (Q2.out.grown u3 (by omega))
  have U3 := Lib.hid (upd_trans U2.out u3)
  clear h3 u3
  generalize uVal l _ _ 1 = V3
  go_wp2_with fail
  ((with_reducible refine (err_calls R3.out).mono ?_))
  rintro e w4 ⟨rfl, rfl⟩
  go_wp2_with fail
  ((with_reducible refine (err_calls R3.out).mono ?_))
  rintro e w4 ⟨rfl, rfl⟩
  have r0 : w3.cell? ⟨w.heap.size, 0, none⟩ = some (.int .i64 0) := Q3.out.cell 0
  have r1 : w3.cell? ⟨w.heap.size, 1, none⟩ = some (.int .i64 0) := Q3.out.cell 1
  have r2 : w3.cell? ⟨w.heap.size, 2, none⟩ = some (.slice none 0 0) := Q3.out.cell 2
  have f0 := Q3.out.free 0
  have f1 := Q3.out.free 1
  have f2 := Q3.out.free 2
  go_wp2
  have hq := Q3.out.set3o (.int .i64 0) (.int .i64 0) (.slice none 0 0)
  have y0 := hq.cell 0
  have y1 := hq.cell 1
  have y2 := hq.cell 2
  simp only [List.getElem?_cons_zero, List.getElem?_cons_succ] at y0 y1 y2
  refine bodyPost_ret (v := .tuple #[.agg #[.int .i64 0, .int .i64 0, .slice none 0 0], .int .i64 4]) (by simp [results, Try.results23, go_sem, y0, y1, y2]) rfl ?_
  exact ⟨rfl, upd_set3 U3.out (Nat.le_refl _) _ _ _⟩

set_option maxHeartbeats 400000 in
theorem read_form (h : Rdr w r g l i 0) (hs : i + 4 ≤ l.length) (hf : oNum (l.drop i) < 4 ∨ oNum (l.drop i) % 4 ≠ 0) :
    Calls Try.prog 23 #[.pointer (some ⟨r, 0, none⟩)] w (ReadNo w r 5) := by
  have hrl := h.lt
  have b0 := bel_new (Below.refl w.heap.size w) (.cells #[.int .i64 0, .int .i64 0, .slice none 0 0] 44)
  have R0 := Lib.hid (h.bel b0)
  have Q0 := Lib.hid (Blk.new w 44 [.int .i64 0, .int .i64 0, .slice none 0 0])
  have U0 := Lib.hid (upd_below b0 (some r))
  have HN := Lib.hid (show num ((l.drop i).take 2) = oNum (l.drop i) from rfl)
  have hN := oNum_lt (l.drop i)
  generalize oNum (l.drop i) = N at *
  clear h b0
  go_enter Try.func23, Try.ntmps23
  go_wp2_with fail
  generalize (w.alloc (.cells #[.int .i64 0, .int .i64 0, .slice none 0 0] 44)) = w0 at *
  ((with_reducible refine (uint_two R0.out (by omega)).mono ?_))
  rintro e w1 ⟨rfl, h1, u1⟩
  rw [HN.out]
  have R1 := Lib.hid h1
  have Q1 := Lib.hid (Q0.out.grown u1 (by omega))
  have U1 := Lib.hid (upd_trans U0.out u1)
  clear h1 u1
  go_wp2_with fail
  ((with_reducible refine (uint_one R1.out (by omega)).mono ?_))
  rintro e w2 ⟨rfl, h2, u2⟩
  have R2 := Lib.hid h2
  have Q2 := Lib.hid (Q1.out.grown u2 (by omega))
  have U2 := Lib.hid (upd_trans U1.out u2)
  clear h2 u2
  generalize num ((l.drop (i + 2)).take 1) = V2
  go_wp2_with fail
  ((with_reducible refine (uint_one R2.out (by omega)).mono ?_))
  rintro e w3 ⟨rfl, h3, u3⟩
  have R3 := Lib.hid h3
  have Q3 := Lib.hid (Q2.out.grown u3 (by omega))
  have U3 := Lib.hid (upd_trans U2.out u3)
  clear h3 u3
  generalize num ((l.drop (i + 2 + 1)).take 1) = V3
  go_wp2_with fail
  ((with_reducible refine (err_calls R3.out).mono ?_))
  rintro e w4 ⟨rfl, rfl⟩
  have r0 : w3.cell? ⟨w.heap.size, 0, none⟩ = some (.int .i64 0) := Q3.out.cell 0
  have r1 : w3.cell? ⟨w.heap.size, 1, none⟩ = some (.int .i64 0) := Q3.out.cell 1
  have r2 : w3.cell? ⟨w.heap.size, 2, none⟩ = some (.slice none 0 0) := Q3.out.cell 2
  have f0 := Q3.out.free 0
  have f1 := Q3.out.free 1
  have f2 := Q3.out.free 2
  have hq := Q3.out.set3o (.int .i64 0) (.int .i64 0) (.slice none 0 0)
  have y0 := hq.cell 0
  have y1 := hq.cell 1
  have y2 := hq.cell 2
  simp only [List.getElem?_cons_zero, List.getElem?_cons_succ] at y0 y1 y2
  have Y0 := Lib.hid y0
  have Y1 := Lib.hid y1
  have Y2 := Lib.hid y2
  clear y0 y1 y2 hq
  by_cases h4 : N < 4
  · clear hf
    go_wp2
    have y0 := Y0.out
    have y1 := Y1.out
    have y2 := Y2.out
    refine bodyPost_ret (v := .tuple #[.agg #[.int .i64 0, .int .i64 0, .slice none 0 0], .int .i64 5]) (by simp [results, Try.results23, go_sem, y0, y1, y2]) rfl ?_
    exact ⟨rfl, upd_set3 U3.out (Nat.le_refl _) _ _ _⟩
  · have q1 : ((N : Int) % 4 != 0) = true := by rw [bne_iff_ne]; omega
    clear hf
    go_wp2
    have y0 := Y0.out
    have y1 := Y1.out
    have y2 := Y2.out
    refine bodyPost_ret (v := .tuple #[.agg #[.int .i64 0, .int .i64 0, .slice none 0 0], .int .i64 5]) (by simp [results, Try.results23, go_sem, y0, y1, y2]) rfl ?_
    exact ⟨rfl, upd_set3 U3.out (Nat.le_refl _) _ _ _⟩

set_option maxHeartbeats 800000 in
theorem read_end (h : Rdr w r g l i 0) (hs : i + 4 ≤ l.length) (h4 : 4 ≤ oNum (l.drop i)) (hm : oNum (l.drop i) % 4 = 0) (he : l.length < i + oNum (l.drop i)) :
    Calls Try.prog 23 #[.pointer (some ⟨r, 0, none⟩)] w (ReadNo w r 4) := by
  have hrl := h.lt
  have b0 := bel_new (Below.refl w.heap.size w) (.cells #[.int .i64 0, .int .i64 0, .slice none 0 0] 44)
  have R0 := Lib.hid (h.bel b0)
  have Q0 := Lib.hid (Blk.new w 44 [.int .i64 0, .int .i64 0, .slice none 0 0])
  have U0 := Lib.hid (upd_below b0 (some r))
  have HN := Lib.hid (show num ((l.drop i).take 2) = oNum (l.drop i) from rfl)
  have hN := oNum_lt (l.drop i)
  generalize oNum (l.drop i) = N at *
  have q1 : ((N : Int) % 4 != 0) = false := by rw [bne_eq_false_iff_eq]; omega
  have HX := Lib.hid (show errOf 0 (decide (0 ≤ (N : Int) - 4)) ((N : Int) - 4) ((l.length : Int) - ((i + 2 + 1 + 1 : Nat) : Int)) = 4 by
    unfold errOf; rw [if_pos rfl, if_pos (decide_eq_true (by omega)), if_pos (by omega)])
  clear h b0
  go_enter Try.func23, Try.ntmps23
  go_wp2_with fail
  generalize (w.alloc (.cells #[.int .i64 0, .int .i64 0, .slice none 0 0] 44)) = w0 at *
  ((with_reducible refine (uint_two R0.out (by omega)).mono ?_))
  rintro e w1 ⟨rfl, h1, u1⟩
  rw [HN.out]
  have R1 := Lib.hid h1
  have Q1 := Lib.hid (Q0.out.grown u1 (by omega))
  have U1 := Lib.hid (upd_trans U0.out u1)
  clear h1 u1
  go_wp2_with fail
  ((with_reducible refine (uint_one R1.out (by omega)).mono ?_))
  rintro e w2 ⟨rfl, h2, u2⟩
  have R2 := Lib.hid h2
  have Q2 := Lib.hid (Q1.out.grown u2 (by omega))
  have U2 := Lib.hid (upd_trans U1.out u2)
  clear h2 u2
  generalize num ((l.drop (i + 2)).take 1) = V2
  go_wp2_with fail
  ((with_reducible refine (uint_one R2.out (by omega)).mono ?_))
  rintro e w3 ⟨rfl, h3, u3⟩
  have R3 := Lib.hid h3
  have Q3 := Lib.hid (Q2.out.grown u3 (by omega))
  have U3 := Lib.hid (upd_trans U2.out u3)
  clear h3 u3
  generalize num ((l.drop (i + 2 + 1)).take 1) = V3
  go_wp2_with fail
  ((with_reducible refine (err_calls R3.out).mono ?_))
  rintro e w4 ⟨rfl, rfl⟩
  have HB := Lib.hid (bytes_no R3.out ((N : Int) - 4) (by rw [HX.out]; omega))
  go_wp2_with fail
  ((with_reducible refine HB.out.mono ?_))
  rintro e w4 ⟨rfl, h4', u4⟩
  rw [HX.out] at h4'
  have R4 := Lib.hid h4'
  have Q4 := Lib.hid (Q3.out.grown u4 (by omega))
  have U4 := Lib.hid (upd_trans U3.out u4)
  clear h4' u4 HB
  go_wp2_with fail
  ((with_reducible refine (err_calls R4.out).mono ?_))
  rintro e w5 ⟨rfl, rfl⟩
  go_wp2_with fail
  ((with_reducible refine (err_calls R4.out).mono ?_))
  rintro e w5 ⟨rfl, rfl⟩
  have r0 : w4.cell? ⟨w.heap.size, 0, none⟩ = some (.int .i64 0) := Q4.out.cell 0
  have r1 : w4.cell? ⟨w.heap.size, 1, none⟩ = some (.int .i64 0) := Q4.out.cell 1
  have r2 : w4.cell? ⟨w.heap.size, 2, none⟩ = some (.slice none 0 0) := Q4.out.cell 2
  have f0 := Q4.out.free 0
  have f1 := Q4.out.free 1
  have f2 := Q4.out.free 2
  go_wp2
  have hq := Q4.out.set3o (.int .i64 0) (.int .i64 0) (.slice none 0 0)
  have y0 := hq.cell 0
  have y1 := hq.cell 1
  have y2 := hq.cell 2
  simp only [List.getElem?_cons_zero, List.getElem?_cons_succ] at y0 y1 y2
  refine bodyPost_ret (v := .tuple #[.agg #[.int .i64 0, .int .i64 0, .slice none 0 0], .int .i64 4]) (by simp [results, Try.results23, go_sem, y0, y1, y2]) rfl ?_
  exact ⟨rfl, upd_set3 U4.out (Nat.le_refl _) _ _ _⟩

set_option maxHeartbeats 800000 in
theorem read_ok (h : Rdr w r g l i 0) (hs : i + 4 ≤ l.length) (M : Nat) (hN : oNum (l.drop i) = M) (h4 : 4 ≤ M) (hm : M % 4 = 0) (he : i + M ≤ l.length) :
    Calls Try.prog 23 #[.pointer (some ⟨r, 0, none⟩)] w (ReadOk w r g l i ((num ((l.drop (i + 2)).take 1) : Nat) : Int) ((num ((l.drop (i + 3)).take 1) : Nat) : Int) M) := by
  have hrl := h.lt
  have hgl := h.2.1.lt
  have b0 := bel_new (Below.refl w.heap.size w) (.cells #[.int .i64 0, .int .i64 0, .slice none 0 0] 44)
  have R0 := Lib.hid (h.bel b0)
  have Q0 := Lib.hid (Blk.new w 44 [.int .i64 0, .int .i64 0, .slice none 0 0])
  have U0 := Lib.hid (upd_below b0 (some r))
  have hNl := oNum_lt (l.drop i)
  have HN := Lib.hid (show num ((l.drop i).take 2) = M from hN)
  have hN2 : M < 65536 := by omega
  have q1 : ((M : Int) % 4 != 0) = false := by rw [bne_eq_false_iff_eq]; omega
  have hV2 := num_lt ((l.drop (i + 2)).take 1)
  have hV3 := num_lt ((l.drop (i + 2 + 1)).take 1)
  have p2 : 256 ^ ((l.drop (i + 2)).take 1).length ≤ 256 ^ 1 := Nat.pow_le_pow_right (by omega) (by simp; omega)
  have p3 : 256 ^ ((l.drop (i + 2 + 1)).take 1).length ≤ 256 ^ 1 := Nat.pow_le_pow_right (by omega) (by simp; omega)
  have hv2 : num ((l.drop (i + 2)).take 1) < 256 := by omega
  have hv3 : num ((l.drop (i + 2 + 1)).take 1) < 256 := by omega
  clear h b0 hN hNl hV2 hV3 p2 p3
  go_enter Try.func23, Try.ntmps23
  go_wp2_with fail
  have Z0 := Lib.hid (show w.heap.size < (w.alloc (.cells #[.int .i64 0, .int .i64 0, .slice none 0 0] 44)).heap.size by simp)
  generalize (w.alloc (.cells #[.int .i64 0, .int .i64 0, .slice none 0 0] 44)) = w0 at *
  ((with_reducible refine (uint_two R0.out (by omega)).mono ?_))
  rintro e w1 ⟨rfl, h1, u1⟩
  rw [HN.out]
  have R1 := Lib.hid h1
  have Q1 := Lib.hid (Q0.out.grown u1 (by omega))
  have U1 := Lib.hid (upd_trans U0.out u1)
  have Z1 := Lib.hid (Nat.lt_of_lt_of_le Z0.out u1.size)
  clear h1 u1
  go_wp2_with fail
  ((with_reducible refine (uint_one R1.out (by omega)).mono ?_))
  rintro e w2 ⟨rfl, h2, u2⟩
  have R2 := Lib.hid h2
  have Q2 := Lib.hid (Q1.out.grown u2 (by omega))
  have U2 := Lib.hid (upd_trans U1.out u2)
  have Z2 := Lib.hid (Nat.lt_of_lt_of_le Z1.out u2.size)
  clear h2 u2
  have e3 : i + 3 = i + 2 + 1 := rfl
  rw [e3]
  clear e3
  generalize num ((l.drop (i + 2)).take 1) = V2 at *
  go_wp2_with fail
  ((with_reducible refine (uint_one R2.out (by omega)).mono ?_))
  rintro e w3 ⟨rfl, h3, u3⟩
  have R3 := Lib.hid h3
  have Q3 := Lib.hid (Q2.out.grown u3 (by omega))
  have U3 := Lib.hid (upd_trans U2.out u3)
  have Z3 := Lib.hid (Nat.lt_of_lt_of_le Z2.out u3.size)
  clear h3 u3
  generalize num ((l.drop (i + 2 + 1)).take 1) = V3 at *
  go_wp2_with fail
  ((with_reducible refine (err_calls R3.out).mono ?_))
  rintro e w4 ⟨rfl, rfl⟩
  have HB := Lib.hid (bytes_i R3.out ((M : Int) - 4) (by omega) (by omega))
  go_wp2_with fail
  ((with_reducible refine HB.out.mono ?_))
  rintro e w4 ⟨gb, rfl, hgb, o4, h4', u4⟩
  have hMN : ((M : Int) - 4).toNat = M - 4 := by omega
  rw [hMN] at o4 h4' ⊢
  have ZL := Lib.hid (Nat.lt_of_lt_of_le Z3.out hgb)
  have ei : i + 2 + 1 + 1 = i + 4 := rfl
  rw [ei] at o4 h4'
  have e5 : i + 4 + (M - 4) = i + M := by omega
  rw [e5] at h4'
  have R4 := Lib.hid h4'
  have O4 := Lib.hid o4
  have Q4 := Lib.hid (Q3.out.grown u4 (by omega))
  have U4 := Lib.hid (upd_trans U3.out u4)
  clear h4' u4 HB o4 hMN ei e5 hgb
  go_wp2_with fail
  ((with_reducible refine (err_calls R4.out).mono ?_))
  rintro e w5 ⟨rfl, rfl⟩
  have r0 : w4.cell? ⟨w.heap.size, 0, none⟩ = some (.int .i64 0) := Q4.out.cell 0
  have r1 : w4.cell? ⟨w.heap.size, 1, none⟩ = some (.int .i64 0) := Q4.out.cell 1
  have r2 : w4.cell? ⟨w.heap.size, 2, none⟩ = some (.slice none 0 0) := Q4.out.cell 2
  have f0 := Q4.out.free 0
  have f1 := Q4.out.free 1
  have f2 := Q4.out.free 2
  go_wp2
  have hq := Q4.out.set3o (.int .i64 (V2 : Int)) (.int .i64 (V3 : Int)) (.slice (some ⟨gb, 0, none⟩) (M - 4) (M - 4))
  have y0 := hq.cell 0
  have y1 := hq.cell 1
  have y2 := hq.cell 2
  simp only [List.getElem?_cons_zero, List.getElem?_cons_succ] at y0 y1 y2
  refine bodyPost_ret (v := .tuple #[.agg #[.int .i64 (V2 : Int), .int .i64 (V3 : Int), .slice (some ⟨gb, 0, none⟩) (M - 4) (M - 4)], .int .i64 0]) (by simp [results, Try.results23, go_sem, y0, y1, y2]) rfl ?_
  have hzl := ZL.out
  exact ⟨gb, rfl, by omega, O4.out.same (block_set3 w4 (by omega) _ _ _), R4.out.set3 (by omega) (by omega) _ _ _, upd_set3 U4.out (Nat.le_refl _) _ _ _⟩
end
end Go.Proofs.Ytnmcfgoikffopaa
