/-
  The document's Same, All (viaductref18) where they are so; the laws' Ours, Theirs, List, within, one. Condition: what comes in reads as a list; at most 2^20 states.
-/
import Derived.Test.YtogijfebfffobaaSofH
import Derived.Test.YtogijfebfffobaaSofS
import Derived.Deep.CutBlock
namespace Go.Proofs.Ytogijfebfffobaa
set_option maxRecDepth 100000
set_option linter.unusedVariables false
open Go.RowKit

/-- A whole struct out of the midst of a row, read in a region whose order is drawn. -/
theorem seq_loadAt18 {P : Program} {ops : Array Oper} {Q : Exit → Act → World → Prop} {S : World → Prop} {i : Nat} {r : List (Nat × Bool)} {a : Act} {w : World} {o : Oper} {x : Operand} {ty : TypeId} {g k : Nat} {vs : List Value} {d : TypeDesc}
    (ho : ops.toList[i]? = some o) (hw : Region.wanted o (yielded ops a.tmps) = true) (hop : o.op = .load ty x) (hx : a.eval x = .pointer (some ⟨g, k, none⟩)) (hb : ∀ W, S W → W.rangeAt g k vs) (hu : P.underlying ty = some d) (hd : d.isRow = true) (hi : (P.info? ty).map (·.size) = some vs.length)
    (h : wpSeq P ops Q S r (a.put o.dst (.agg vs.toArray)) w) : wpSeq P ops Q S ((i, true) :: r) a w :=
  ⟨o, _, by rw [← Array.getElem?_toList]; exact ho, yieldsIf_load_mid hw ty x hop g k hx vs d hb hu hd hi, h⟩
theorem eq_selfW18 (y : Wn) (w : World) : (binOp .eql 34 (.agg #[.int .u64 (y.bw : Int), .int .i64 y.su, .int .i64 y.ho, .int .u32 (y.an : Int), .int .u32 (y.al : Int), .int .u32 (y.no : Int)]) (.agg #[.int .u64 (y.bw : Int), .int .i64 y.su, .int .i64 y.ho, .int .u32 (y.an : Int), .int .u32 (y.al : Int), .int .u32 (y.no : Int)])).run Try.prog w = .ok (.bool true) w :=
  (eql_E (xs := wnc y) (ys := wnc y) (la := wnc y) (lb := wnc y) (m := 5) (D := 5) (by decide) (by kernel_rfl) (by rfl) (by rfl) (by rfl) (by rfl) w true (by simp)).1
theorem eq_zeroW18 (w : World) : (binOp .eql 34 (.agg #[.int .u64 0, .int .i64 0, .int .i64 0, .int .u32 0, .int .u32 0, .int .u32 0]) (.agg #[.int .u64 0, .int .i64 0, .int .i64 0, .int .u32 0, .int .u32 0, .int .u32 0])).run Try.prog w = .ok (.bool true) w := eq_selfW18 ⟨0, 0, 0, 0, 0, 0⟩ w
set_option maxHeartbeats 3200000 in
theorem rsameL18_calls (a a2 : Option Addr) (n c c2 : Nat) (l : List Int) (w : World) (h : Row ei w w.heap.size a n l) (h2 : Row ei w w.heap.size a2 n l) (hn : n ≤ maxLen) :
    Calls Try.prog 36 #[.agg #[.int .i64 0, .int .i64 0, .int .i64 0, .int .i64 0, .int .u64 0, .slice a n c, .int .u64 0, .int .i64 0, .int .i64 0, .int .u32 0, .int .u32 0, .int .u32 0], .agg #[.int .i64 0, .int .i64 0, .int .i64 0, .int .i64 0, .int .u64 0, .slice a2 n c2, .int .u64 0, .int .i64 0, .int .i64 0, .int .u32 0, .int .u32 0, .int .u32 0]] w (Yes14 true w) := by
  unfold maxLen at hn
  unfold Yes14
  have bz := bel_new (bel_new (Below.refl w.heap.size w) (.cells #[.int .i64 0, .int .i64 0, .int .i64 0, .int .i64 0, .int .u64 0, .slice a n c, .int .u64 0, .int .i64 0, .int .i64 0, .int .u32 0, .int .u32 0, .int .u32 0] 80)) (.cells #[.int .i64 0, .int .i64 0, .int .i64 0, .int .i64 0, .int .u64 0, .slice a2 n c2, .int .u64 0, .int .i64 0, .int .i64 0, .int .u32 0, .int .u32 0, .int .u32 0] 80)
  have b1 : Blk ((w.alloc (.cells #[.int .i64 0, .int .i64 0, .int .i64 0, .int .i64 0, .int .u64 0, .slice a n c, .int .u64 0, .int .i64 0, .int .i64 0, .int .u32 0, .int .u32 0, .int .u32 0] 80)).alloc (.cells #[.int .i64 0, .int .i64 0, .int .i64 0, .int .i64 0, .int .u64 0, .slice a2 n c2, .int .u64 0, .int .i64 0, .int .i64 0, .int .u32 0, .int .u32 0, .int .u32 0] 80)) w.heap.size 80 [.int .i64 0, .int .i64 0, .int .i64 0, .int .i64 0, .int .u64 0, .slice a n c, .int .u64 0, .int .i64 0, .int .i64 0, .int .u32 0, .int .u32 0, .int .u32 0] := (Blk.new w 80 [.int .i64 0, .int .i64 0, .int .i64 0, .int .i64 0, .int .u64 0, .slice a n c, .int .u64 0, .int .i64 0, .int .i64 0, .int .u32 0, .int .u32 0, .int .u32 0]).alloc _
  have b2 : Blk ((w.alloc (.cells #[.int .i64 0, .int .i64 0, .int .i64 0, .int .i64 0, .int .u64 0, .slice a n c, .int .u64 0, .int .i64 0, .int .i64 0, .int .u32 0, .int .u32 0, .int .u32 0] 80)).alloc (.cells #[.int .i64 0, .int .i64 0, .int .i64 0, .int .i64 0, .int .u64 0, .slice a2 n c2, .int .u64 0, .int .i64 0, .int .i64 0, .int .u32 0, .int .u32 0, .int .u32 0] 80)) (w.alloc (.cells #[.int .i64 0, .int .i64 0, .int .i64 0, .int .i64 0, .int .u64 0, .slice a n c, .int .u64 0, .int .i64 0, .int .i64 0, .int .u32 0, .int .u32 0, .int .u32 0] 80)).heap.size 80 [.int .i64 0, .int .i64 0, .int .i64 0, .int .i64 0, .int .u64 0, .slice a2 n c2, .int .u64 0, .int .i64 0, .int .i64 0, .int .u32 0, .int .u32 0, .int .u32 0] := Blk.new (w.alloc (.cells #[.int .i64 0, .int .i64 0, .int .i64 0, .int .i64 0, .int .u64 0, .slice a n c, .int .u64 0, .int .i64 0, .int .i64 0, .int .u32 0, .int .u32 0, .int .u32 0] 80)) 80 [.int .i64 0, .int .i64 0, .int .i64 0, .int .i64 0, .int .u64 0, .slice a2 n c2, .int .u64 0, .int .i64 0, .int .i64 0, .int .u32 0, .int .u32 0, .int .u32 0]
  rw [show (w.alloc (.cells #[.int .i64 0, .int .i64 0, .int .i64 0, .int .i64 0, .int .u64 0, .slice a n c, .int .u64 0, .int .i64 0, .int .i64 0, .int .u32 0, .int .u32 0, .int .u32 0] 80)).heap.size = w.heap.size + 1 by simp] at b2
  have HL := Lib.hid bz
  have HB := Lib.hid (And.intro b1 b2)
  have HR := Lib.hid ((h.below bz).more bz.size)
  have HR2 := Lib.hid ((h2.below bz).more bz.size)
  have HNN := Lib.hid hn
  have hew := fun W => eq_zeroW18 W
  have hz : ((0 : Int) == 0) = true := by simp
  have hnn : ((n : Int) != (n : Int)) = false := by simp
  clear bz b1 b2 h h2
  go_enter Try.func36, Try.ntmps36
  go_upto_region 1 with fail
  generalize ((w.alloc (.cells #[.int .i64 0, .int .i64 0, .int .i64 0, .int .i64 0, .int .u64 0, .slice a n c, .int .u64 0, .int .i64 0, .int .i64 0, .int .u32 0, .int .u32 0, .int .u32 0] 80)).alloc (.cells #[.int .i64 0, .int .i64 0, .int .i64 0, .int .i64 0, .int .u64 0, .slice a2 n c2, .int .u64 0, .int .i64 0, .int .i64 0, .int .u32 0, .int .u32 0, .int .u32 0] 80)) = w1 at *
  have x5 : w1.cell? ⟨w.heap.size, 5, none⟩ = some (.slice a n c) := HB.out.1.cell 5
  have y5 : w1.cell? ⟨w.heap.size + 1, 5, none⟩ = some (.slice a2 n c2) := HB.out.2.cell 5
  go_wp2_with fail
  clear x5 y5
  go_loopw [5] (fun u W => ∃ i : Nat, i ≤ n ∧ u = .int .i64 (i : Int) ∧ Hid (Below w1.heap.size w1 W)) (fun u W => n - (intOf u).toNat)
  case atStart => exact ⟨0, Nat.zero_le _, rfl, Lib.hid (Below.refl _ _)⟩
  case round =>
    obtain ⟨i, hi, rfl, HBL⟩ := hrel
    have HBB := Lib.hid (fun W (hW : Below wr.heap.size wr W) => And.intro (HB.out.1.below (HBL.out.trans (hW.mono HBL.out.size))) (HB.out.2.below (HBL.out.trans (hW.mono HBL.out.size))))
    have x5 : wr.cell? ⟨w.heap.size, 5, none⟩ = some (.slice a n c) := (HBB.out wr (Below.refl _ _)).1.cell 5
    by_cases hin : i < n
    · have i1 : (i : Int) < (n : Int) := by omega
      obtain ⟨b, o, y, rfl, hy, hb, hc⟩ := row_at18 HR.out hin
      obtain ⟨b2, o2, y2, rfl, hy2, hb2, hc2⟩ := row_at18 HR2.out hin
      obtain rfl : y2 = y := by rw [hy] at hy2; injection hy2 with e; exact e.symm
      have HZ := Lib.hid (fun W (hW : Below wr.heap.size wr W) => And.intro (hc W (HBL.out.trans (hW.mono HBL.out.size))) (hc2 W (HBL.out.trans (hW.mono HBL.out.size))))
      have HI := Lib.hid hin
      have i0 : ¬ (i : Int) < 0 := by omega
      have i3 : IntKind.i64.wrap ((i : Int) + 1) = ((i + 1 : Nat) : Int) := by rw [IntWalk.i64_in _ (by have := HNN.out; have := HI.out; omega)]; omega
      have hyy : ((y2 : Int) != y2) = false := by simp
      have HS0 := Lib.hid (show Below wr.heap.size wr wr.drew from (Below.refl _ _).drew)
      clear hy hy2 hb hb2 hc hc2 hin hi
      go_wp2_with fail
      clear x5
      refine region_seq (fun W => Below wr.heap.size wr W) [(0, true), (1, true), (2, true), (3, true), (4, true), (5, true), (6, true), (7, true), (8, true), (9, true), (10, true)] (by kernel_rfl) (by kernel_rfl) (by kernel_rfl) (by kernel_rfl) (fun _ _ _ _ _ h => h) HS0.out ?_
      repeat first
        | refine seq_pure (v := ?_) rfl (by rfl) (fun W hW => ?_) ?_
          rotate_left
          · obtain ⟨h1, h2⟩ := HBB.out W hW
            obtain ⟨z1, z2⟩ := HZ.out W hW
            have x5 : W.cell? ⟨w.heap.size, 5, none⟩ = some (.slice (some ⟨b, o, none⟩) n c) := h1.cell 5
            have y5 : W.cell? ⟨w.heap.size + 1, 5, none⟩ = some (.slice (some ⟨b2, o2, none⟩) n c2) := h2.cell 5
            clear h1 h2
            clear hW
            go_simp
            with_reducible rfl
          simp only [Act.put, List.setIfInBounds_toArray, List.set_cons_zero, List.set_cons_succ]
        | refine seq_skip rfl (by rfl) ?_
          simp only [Act.put, List.setIfInBounds_toArray, List.set_cons_zero, List.set_cons_succ]
      refine seq_done ?_
      go_wp2_with fail
      go_roundw
      case rel => exact ⟨i + 1, HI.out, by first | rfl | (simp; omega), Lib.hid (HBL.out.drew)⟩
      case measure => have := HI.out; simp [intOf]; omega
    · have i1 : ¬ (i : Int) < (n : Int) := by omega
      obtain ⟨h1, h2⟩ := HBB.out wr (Below.refl _ _)
      have a0 : wr.cell? ⟨w.heap.size, 0, none⟩ = some (.int .i64 0) := h1.cell 0
      have b0 : wr.cell? ⟨w.heap.size + 1, 0, none⟩ = some (.int .i64 0) := h2.cell 0
      have a1 : wr.cell? ⟨w.heap.size, 1, none⟩ = some (.int .i64 0) := h1.cell 1
      have b1 : wr.cell? ⟨w.heap.size + 1, 1, none⟩ = some (.int .i64 0) := h2.cell 1
      have a2 : wr.cell? ⟨w.heap.size, 2, none⟩ = some (.int .i64 0) := h1.cell 2
      have b2 : wr.cell? ⟨w.heap.size + 1, 2, none⟩ = some (.int .i64 0) := h2.cell 2
      have a3 : wr.cell? ⟨w.heap.size, 3, none⟩ = some (.int .i64 0) := h1.cell 3
      have b3 : wr.cell? ⟨w.heap.size + 1, 3, none⟩ = some (.int .i64 0) := h2.cell 3
      have a4 : wr.cell? ⟨w.heap.size, 4, none⟩ = some (.int .u64 0) := h1.cell 4
      have b4 : wr.cell? ⟨w.heap.size + 1, 4, none⟩ = some (.int .u64 0) := h2.cell 4
      have a6 : wr.cell? ⟨w.heap.size, 6, none⟩ = some (.int .u64 0) := h1.cell 6
      have b6 : wr.cell? ⟨w.heap.size + 1, 6, none⟩ = some (.int .u64 0) := h2.cell 6
      have a7 : wr.cell? ⟨w.heap.size, 7, none⟩ = some (.int .i64 0) := h1.cell 7
      have b7 : wr.cell? ⟨w.heap.size + 1, 7, none⟩ = some (.int .i64 0) := h2.cell 7
      have a8 : wr.cell? ⟨w.heap.size, 8, none⟩ = some (.int .i64 0) := h1.cell 8
      have b8 : wr.cell? ⟨w.heap.size + 1, 8, none⟩ = some (.int .i64 0) := h2.cell 8
      have a9 : wr.cell? ⟨w.heap.size, 9, none⟩ = some (.int .u32 0) := h1.cell 9
      have b9 : wr.cell? ⟨w.heap.size + 1, 9, none⟩ = some (.int .u32 0) := h2.cell 9
      have a10 : wr.cell? ⟨w.heap.size, 10, none⟩ = some (.int .u32 0) := h1.cell 10
      have b10 : wr.cell? ⟨w.heap.size + 1, 10, none⟩ = some (.int .u32 0) := h2.cell 10
      have a11 : wr.cell? ⟨w.heap.size, 11, none⟩ = some (.int .u32 0) := h1.cell 11
      have b11 : wr.cell? ⟨w.heap.size + 1, 11, none⟩ = some (.int .u32 0) := h2.cell 11
      clear hin hi h1 h2
      go_wp2_with fail
      go_ret
      exact ⟨rfl, HL.out.trans (HBL.out.mono HL.out.size)⟩
set_option maxHeartbeats 3200000 in
theorem rsame18_calls (s t : Ss) (w : World) (he : s.p = t.p) (hsn : s.n = t.n) (h : Row ei w w.heap.size s.a s.n s.p.rt) (h2 : Row ei w w.heap.size t.a t.n t.p.rt) (hn : s.n ≤ maxLen) :
    Calls Try.prog 11 #[.agg (ssc s).toArray, .agg (ssc t).toArray] w (Yes14 true w) := by
  unfold Yes14
  have bz := bel_new (bel_new (Below.refl w.heap.size w) (.cells (ssc s).toArray 37)) (.cells (ssc t).toArray 37)
  have b1 : Blk ((w.alloc (.cells (ssc s).toArray 37)).alloc (.cells (ssc t).toArray 37)) w.heap.size 37 (ssc s) := (Blk.new w 37 (ssc s)).alloc _
  have b2 : Blk ((w.alloc (.cells (ssc s).toArray 37)).alloc (.cells (ssc t).toArray 37)) (w.alloc (.cells (ssc s).toArray 37)).heap.size 37 (ssc t) := Blk.new (w.alloc (.cells (ssc s).toArray 37)) 37 (ssc t)
  rw [show (w.alloc (.cells (ssc s).toArray 37)).heap.size = w.heap.size + 1 by simp] at b2
  obtain ⟨sp, sa, n, sc⟩ := s
  obtain ⟨tp, ta, tn, tc⟩ := t
  simp only at he hsn h h2 hn
  subst he
  subst hsn
  have hsl := rsameL18_calls sa ta n sc tc sp.rt _ ((h.below bz).more bz.size) ((h2.below bz).more bz.size) hn
  unfold Yes14 at hsl
  have HSL := Lib.hid hsl
  have HL := Lib.hid bz
  have HB := Lib.hid (And.intro b1 b2)
  have hek : ∀ W, (binOp .eql 30 (.agg #[.int .i64 sp.k.tail, .int .i64 sp.k.tun, .int .i64 sp.k.head, .int .i64 sp.k.lsp]) (.agg #[.int .i64 sp.k.tail, .int .i64 sp.k.tun, .int .i64 sp.k.head, .int .i64 sp.k.lsp])).run Try.prog W = .ok (.bool true) W := fun W => by
    have := (eq_ky sp.k sp.k W).1
    rwa [decide_eq_true rfl] at this
  have hew := fun W => eq_selfW18 sp.w W
  clear bz b1 b2 h h2 hn hsl
  go_enter Try.func11, Try.ntmps11
  go_upto_region 1 with fail
  generalize ((w.alloc (.cells (ssc ⟨sp, sa, n, sc⟩).toArray 37)).alloc (.cells (ssc ⟨sp, ta, n, tc⟩).toArray 37)) = w1 at *
  have x10 : w1.cell? ⟨w.heap.size, 10, none⟩ = some (.slice sa n sc) := HB.out.1.cell 10
  have y10 : w1.cell? ⟨w.heap.size + 1, 10, none⟩ = some (.slice ta n tc) := HB.out.2.cell 10
  go_wp2_with fail
  ((with_reducible refine HSL.out.mono ?_))
  rintro e w2 ⟨rfl, hb⟩
  have h1 := HB.out.1.below hb
  have h2 := HB.out.2.below hb
  have HL2 := Lib.hid (HL.out.trans (hb.mono HL.out.size))
  clear hb HB HL HSL x10 y10
  have a0 : w2.cell? ⟨w.heap.size, 0, none⟩ = some (.int .i64 sp.k.tail) := h1.cell 0
  have b0 : w2.cell? ⟨w.heap.size + 1, 0, none⟩ = some (.int .i64 sp.k.tail) := h2.cell 0
  have a1 : w2.cell? ⟨w.heap.size, 1, none⟩ = some (.int .i64 sp.k.tun) := h1.cell 1
  have b1 : w2.cell? ⟨w.heap.size + 1, 1, none⟩ = some (.int .i64 sp.k.tun) := h2.cell 1
  have a2 : w2.cell? ⟨w.heap.size, 2, none⟩ = some (.int .i64 sp.k.head) := h1.cell 2
  have b2 : w2.cell? ⟨w.heap.size + 1, 2, none⟩ = some (.int .i64 sp.k.head) := h2.cell 2
  have a3 : w2.cell? ⟨w.heap.size, 3, none⟩ = some (.int .i64 sp.k.lsp) := h1.cell 3
  have b3 : w2.cell? ⟨w.heap.size + 1, 3, none⟩ = some (.int .i64 sp.k.lsp) := h2.cell 3
  have a4 : w2.cell? ⟨w.heap.size, 4, none⟩ = some (.int .u64 (sp.w.bw : Int)) := h1.cell 4
  have b4 : w2.cell? ⟨w.heap.size + 1, 4, none⟩ = some (.int .u64 (sp.w.bw : Int)) := h2.cell 4
  have a5 : w2.cell? ⟨w.heap.size, 5, none⟩ = some (.int .i64 sp.w.su) := h1.cell 5
  have b5 : w2.cell? ⟨w.heap.size + 1, 5, none⟩ = some (.int .i64 sp.w.su) := h2.cell 5
  have a6 : w2.cell? ⟨w.heap.size, 6, none⟩ = some (.int .i64 sp.w.ho) := h1.cell 6
  have b6 : w2.cell? ⟨w.heap.size + 1, 6, none⟩ = some (.int .i64 sp.w.ho) := h2.cell 6
  have a7 : w2.cell? ⟨w.heap.size, 7, none⟩ = some (.int .u32 (sp.w.an : Int)) := h1.cell 7
  have b7 : w2.cell? ⟨w.heap.size + 1, 7, none⟩ = some (.int .u32 (sp.w.an : Int)) := h2.cell 7
  have a8 : w2.cell? ⟨w.heap.size, 8, none⟩ = some (.int .u32 (sp.w.al : Int)) := h1.cell 8
  have b8 : w2.cell? ⟨w.heap.size + 1, 8, none⟩ = some (.int .u32 (sp.w.al : Int)) := h2.cell 8
  have a9 : w2.cell? ⟨w.heap.size, 9, none⟩ = some (.int .u32 (sp.w.no : Int)) := h1.cell 9
  have b9 : w2.cell? ⟨w.heap.size + 1, 9, none⟩ = some (.int .u32 (sp.w.no : Int)) := h2.cell 9
  have a11 : w2.cell? ⟨w.heap.size, 11, none⟩ = some (.int .i64 sp.ix) := h1.cell 11
  have b11 : w2.cell? ⟨w.heap.size + 1, 11, none⟩ = some (.int .i64 sp.ix) := h2.cell 11
  have a12 : w2.cell? ⟨w.heap.size, 12, none⟩ = some (.int .i64 sp.un) := h1.cell 12
  have b12 : w2.cell? ⟨w.heap.size + 1, 12, none⟩ = some (.int .i64 sp.un) := h2.cell 12
  have a13 : w2.cell? ⟨w.heap.size, 13, none⟩ = some (.int .i64 sp.ib) := h1.cell 13
  have b13 : w2.cell? ⟨w.heap.size + 1, 13, none⟩ = some (.int .i64 sp.ib) := h2.cell 13
  have a14 : w2.cell? ⟨w.heap.size, 14, none⟩ = some (.int .i64 sp.ob) := h1.cell 14
  have b14 : w2.cell? ⟨w.heap.size + 1, 14, none⟩ = some (.int .i64 sp.ob) := h2.cell 14
  have a15 : w2.cell? ⟨w.heap.size, 15, none⟩ = some (.int .i64 sp.kp) := h1.cell 15
  have b15 : w2.cell? ⟨w.heap.size + 1, 15, none⟩ = some (.int .i64 sp.kp) := h2.cell 15
  have a16 : w2.cell? ⟨w.heap.size, 16, none⟩ = some (.int .i64 sp.sn) := h1.cell 16
  have b16 : w2.cell? ⟨w.heap.size + 1, 16, none⟩ = some (.int .i64 sp.sn) := h2.cell 16
  clear h1 h2
  have q11 : (sp.ix == sp.ix) = true := by simp
  have q12 : (sp.un == sp.un) = true := by simp
  have q13 : (sp.ib == sp.ib) = true := by simp
  have q14 : (sp.ob == sp.ob) = true := by simp
  have q15 : (sp.kp == sp.kp) = true := by simp
  have q16 : (sp.sn == sp.sn) = true := by simp
  go_wp2_with fail
  go_ret
  exact ⟨rfl, HL2.out⟩
set_option maxHeartbeats 3200000 in
/-- Two rows of states that say the same. -/
theorem rall18_calls (A A2 : Option Addr) (n c c2 : Nat) (l l2 : List Ss) (w : World) (h : Row ssc w w.heap.size A n l) (h2 : Row ssc w w.heap.size A2 n l2) (hn : n ≤ 1048576) (he : l.map (·.p) = l2.map (·.p))
    (hr : ∀ s ∈ l, Row ei w w.heap.size s.a s.n s.p.rt ∧ s.n ≤ maxLen) (hr2 : ∀ s ∈ l2, Row ei w w.heap.size s.a s.n s.p.rt) :
    Calls Try.prog 20 #[.slice A n c, .slice A2 n c2] w (Yes14 true w) := by
  unfold Yes14
  have HR := Lib.hid h
  have HR2 := Lib.hid h2
  have HNN := Lib.hid hn
  have HE := Lib.hid he
  have HRT := Lib.hid hr
  have HRT2 := Lib.hid hr2
  have HIN := Lib.hid (fun s : Ss => (show (Try.prog.info? 37).map (·.size) = some (ssc s).length from infoSsR))
  have hnn : ((n : Int) != (n : Int)) = false := by simp
  clear h h2 he hr hr2
  go_enter Try.func20, Try.ntmps20
  go_wp2_with fail
  go_loopw [5] (fun u W => ∃ i : Nat, i ≤ n ∧ u = .int .i64 (i : Int) ∧ Hid (Below w.heap.size w W)) (fun u W => n - (intOf u).toNat)
  case atStart => exact ⟨0, Nat.zero_le _, rfl, Lib.hid (Below.refl _ _)⟩
  case round =>
    obtain ⟨i, hi, rfl, HBL⟩ := hrel
    by_cases hin : i < n
    · have i1 : (i : Int) < (n : Int) := by omega
      obtain ⟨b, o, x, rfl, hx, hb, hc⟩ := row_key18 HR.out hin
      obtain ⟨b2, o2, y, rfl, hy, hb2, hc2⟩ := row_key18 HR2.out hin
      have hxy : x.p = y.p := by
        have h1 : (l.map (·.p))[i]? = some x.p := by rw [List.getElem?_map, hx]; rfl
        have h2 : (l2.map (·.p))[i]? = some y.p := by rw [List.getElem?_map, hy]; rfl
        rw [HE.out, h2] at h1
        injection h1 with h1
        exact h1.symm
      have hrx := HRT.out x (List.mem_of_getElem? hx)
      have hry := HRT2.out y (List.mem_of_getElem? hy)
      have hxn : x.n = y.n := by rw [← hrx.1.1, ← hry.1, hxy]
      have HS := Lib.hid (fun W (hW : Below wr.heap.size wr W) => rsame18_calls x y W hxy hxn ((hrx.1.below (HBL.out.trans (hW.mono HBL.out.size))).more (Nat.le_trans HBL.out.size hW.size)) ((hry.below (HBL.out.trans (hW.mono HBL.out.size))).more (Nat.le_trans HBL.out.size hW.size)) hrx.2)
      have HX := Lib.hid (fun W (hW : Below wr.heap.size wr W) => hc W (HBL.out.trans (hW.mono HBL.out.size)))
      have HY := Lib.hid (fun W (hW : Below wr.heap.size wr W) => hc2 W (HBL.out.trans (hW.mono HBL.out.size)))
      have HI := Lib.hid hin
      have i0 : ¬ (i : Int) < 0 := by omega
      have i3 : IntKind.i64.wrap ((i : Int) + 1) = ((i + 1 : Nat) : Int) := by rw [IntWalk.i64_in _ (by have := HNN.out; have := HI.out; omega)]; omega
      have HS0 := Lib.hid (show Below wr.heap.size wr wr.drew from (Below.refl _ _).drew)
      clear hx hy hb hb2 hc hc2 hin hi hrx hry hxy hxn
      go_wp2_with fail
      refine region_seq (fun W => Below wr.heap.size wr W) [(0, true), (1, true), (2, true), (3, true), (4, true), (5, true), (6, true), (7, true), (8, false), (9, true)] (by kernel_rfl) (by kernel_rfl) (by kernel_rfl) (by kernel_rfl) (fun _ _ _ _ _ h => h) HS0.out ?_
      repeat first
        | refine seq_loadAt18 (x := .tmp 19) (vs := ssc x) rfl (by rfl) rfl rfl HX.out Try.underlying37 rfl (HIN.out _) ?_
          simp only [Act.put, List.setIfInBounds_toArray, List.set_cons_zero, List.set_cons_succ]
        | refine seq_loadAt18 (x := .tmp 23) (vs := ssc y) rfl (by rfl) rfl rfl HY.out Try.underlying37 rfl (HIN.out _) ?_
          simp only [Act.put, List.setIfInBounds_toArray, List.set_cons_zero, List.set_cons_succ]
        | refine seq_pure (v := ?_) rfl (by rfl) (fun W hW => ?_) ?_
          rotate_left
          · clear hW
            go_simp
            with_reducible rfl
          simp only [Act.put, List.setIfInBounds_toArray, List.set_cons_zero, List.set_cons_succ]
        | refine seq_skip rfl (by rfl) ?_
          simp only [Act.put, List.setIfInBounds_toArray, List.set_cons_zero, List.set_cons_succ]
      refine seq_make rfl (by rfl) (fun K hK => ?_)
      go_simp
      have hsm := HS.out wr.drew HS0.out
      unfold Yes14 at hsm
      ((with_reducible refine hsm.mono ?_))
      rintro e w8 ⟨rfl, hb⟩
      have HS8 := Lib.hid (show Below wr.heap.size wr w8 from below_of_drew hb)
      clear hb hsm
      go_simp
      refine hK _ _ _ (fun _ h => h) HS8.out ?_
      clear hK K
      repeat first
        | refine seq_pure (v := ?_) rfl (by rfl) (fun W hW => ?_) ?_
          rotate_left
          · clear hW
            go_simp
            with_reducible rfl
          simp only [Act.put, List.setIfInBounds_toArray, List.set_cons_zero, List.set_cons_succ]
        | refine seq_skip rfl (by rfl) ?_
          simp only [Act.put, List.setIfInBounds_toArray, List.set_cons_zero, List.set_cons_succ]
      refine seq_done ?_
      have HB2 := Lib.hid (HBL.out.trans (HS8.out.mono HBL.out.size))
      clear HS0 HS8 HX HY HS
      go_wp2_with fail
      go_roundw
      case rel => exact ⟨i + 1, HI.out, by first | rfl | (simp; omega), HB2⟩
      case measure => have := HI.out; simp [intOf]; omega
    · have i1 : ¬ (i : Int) < (n : Int) := by omega
      clear hin hi
      go_wp2_with fail
      go_ret
      exact ⟨rfl, HBL.out⟩
set_option maxHeartbeats 1600000 in
theorem ours18_calls (s : Ss) (w : World) : Calls Try.prog 12 #[.agg (ssc s).toArray] w fun e w' => e = .returned (.agg (ssc s).toArray) ∧ Below w.heap.size w w' := by
  have bz := bel_new (bel_new (Below.refl w.heap.size w) (.cells (ssc s).toArray 40)) (.cells #[.int .i64 0, .int .i64 0, .int .i64 0, .int .i64 0, .int .u64 0, .int .i64 0, .int .i64 0, .int .u32 0, .int .u32 0, .int .u32 0, .slice none 0 0, .int .i64 0, .int .i64 0, .int .i64 0, .int .i64 0, .int .i64 0, .int .i64 0] 37)
  have b1 := (Blk.new w 40 (ssc s)).alloc (.cells #[.int .i64 0, .int .i64 0, .int .i64 0, .int .i64 0, .int .u64 0, .int .i64 0, .int .i64 0, .int .u32 0, .int .u32 0, .int .u32 0, .slice none 0 0, .int .i64 0, .int .i64 0, .int .i64 0, .int .i64 0, .int .i64 0, .int .i64 0] 37)
  have b2 : Blk ((w.alloc (.cells (ssc s).toArray 40)).alloc (.cells #[.int .i64 0, .int .i64 0, .int .i64 0, .int .i64 0, .int .u64 0, .int .i64 0, .int .i64 0, .int .u32 0, .int .u32 0, .int .u32 0, .slice none 0 0, .int .i64 0, .int .i64 0, .int .i64 0, .int .i64 0, .int .i64 0, .int .i64 0] 37)) (w.alloc (.cells (ssc s).toArray 40)).heap.size 37 (ssc z18) := Blk.new (w.alloc (.cells (ssc s).toArray 40)) 37 (ssc z18)
  rw [show (w.alloc (.cells (ssc s).toArray 40)).heap.size = w.heap.size + 1 by simp] at b2
  have HL := Lib.hid bz
  have B1 := Lib.hid b1
  have B2 := Lib.hid b2
  have HIN := Lib.hid (show (Try.prog.info? 37).map (·.size) = some (ssc s).length from infoSsR)
  have HON := Lib.hid (ssc_one s)
  clear bz b1 b2
  go_enter Try.func12, Try.ntmps12
  go_upto_region 1 with fail
  generalize ((w.alloc (.cells (ssc s).toArray 40)).alloc (.cells #[.int .i64 0, .int .i64 0, .int .i64 0, .int .i64 0, .int .u64 0, .int .i64 0, .int .i64 0, .int .u32 0, .int .u32 0, .int .u32 0, .slice none 0 0, .int .i64 0, .int .i64 0, .int .i64 0, .int .i64 0, .int .i64 0, .int .i64 0] 37)) = w1 at *
  have x0 : w1.cell? ⟨w.heap.size, 0, none⟩ = some (.int .i64 s.p.k.tail) := B1.out.cell 0
  have x1 : w1.cell? ⟨w.heap.size, 1, none⟩ = some (.int .i64 s.p.k.tun) := B1.out.cell 1
  have x2 : w1.cell? ⟨w.heap.size, 2, none⟩ = some (.int .i64 s.p.k.head) := B1.out.cell 2
  have x3 : w1.cell? ⟨w.heap.size, 3, none⟩ = some (.int .i64 s.p.k.lsp) := B1.out.cell 3
  have x4 : w1.cell? ⟨w.heap.size, 4, none⟩ = some (.int .u64 (s.p.w.bw : Int)) := B1.out.cell 4
  have x5 : w1.cell? ⟨w.heap.size, 5, none⟩ = some (.int .i64 s.p.w.su) := B1.out.cell 5
  have x6 : w1.cell? ⟨w.heap.size, 6, none⟩ = some (.int .i64 s.p.w.ho) := B1.out.cell 6
  have x7 : w1.cell? ⟨w.heap.size, 7, none⟩ = some (.int .u32 (s.p.w.an : Int)) := B1.out.cell 7
  have x8 : w1.cell? ⟨w.heap.size, 8, none⟩ = some (.int .u32 (s.p.w.al : Int)) := B1.out.cell 8
  have x9 : w1.cell? ⟨w.heap.size, 9, none⟩ = some (.int .u32 (s.p.w.no : Int)) := B1.out.cell 9
  have x10 : w1.cell? ⟨w.heap.size, 10, none⟩ = some (.slice s.a s.n s.c) := B1.out.cell 10
  have x11 : w1.cell? ⟨w.heap.size, 11, none⟩ = some (.int .i64 s.p.ix) := B1.out.cell 11
  have x12 : w1.cell? ⟨w.heap.size, 12, none⟩ = some (.int .i64 s.p.un) := B1.out.cell 12
  have x13 : w1.cell? ⟨w.heap.size, 13, none⟩ = some (.int .i64 s.p.ib) := B1.out.cell 13
  have x14 : w1.cell? ⟨w.heap.size, 14, none⟩ = some (.int .i64 s.p.ob) := B1.out.cell 14
  have x15 : w1.cell? ⟨w.heap.size, 15, none⟩ = some (.int .i64 s.p.kp) := B1.out.cell 15
  have x16 : w1.cell? ⟨w.heap.size, 16, none⟩ = some (.int .i64 s.p.sn) := B1.out.cell 16
  go_wp2_with ((with_reducible refine step_store (o := ⟨none, _, _, _, _, _⟩) (vs := ssc s) (ty := 37) (x := .tmp 2) (y := .tmp 21) ?_ ?_ ?_ ?_ B2.out HIN.out rfl HON.out ?_); (rfl); (rfl); (rfl); (rfl); intro w4 hb4 hg4 hs4)
  refine bodyPost_ret (v := .agg (ssc s).toArray) (results_one8 rfl _ rfl hb4 Try.underlying37 rfl HIN.out) rfl ?_
  exact ⟨rfl, bel_upd HL.out hg4 (Nat.le_refl _) (by omega)⟩
set_option maxHeartbeats 1600000 in
theorem theirs18_calls (s : Ss) (w : World) : Calls Try.prog 14 #[.agg (ssc s).toArray] w fun e w' => e = .returned (.agg (ssc s).toArray) ∧ Below w.heap.size w w' := by
  have bz := bel_new (bel_new (Below.refl w.heap.size w) (.cells (ssc s).toArray 37)) (.cells #[.int .i64 0, .int .i64 0, .int .i64 0, .int .i64 0, .int .u64 0, .int .i64 0, .int .i64 0, .int .u32 0, .int .u32 0, .int .u32 0, .slice none 0 0, .int .i64 0, .int .i64 0, .int .i64 0, .int .i64 0, .int .i64 0, .int .i64 0] 40)
  have b1 := (Blk.new w 37 (ssc s)).alloc (.cells #[.int .i64 0, .int .i64 0, .int .i64 0, .int .i64 0, .int .u64 0, .int .i64 0, .int .i64 0, .int .u32 0, .int .u32 0, .int .u32 0, .slice none 0 0, .int .i64 0, .int .i64 0, .int .i64 0, .int .i64 0, .int .i64 0, .int .i64 0] 40)
  have b2 : Blk ((w.alloc (.cells (ssc s).toArray 37)).alloc (.cells #[.int .i64 0, .int .i64 0, .int .i64 0, .int .i64 0, .int .u64 0, .int .i64 0, .int .i64 0, .int .u32 0, .int .u32 0, .int .u32 0, .slice none 0 0, .int .i64 0, .int .i64 0, .int .i64 0, .int .i64 0, .int .i64 0, .int .i64 0] 40)) (w.alloc (.cells (ssc s).toArray 37)).heap.size 40 (ssc z18) := Blk.new (w.alloc (.cells (ssc s).toArray 37)) 40 (ssc z18)
  rw [show (w.alloc (.cells (ssc s).toArray 37)).heap.size = w.heap.size + 1 by simp] at b2
  have HL := Lib.hid bz
  have B1 := Lib.hid b1
  have B2 := Lib.hid b2
  have HIN := Lib.hid (show (Try.prog.info? 40).map (·.size) = some (ssc s).length from infoSsC)
  have HON := Lib.hid (ssc_one s)
  clear bz b1 b2
  go_enter Try.func14, Try.ntmps14
  go_upto_region 1 with fail
  generalize ((w.alloc (.cells (ssc s).toArray 37)).alloc (.cells #[.int .i64 0, .int .i64 0, .int .i64 0, .int .i64 0, .int .u64 0, .int .i64 0, .int .i64 0, .int .u32 0, .int .u32 0, .int .u32 0, .slice none 0 0, .int .i64 0, .int .i64 0, .int .i64 0, .int .i64 0, .int .i64 0, .int .i64 0] 40)) = w1 at *
  have x0 : w1.cell? ⟨w.heap.size, 0, none⟩ = some (.int .i64 s.p.k.tail) := B1.out.cell 0
  have x1 : w1.cell? ⟨w.heap.size, 1, none⟩ = some (.int .i64 s.p.k.tun) := B1.out.cell 1
  have x2 : w1.cell? ⟨w.heap.size, 2, none⟩ = some (.int .i64 s.p.k.head) := B1.out.cell 2
  have x3 : w1.cell? ⟨w.heap.size, 3, none⟩ = some (.int .i64 s.p.k.lsp) := B1.out.cell 3
  have x4 : w1.cell? ⟨w.heap.size, 4, none⟩ = some (.int .u64 (s.p.w.bw : Int)) := B1.out.cell 4
  have x5 : w1.cell? ⟨w.heap.size, 5, none⟩ = some (.int .i64 s.p.w.su) := B1.out.cell 5
  have x6 : w1.cell? ⟨w.heap.size, 6, none⟩ = some (.int .i64 s.p.w.ho) := B1.out.cell 6
  have x7 : w1.cell? ⟨w.heap.size, 7, none⟩ = some (.int .u32 (s.p.w.an : Int)) := B1.out.cell 7
  have x8 : w1.cell? ⟨w.heap.size, 8, none⟩ = some (.int .u32 (s.p.w.al : Int)) := B1.out.cell 8
  have x9 : w1.cell? ⟨w.heap.size, 9, none⟩ = some (.int .u32 (s.p.w.no : Int)) := B1.out.cell 9
  have x10 : w1.cell? ⟨w.heap.size, 10, none⟩ = some (.slice s.a s.n s.c) := B1.out.cell 10
  have x11 : w1.cell? ⟨w.heap.size, 11, none⟩ = some (.int .i64 s.p.ix) := B1.out.cell 11
  have x12 : w1.cell? ⟨w.heap.size, 12, none⟩ = some (.int .i64 s.p.un) := B1.out.cell 12
  have x13 : w1.cell? ⟨w.heap.size, 13, none⟩ = some (.int .i64 s.p.ib) := B1.out.cell 13
  have x14 : w1.cell? ⟨w.heap.size, 14, none⟩ = some (.int .i64 s.p.ob) := B1.out.cell 14
  have x15 : w1.cell? ⟨w.heap.size, 15, none⟩ = some (.int .i64 s.p.kp) := B1.out.cell 15
  have x16 : w1.cell? ⟨w.heap.size, 16, none⟩ = some (.int .i64 s.p.sn) := B1.out.cell 16
  go_wp2_with ((with_reducible refine step_store (o := ⟨none, _, _, _, _, _⟩) (vs := ssc s) (ty := 40) (x := .tmp 2) (y := .tmp 21) ?_ ?_ ?_ ?_ B2.out HIN.out rfl HON.out ?_); (rfl); (rfl); (rfl); (rfl); intro w4 hb4 hg4 hs4)
  refine bodyPost_ret (v := .agg (ssc s).toArray) (results_one8 rfl _ rfl hb4 Try.underlying40 rfl HIN.out) rfl ?_
  exact ⟨rfl, bel_upd HL.out hg4 (Nat.le_refl _) (by omega)⟩
end Go.Proofs.Ytogijfebfffobaa
