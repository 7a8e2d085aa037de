/-
  Contracts of the document's answer for layer 4 (viaductref04): Take, Drop. Conditions: its lists have at most 2^20 members.
-/
import Derived.Test.YtclhpmmdcapboaaPoolR
namespace Go.Proofs.Ytclhpmmdcapboaa
open Go.RowKit
set_option linter.unusedVariables false

theorem set4 {w : World} {q : Nat} {T : TypeId} {u0 u1 u2 u3 : Value} (h : w.heap[q]? = some (.cells #[u0, u1, u2, u3] T (0, 0))) (v0 v1 v2 v3 : Value) :
    ((((w.setCell ⟨q, 0, none⟩ v0).setCell ⟨q, 1, none⟩ v1).setCell ⟨q, 2, none⟩ v2).setCell ⟨q, 3, none⟩ v3).heap[q]? = some (.cells #[v0, v1, v2, v3] T (0, 0)) := by
  simp [World.setCell, Array.getElem?_modify, h]
theorem set_three {w : World} {q : Nat} {T : TypeId} {u0 u1 u2 u3 : Value} (h : w.heap[q]? = some (.cells #[u0, u1, u2, u3] T (0, 0))) (v : Value) : (w.setCell ⟨q, 3, none⟩ v).heap[q]? = some (.cells #[u0, u1, u2, v] T (0, 0)) := by
  simp [World.setCell, Array.getElem?_modify, h]
theorem set_two {w : World} {q : Nat} {T : TypeId} {u0 u1 u2 u3 : Value} (h : w.heap[q]? = some (.cells #[u0, u1, u2, u3] T (0, 0))) (v : Value) : (w.setCell ⟨q, 2, none⟩ v).heap[q]? = some (.cells #[u0, u1, v, u3] T (0, 0)) := by
  simp [World.setCell, Array.getElem?_modify, h]

/-- Block 'q' holds these four values. -/
def Four (w : World) (q : Nat) (u0 u1 u2 u3 : Value) : Prop := w.heap[q]? = some (.cells #[u0, u1, u2, u3] 30 (0, 0))
section
variable {w w' : World} {q : Nat} {u0 u1 u2 u3 : Value}
theorem Four.cells (h : Four w q u0 u1 u2 u3) : w.cell? ⟨q, 0, none⟩ = some u0 ∧ w.cell? ⟨q, 1, none⟩ = some u1 ∧ w.cell? ⟨q, 2, none⟩ = some u2 ∧ w.cell? ⟨q, 3, none⟩ = some u3 :=
  ⟨cell_of_row _ _ _ _ _ _ h, cell_of_row _ _ _ _ _ _ h, cell_of_row _ _ _ _ _ _ h, cell_of_row _ _ _ _ _ _ h⟩
theorem Four.free (h : Four w q u0 u1 u2 u3) (i : Nat) : w.frozen? ⟨q, i, none⟩ = false := by unfold Four at h; simp [World.frozen?, h]
theorem Four.same (h : Four w q u0 u1 u2 u3) (hb : w'.heap[q]? = w.heap[q]?) : Four w' q u0 u1 u2 u3 := hb.trans h
theorem Four.lt (h : Four w q u0 u1 u2 u3) : q < w.heap.size := (Array.getElem?_eq_some_iff.1 h).1
theorem Four.new (w : World) (u0 u1 u2 u3 : Value) : Four (w.alloc (.cells #[u0, u1, u2, u3] 30)) w.heap.size u0 u1 u2 u3 := heap_alloc_new w _
end

/-- The slice is the old one, or lies in memory that is new. -/
def Far (B : Nat) (a a' : Option Addr) : Prop := a' = a ∨ ∀ b o, a' = some ⟨b, o, none⟩ → B ≤ b
theorem far_acc {α : Type} {enc : α → List Value} {k : Nat} {w : World} {base B c : Nat} {T : TypeId} {a A : Option Addr} {l : List α} (h : AccR enc k w base T A c l) (hB : B ≤ base) : Far B a A :=
  .inr fun b o e => by subst e; exact Nat.le_trans hB (AccR.ge h rfl).1

/-- What the reference's Take answers, and leaves. -/
def RefTakePost (w : World) (low high : Int) (bs : List Bool) (A0 A20 : Option Addr) (e : Ending) (w' : World) : Prop :=
  ∃ (bs' : List Bool) (l er : Int) (A : Option Addr) (c : Nat) (A2 : Option Addr) (c2 : Nat), e = .returned (.tuple #[rv low high bs'.length A c A2 c2, .int .i64 l, .int .i64 er]) ∧ Ref w' low high bs' A A2 ∧ Below w.heap.size w w' ∧ Far w.heap.size A0 A ∧ Far w.heap.size A20 A2 ∧
    ((low + bs.length ≤ high ∧ bs' = bs ++ [true] ∧ l = low + bs.length ∧ er = 0) ∨ (high < low + bs.length ∧ bs' = bs ∧ l = 0 ∧ er = 7))

section
variable {w : World} {low high : Int} {bs : List Bool} {A A2 : Option Addr} {c c2 : Nat}

set_option maxHeartbeats 800000 in
theorem reftake_full (h : Ref w low high bs A A2) (hn : bs.length ≤ 1048576) (h1 : 16 ≤ low) (h2 : high ≤ 1048575) (h3 : low ≤ high) (hf : high < low + bs.length) :
    Calls Try.prog 14 #[rv low high bs.length A c A2 c2] w (RefTakePost w low high bs A A2) := by
  have H := Lib.hid h
  have K0 := Lib.hid (bel_new (bel_new (Below.refl w.heap.size w) (.cells #[.int .i64 low, .int .i64 high, .slice A bs.length c, .slice A2 bs.length c2] 30)) (.cells #[.int .i64 low, .int .i64 high, .slice A bs.length c, .slice A2 bs.length c2] 30))
  have e1 : decide (low + (bs.length : Int) > high) = true := by simp; omega
  clear h
  unfold rv
  go_enter Try.func14, Try.ntmps14
  go_wp2
  refine bodyPost_ret (v := .tuple #[rv low high bs.length A c A2 c2, .int .i64 0, .int .i64 7]) (by simp [results, Try.results14, go_sem, rv]) rfl ?_
  exact ⟨bs, 0, 7, A, c, A2, c2, rfl, H.out.below K0.out, K0.out, .inl rfl, .inl rfl, .inr ⟨hf, rfl, rfl, rfl⟩⟩

set_option maxHeartbeats 3200000 in
set_option maxRecDepth 100000 in
theorem reftake_some (h : Ref w low high bs A A2) (hn : bs.length ≤ 1048576) (h1 : 16 ≤ low) (h2 : high ≤ 1048575) (h3 : low ≤ high) (hf : low + bs.length ≤ high) :
    Calls Try.prog 14 #[rv low high bs.length A c A2 c2] w (RefTakePost w low high bs A A2) := by
  have H := Lib.hid h
  have K0 := Lib.hid (bel_new (bel_new (Below.refl w.heap.size w) (.cells #[.int .i64 low, .int .i64 high, .slice A bs.length c, .slice A2 bs.length c2] 30)) (.cells #[.int .i64 0, .int .i64 0, .slice none 0 0, .slice none 0 0] 30))
  have F0 := Lib.hid ((Four.new w (.int .i64 low) (.int .i64 high) (.slice A bs.length c) (.slice A2 bs.length c2)).same (w' := (w.alloc (.cells #[.int .i64 low, .int .i64 high, .slice A bs.length c, .slice A2 bs.length c2] 30)).alloc (.cells #[.int .i64 0, .int .i64 0, .slice none 0 0, .slice none 0 0] 30)) (Below.heap_alloc _ _ _ (by simp)))
  have G0 := Lib.hid (show Four ((w.alloc (.cells #[.int .i64 low, .int .i64 high, .slice A bs.length c, .slice A2 bs.length c2] 30)).alloc (.cells #[.int .i64 0, .int .i64 0, .slice none 0 0, .slice none 0 0] 30)) (w.heap.size + 1) (.int .i64 0) (.int .i64 0) (.slice none 0 0) (.slice none 0 0) by
    have := Four.new (w.alloc (.cells #[.int .i64 low, .int .i64 high, .slice A bs.length c, .slice A2 bs.length c2] 30)) (.int .i64 0) (.int .i64 0) (.slice none 0 0) (.slice none 0 0)
    simpa using this)
  have SZ := Lib.hid (show ((w.alloc (.cells #[.int .i64 low, .int .i64 high, .slice A bs.length c, .slice A2 bs.length c2] 30)).alloc (.cells #[.int .i64 0, .int .i64 0, .slice none 0 0, .slice none 0 0] 30)).heap.size = w.heap.size + 2 by simp)
  have e1 : decide (low + (bs.length : Int) > high) = false := by simp; omega
  clear h
  unfold rv
  go_enter Try.func14, Try.ntmps14
  go_wp2
  generalize ((w.alloc (.cells #[.int .i64 low, .int .i64 high, .slice A bs.length c, .slice A2 bs.length c2] 30)).alloc (.cells #[.int .i64 0, .int .i64 0, .slice none 0 0, .slice none 0 0] 30)) = w0 at *
  go_loopw [6, 7, 8] (fun u v t W => ∃ (k : Nat) (A' B' : Option Addr) (c' d' : Nat), k ≤ bs.length ∧ t = .int .i64 (k : Int) ∧ u = .slice A' k c' ∧ v = .slice B' k d' ∧ AccI W (w.heap.size + 2) A' c' (gv low k) ∧ AccB W (w.heap.size + 2) B' d' (bs.take k) ∧ Below (w.heap.size + 2) w0 W) (fun _ _ t _ => bs.length - (intOf t).toNat)
  case atStart => exact ⟨0, none, none, 0, 0, by omega, rfl, rfl, rfl, AccR.nil _ _ _, AccR.nil _ _ _, Below.refl _ _⟩
  case round =>
    obtain ⟨k, A', B', c', d', hk, rfl, rfl, rfl, hA, hB, hW⟩ := hrel
    have hsz : w.heap.size + 2 ≤ wr.heap.size := by have := hW.size; rw [SZ.out] at this; exact this
    have F1 := F0.out.same (hW.block w.heap.size (by omega))
    obtain ⟨x0, x1, x2, x3⟩ := F1.cells
    have hB0 : Below w.heap.size w wr := K0.out.trans (hW.mono (by omega))
    have HB0 := Lib.hid hB0
    have HA := Lib.hid hA
    have HB := Lib.hid hB
    have HW := Lib.hid hW
    have hlk : (bs.take k).length = k := by simp; omega
    have hgk : (gv low k).length = k := gv_length low k
    by_cases hlt : k < bs.length
    · obtain ⟨b1, o1, rfl, hb1, hc1⟩ := row1 ei_length H.out.1 hlt
      obtain ⟨b2, o2, rfl, hb2, hc2⟩ := row1 eb_length H.out.2 hlt
      obtain ⟨x, hx⟩ : ∃ x, bs[k]? = some x := ⟨bs[k], by simp [hlt]⟩
      have d1 : wr.cell? ⟨b1, o1 + k, none⟩ = some (.int .i64 (low + (k : Int))) := (HB0.out.cell (p := ⟨b1, o1 + k, none⟩) hb1).trans (hc1 k _ (gv_get hlt))
      obtain ⟨A3, c3, w3, r3, a3, g3⟩ := acci_push hA (low + (k : Int)) hsz (by omega) 27
      have hB3 : AccB w3 (w.heap.size + 2) B' d' (bs.take k) := hB.kept g3 (fun x hx e => acc_apart hA hB x e hx)
      have hsz3 := Nat.le_trans hsz g3.size
      obtain ⟨B4, d4, w4, r4, b4, g4⟩ := accb_push hB3 x hsz3 (by omega) 28
      have a4 : AccI w4 (w.heap.size + 2) A3 c3 (gv low k ++ [low + (k : Int)]) := a3.kept g4 (fun x hx e => acc_apart a3 hB3 x hx e)
      have hW3 : Below (w.heap.size + 2) w0 w3 := hW.grown g3 (Nat.le_trans (by rw [SZ.out]; omega) hW.size) (fun j hj => (AccR.ge hA hj).1)
      have hW4 : Below (w.heap.size + 2) w0 w4 := hW3.grown g4 (Nat.le_trans (by rw [SZ.out]; omega) hW3.size) (fun j hj => (AccR.ge hB3 hj).1)
      have hB03 : Below w.heap.size w w3 := K0.out.trans (hW3.mono (by omega))
      have d2 : w3.cell? ⟨b2, o2 + k, none⟩ = some (.bool x) := (hB03.cell (p := ⟨b2, o2 + k, none⟩) hb2).trans (hc2 k x hx)
      obtain ⟨y0, y1, y2, y3⟩ := (F0.out.same (hW3.block w.heap.size (by omega))).cells
      rw [hgk] at r3
      rw [hlk] at r4
      rw [← gv_snoc] at a4
      rw [← take_snoc hx] at b4
      have R3 := Lib.hid r3
      have R4 := Lib.hid r4
      have A4 := Lib.hid a4
      have B4' := Lib.hid b4
      have W4 := Lib.hid hW4
      have hkI : (k : Int) < (bs.length : Int) := by omega
      clear r3 r4 a3 a4 b4 g3 g4 hW3 hW4 hB3 hB03 hc1 hc2 hx hA hB hW hsz hsz3 hlk hgk F1 hB0 HA HB HW
      go_wp2_with (at_builtin; first | (refine step_append (o := ⟨some 34, _, _, _, _, _⟩) rfl rfl rfl rfl R3.out ?_) | (refine step_append (o := ⟨some 42, _, _, _, _, _⟩) rfl rfl rfl rfl R4.out ?_))
      exact ⟨⟨k + 1, A3, B4, c3, d4, by omega, by go_num, rfl, rfl, A4.out, B4'.out, W4.out⟩, by simp [intOf]; omega⟩
    · obtain rfl : k = bs.length := by omega
      rw [List.take_length] at hB
      obtain ⟨A3, c3, w3, r3, a3, g3⟩ := acci_push hA (low + (bs.length : Int)) hsz (by omega) 27
      have hB3 : AccB w3 (w.heap.size + 2) B' d' bs := hB.kept g3 (fun x hx e => acc_apart hA hB x e hx)
      have hsz3 := Nat.le_trans hsz g3.size
      obtain ⟨B4, d4, w4, r4, b4, g4⟩ := accb_push hB3 true hsz3 (by omega) 28
      have a4 : AccI w4 (w.heap.size + 2) A3 c3 (gv low bs.length ++ [low + (bs.length : Int)]) := a3.kept g4 (fun x hx e => acc_apart a3 hB3 x hx e)
      have hW3 : Below (w.heap.size + 2) w0 w3 := hW.grown g3 (Nat.le_trans (by rw [SZ.out]; omega) hW.size) (fun j hj => (AccR.ge hA hj).1)
      have hW4 : Below (w.heap.size + 2) w0 w4 := hW3.grown g4 (Nat.le_trans (by rw [SZ.out]; omega) hW3.size) (fun j hj => (AccR.ge hB3 hj).1)
      have hF4 := F0.out.same (hW4.block w.heap.size (by omega))
      have hG4 := G0.out.same (hW4.block (w.heap.size + 1) (by omega))
      rw [hgk] at r3
      rw [← gv_snoc] at a4
      have R3 := Lib.hid r3
      have R4 := Lib.hid r4
      have A4 := Lib.hid a4
      have B4' := Lib.hid b4
      have W4 := Lib.hid hW4
      have F4 := Lib.hid hF4
      have G4 := Lib.hid hG4
      have z2 := hF4.free 2
      have z3 := hF4.free 3
      obtain ⟨t0, t1, t2, t3⟩ := hF4.cells
      have HK := Lib.hid (K0.out.trans (hW4.mono (by omega)))
      clear r3 r4 a3 a4 b4 g3 g4 hW3 hW4 hB3 hA hB hW hsz hsz3 hlk hgk F1 hB0 HA HB HW hF4 hG4
      go_upto_region 13 with (at_builtin; first | (refine step_append (o := ⟨some 46, _, _, _, _, _⟩) rfl rfl rfl rfl R3.out ?_) | (refine step_append (o := ⟨some 49, _, _, _, _, _⟩) rfl rfl rfl rfl R4.out ?_))
      go_upto_region 15 with fail
      have F7 := Lib.hid (show Four ((w4.setCell ⟨w.heap.size, 2, none⟩ (.slice A3 (bs.length + 1) c3)).setCell ⟨w.heap.size, 3, none⟩ (.slice B4 (bs.length + 1) d4)) w.heap.size _ _ _ _ from set_three (set_two F4.out _) _)
      have G7 := Lib.hid (G4.out.same (w' := (w4.setCell ⟨w.heap.size, 2, none⟩ (.slice A3 (bs.length + 1) c3)).setCell ⟨w.heap.size, 3, none⟩ (.slice B4 (bs.length + 1) d4)) ((Below.heap_setCell _ _ _ _ (by simp)).trans (Below.heap_setCell _ _ _ _ (by simp))))
      have K7 := Lib.hid ((HK.out.setCell (p := ⟨w.heap.size, 2, none⟩) (Nat.le_refl _) (.slice A3 (bs.length + 1) c3)).setCell (p := ⟨w.heap.size, 3, none⟩) (Nat.le_refl _) (.slice B4 (bs.length + 1) d4))
      have A7 := Lib.hid (show AccI ((w4.setCell ⟨w.heap.size, 2, none⟩ (.slice A3 (bs.length + 1) c3)).setCell ⟨w.heap.size, 3, none⟩ (.slice B4 (bs.length + 1) d4)) (w.heap.size + 2) A3 c3 _ from ownsRow_setCell_below (ownsRow_setCell_below A4.out (by simp) _) (by simp) _)
      have B7 := Lib.hid (show AccB ((w4.setCell ⟨w.heap.size, 2, none⟩ (.slice A3 (bs.length + 1) c3)).setCell ⟨w.heap.size, 3, none⟩ (.slice B4 (bs.length + 1) d4)) (w.heap.size + 2) B4 d4 _ from ownsRow_setCell_below (ownsRow_setCell_below B4'.out (by simp) _) (by simp) _)
      clear F4 G4 HK A4 B4' W4 R3 R4 t0 t1 t2 t3 z2 z3 x0 x1 x2 x3
      generalize ((w4.setCell ⟨w.heap.size, 2, none⟩ (.slice A3 (bs.length + 1) c3)).setCell ⟨w.heap.size, 3, none⟩ (.slice B4 (bs.length + 1) d4)) = w7 at *
      obtain ⟨t0, t1, t2, t3⟩ := F7.out.cells
      obtain ⟨s0, s1, s2, s3⟩ := G7.out.cells
      have z0 := G7.out.free 0
      have z1 := G7.out.free 1
      have z2 := G7.out.free 2
      have z3 := G7.out.free 3
      go_wp2
      have Q8 := Lib.hid (set4 G7.out (.int .i64 low) (.int .i64 high) (.slice A3 (bs.length + 1) c3) (.slice B4 (bs.length + 1) d4))
      have K8 := Lib.hid ((((K7.out.setCell (p := ⟨w.heap.size + 1, 0, none⟩) (by simp) (.int .i64 low)).setCell (p := ⟨w.heap.size + 1, 1, none⟩) (by simp) (.int .i64 high)).setCell (p := ⟨w.heap.size + 1, 2, none⟩) (by simp) (.slice A3 (bs.length + 1) c3)).setCell (p := ⟨w.heap.size + 1, 3, none⟩) (by simp) (.slice B4 (bs.length + 1) d4))
      have A8 := Lib.hid (show AccI ((((w7.setCell ⟨w.heap.size + 1, 0, none⟩ (.int .i64 low)).setCell ⟨w.heap.size + 1, 1, none⟩ (.int .i64 high)).setCell ⟨w.heap.size + 1, 2, none⟩ (.slice A3 (bs.length + 1) c3)).setCell ⟨w.heap.size + 1, 3, none⟩ (.slice B4 (bs.length + 1) d4)) (w.heap.size + 2) A3 c3 _ from ownsRow_setCell_below (ownsRow_setCell_below (ownsRow_setCell_below (ownsRow_setCell_below A7.out (by simp) _) (by simp) _) (by simp) _) (by simp) _)
      have B8 := Lib.hid (show AccB ((((w7.setCell ⟨w.heap.size + 1, 0, none⟩ (.int .i64 low)).setCell ⟨w.heap.size + 1, 1, none⟩ (.int .i64 high)).setCell ⟨w.heap.size + 1, 2, none⟩ (.slice A3 (bs.length + 1) c3)).setCell ⟨w.heap.size + 1, 3, none⟩ (.slice B4 (bs.length + 1) d4)) (w.heap.size + 2) B4 d4 _ from ownsRow_setCell_below (ownsRow_setCell_below (ownsRow_setCell_below (ownsRow_setCell_below B7.out (by simp) _) (by simp) _) (by simp) _) (by simp) _)
      clear t0 t1 t2 t3 s0 s1 s2 s3 z0 z1 z2 z3
      generalize ((((w7.setCell ⟨w.heap.size + 1, 0, none⟩ (.int .i64 low)).setCell ⟨w.heap.size + 1, 1, none⟩ (.int .i64 high)).setCell ⟨w.heap.size + 1, 2, none⟩ (.slice A3 (bs.length + 1) c3)).setCell ⟨w.heap.size + 1, 3, none⟩ (.slice B4 (bs.length + 1) d4)) = w8 at *
      obtain ⟨y0, y1, y2, y3⟩ := Four.cells (show Four w8 _ _ _ _ _ from Q8.out)
      refine bodyPost_ret (v := .tuple #[rv low high (bs.length + 1) A3 c3 B4 d4, .int .i64 (low + bs.length), .int .i64 0]) (by simp [results, Try.results14, go_sem, rv, y0, y1, y2, y3]) rfl ?_
      have hl : (bs ++ [true]).length = bs.length + 1 := by simp
      have r1 := A8.out.row
      have r2 := B8.out.row
      rw [gv_length] at r1
      refine ⟨bs ++ [true], low + bs.length, 0, A3, c3, B4, d4, by rw [hl], ⟨by rw [hl]; exact r1, r2⟩, K8.out, far_acc A8.out (by omega), far_acc B8.out (by omega), .inl ⟨hf, rfl, rfl, rfl⟩⟩

theorem reftake_calls (h : Ref w low high bs A A2) (hn : bs.length ≤ 1048576) (h1 : 16 ≤ low) (h2 : high ≤ 1048575) (h3 : low ≤ high) :
    Calls Try.prog 14 #[rv low high bs.length A c A2 c2] w (RefTakePost w low high bs A A2) := by
  by_cases hf : low + bs.length ≤ high
  · exact reftake_some h hn h1 h2 h3 hf
  · exact reftake_full h hn h1 h2 h3 (by omega)

/-- What the reference's Drop answers, and leaves. -/
def RefDropPost (w : World) (low high : Int) (bs : List Bool) (A0 A20 : Option Addr) (l : Int) (e : Ending) (w' : World) : Prop :=
  ∃ (bs' : List Bool) (er : Int) (A : Option Addr) (c : Nat) (A2 : Option Addr) (c2 : Nat), e = .returned (.tuple #[rv low high bs'.length A c A2 c2, .int .i64 er]) ∧ Ref w' low high bs' A A2 ∧ Below w.heap.size w w' ∧ Far w.heap.size A0 A ∧ Far w.heap.size A20 A2 ∧
    ((l ∈ outOf low bs ∧ bs' = drp low l bs ∧ er = 0) ∨ (l ∉ outOf low bs ∧ bs' = bs ∧ er = 8))

theorem mem_step {low l : Int} {k : Nat} {x : Bool} {s s' : List Int} (h : s' = s ++ (if x then [low + (k : Int)] else [])) : decide (l ∈ s') = (decide (l ∈ s) || (x && (low + (k : Int) == l))) := by
  subst h
  cases x
  · simp
  · by_cases he : low + (k : Int) = l
    · subst he; simp
    · have : ¬ l = low + (k : Int) := fun e => he e.symm
      have h2 : (low + (k : Int) == l) = false := by simpa using he
      rw [h2]
      simp [this]

set_option maxHeartbeats 3200000 in
set_option maxRecDepth 100000 in
theorem refdrop_calls (h : Ref w low high bs A A2) (hn : bs.length ≤ 1048576) (h1 : 16 ≤ low) (h2 : high ≤ 1048575) (h3 : low ≤ high) (l : Int) :
    Calls Try.prog 11 #[rv low high bs.length A c A2 c2, .int .i64 l] w (RefDropPost w low high bs A A2 l) := by
  have H := Lib.hid h
  have K0 := Lib.hid (bel_new (bel_new (Below.refl w.heap.size w) (.cells #[.int .i64 low, .int .i64 high, .slice A bs.length c, .slice A2 bs.length c2] 30)) (.cells #[.int .i64 0, .int .i64 0, .slice none 0 0, .slice none 0 0] 30))
  have F0 := Lib.hid ((Four.new w (.int .i64 low) (.int .i64 high) (.slice A bs.length c) (.slice A2 bs.length c2)).same (w' := (w.alloc (.cells #[.int .i64 low, .int .i64 high, .slice A bs.length c, .slice A2 bs.length c2] 30)).alloc (.cells #[.int .i64 0, .int .i64 0, .slice none 0 0, .slice none 0 0] 30)) (Below.heap_alloc _ _ _ (by simp)))
  have G0 := Lib.hid (show Four ((w.alloc (.cells #[.int .i64 low, .int .i64 high, .slice A bs.length c, .slice A2 bs.length c2] 30)).alloc (.cells #[.int .i64 0, .int .i64 0, .slice none 0 0, .slice none 0 0] 30)) (w.heap.size + 1) (.int .i64 0) (.int .i64 0) (.slice none 0 0) (.slice none 0 0) by
    have := Four.new (w.alloc (.cells #[.int .i64 low, .int .i64 high, .slice A bs.length c, .slice A2 bs.length c2] 30)) (.int .i64 0) (.int .i64 0) (.slice none 0 0) (.slice none 0 0)
    simpa using this)
  have SZ := Lib.hid (show ((w.alloc (.cells #[.int .i64 low, .int .i64 high, .slice A bs.length c, .slice A2 bs.length c2] 30)).alloc (.cells #[.int .i64 0, .int .i64 0, .slice none 0 0, .slice none 0 0] 30)).heap.size = w.heap.size + 2 by simp)
  clear h
  unfold rv
  go_enter Try.func11, Try.ntmps11
  go_wp2
  generalize ((w.alloc (.cells #[.int .i64 low, .int .i64 high, .slice A bs.length c, .slice A2 bs.length c2] 30)).alloc (.cells #[.int .i64 0, .int .i64 0, .slice none 0 0, .slice none 0 0] 30)) = w0 at *
  go_loopw [6, 7, 8] (fun u v t W => ∃ (k : Nat) (f : Bool) (B' : Option Addr) (d' : Nat), k ≤ bs.length ∧ t = .int .i64 (k : Int) ∧ u = .bool f ∧ f = decide (l ∈ outOf low (bs.take k)) ∧ v = .slice B' k d' ∧ AccB W (w.heap.size + 2) B' d' (drp low l (bs.take k)) ∧ Below (w.heap.size + 2) w0 W) (fun _ _ t _ => bs.length - (intOf t).toNat)
  case atStart => exact ⟨0, false, none, 0, by omega, rfl, rfl, by simp [outOf], rfl, AccR.nil _ _ _, Below.refl _ _⟩
  case round =>
    obtain ⟨k, f, B', d', hk, rfl, rfl, hfd, rfl, hB, hW⟩ := hrel
    have hsz : w.heap.size + 2 ≤ wr.heap.size := by have := hW.size; rw [SZ.out] at this; exact this
    have F1 := F0.out.same (hW.block w.heap.size (by omega))
    obtain ⟨x0, x1, x2, x3⟩ := F1.cells
    have HF := Lib.hid hfd
    have hB0 : Below w.heap.size w wr := K0.out.trans (hW.mono (by omega))
    have HB0 := Lib.hid hB0
    have HB := Lib.hid hB
    have HW := Lib.hid hW
    have hlk : (drp low l (bs.take k)).length = k := by rw [drp_length]; simp; omega
    clear hfd
    by_cases hlt : k < bs.length
    · obtain ⟨b1, o1, rfl, hb1, hc1⟩ := row1 ei_length H.out.1 hlt
      obtain ⟨b2, o2, rfl, hb2, hc2⟩ := row1 eb_length H.out.2 hlt
      obtain ⟨x, hx⟩ : ∃ x, bs[k]? = some x := ⟨bs[k], by simp [hlt]⟩
      have d1 : wr.cell? ⟨b1, o1 + k, none⟩ = some (.int .i64 (low + (k : Int))) := (HB0.out.cell (p := ⟨b1, o1 + k, none⟩) hb1).trans (hc1 k _ (gv_get hlt))
      have d2 : wr.cell? ⟨b2, o2 + k, none⟩ = some (.bool x) := (HB0.out.cell (p := ⟨b2, o2 + k, none⟩) hb2).trans (hc2 k x hx)
      obtain ⟨z, hz⟩ : ∃ z, z = (x && !(low + (k : Int) == l)) := ⟨_, rfl⟩
      obtain ⟨B4, d4, w4, r4, b4, g4⟩ := accb_push hB z hsz (by omega) 28
      have hW4 : Below (w.heap.size + 2) w0 w4 := hW.grown g4 (Nat.le_trans (by rw [SZ.out]; omega) hW.size) (fun j hj => (AccR.ge hB hj).1)
      rw [hlk] at r4
      have hstep := drp_step (low := low) (l := l) hx
      rw [← hz] at hstep
      rw [← hstep] at b4
      have M4 := Lib.hid (mem_step (l := l) (outOf_step (low := low) hx))
      have R4 := Lib.hid r4
      have B4' := Lib.hid b4
      have W4 := Lib.hid hW4
      have hkI : (k : Int) < (bs.length : Int) := by omega
      have HZ := Lib.hid hz
      clear r4 b4 g4 hW4 hc1 hc2 hx hB hW hsz hlk F1 hB0 HB HW hstep hz
      cases hq : (low + (k : Int) == l)
      · have hzz : z = x := by have := HZ.out; rw [hq] at this; simpa using this
        subst hzz
        have hff : decide (l ∈ outOf low (bs.take (k + 1))) = f := by rw [M4.out, HF.out, hq]; simp
        have HFF := Lib.hid hff
        clear hff M4 HF HZ
        go_wp2_with (at_builtin; refine step_append rfl rfl rfl rfl R4.out ?_)
        exact ⟨⟨k + 1, f, B4, d4, by omega, by go_num, rfl, HFF.out.symm, rfl, B4'.out, W4.out⟩, by simp [intOf]; omega⟩
      · cases x
        · have hzz : z = false := by have := HZ.out; simpa using this
          subst hzz
          have hff : decide (l ∈ outOf low (bs.take (k + 1))) = f := by rw [M4.out, HF.out]; simp
          have HFF := Lib.hid hff
          clear hff M4 HF HZ
          go_wp2_with (at_builtin; refine step_append rfl rfl rfl rfl R4.out ?_)
          exact ⟨⟨k + 1, f, B4, d4, by omega, by go_num, rfl, HFF.out.symm, rfl, B4'.out, W4.out⟩, by simp [intOf]; omega⟩
        · have hzz : z = false := by have := HZ.out; rw [hq] at this; simpa using this
          subst hzz
          have hff : decide (l ∈ outOf low (bs.take (k + 1))) = true := by rw [M4.out, hq]; simp
          have HFF := Lib.hid hff
          clear hff M4 HF HZ
          go_wp2_with (at_builtin; refine step_append rfl rfl rfl rfl R4.out ?_)
          exact ⟨⟨k + 1, true, B4, d4, by omega, by go_num, rfl, HFF.out.symm, rfl, B4'.out, W4.out⟩, by simp [intOf]; omega⟩
    · obtain rfl : k = bs.length := by omega
      rw [List.take_length] at hB HF
      have hF4 := F0.out.same (hW.block w.heap.size (by omega))
      have hG4 := G0.out.same (hW.block (w.heap.size + 1) (by omega))
      have F4 := Lib.hid hF4
      have G4 := Lib.hid hG4
      have B4' := Lib.hid hB
      clear hlk F1 HB HW hsz hB hW
      cases f
      · have hnm : l ∉ outOf low bs := by simpa using HF.out.symm
        obtain ⟨s0, s1, s2, s3⟩ := hG4.cells
        have z0 := hG4.free 0
        have z1 := hG4.free 1
        have z2 := hG4.free 2
        have z3 := hG4.free 3
        have HNM := Lib.hid hnm
        clear hF4 hG4 hnm hB0
        go_wp2
        have Q8 := Lib.hid (set4 G4.out (.int .i64 low) (.int .i64 high) (.slice A bs.length c) (.slice A2 bs.length c2))
        have K8 := Lib.hid ((((HB0.out.setCell (p := ⟨w.heap.size + 1, 0, none⟩) (by simp) (.int .i64 low)).setCell (p := ⟨w.heap.size + 1, 1, none⟩) (by simp) (.int .i64 high)).setCell (p := ⟨w.heap.size + 1, 2, none⟩) (by simp) (.slice A bs.length c)).setCell (p := ⟨w.heap.size + 1, 3, none⟩) (by simp) (.slice A2 bs.length c2))
        clear s0 s1 s2 s3 z0 z1 z2 z3
        generalize ((((wr.setCell ⟨w.heap.size + 1, 0, none⟩ (.int .i64 low)).setCell ⟨w.heap.size + 1, 1, none⟩ (.int .i64 high)).setCell ⟨w.heap.size + 1, 2, none⟩ (.slice A bs.length c)).setCell ⟨w.heap.size + 1, 3, none⟩ (.slice A2 bs.length c2)) = w8 at *
        obtain ⟨y0, y1, y2, y3⟩ := Four.cells (show Four w8 _ _ _ _ _ from Q8.out)
        refine bodyPost_ret (v := .tuple #[rv low high bs.length A c A2 c2, .int .i64 8]) (by simp [results, Try.results11, go_sem, rv, y0, y1, y2, y3]) rfl ?_
        exact ⟨bs, 8, A, c, A2, c2, rfl, H.out.below K8.out, K8.out, .inl rfl, .inl rfl, .inr ⟨HNM.out, rfl, rfl⟩⟩
      · have hnm : l ∈ outOf low bs := by simpa using HF.out.symm
        have HNM := Lib.hid hnm
        have z3 := hF4.free 3
        clear hF4 hG4 hnm hB0
        go_upto_region 13 with fail
        have F7 := Lib.hid (show Four (wr.setCell ⟨w.heap.size, 3, none⟩ (.slice B' bs.length d')) w.heap.size _ _ _ _ from set_three F4.out _)
        have G7 := Lib.hid (G4.out.same (w' := wr.setCell ⟨w.heap.size, 3, none⟩ (.slice B' bs.length d')) (Below.heap_setCell _ _ _ _ (by simp)))
        have K7 := Lib.hid (HB0.out.setCell (p := ⟨w.heap.size, 3, none⟩) (Nat.le_refl _) (.slice B' bs.length d'))
        have B7 := Lib.hid (show AccB (wr.setCell ⟨w.heap.size, 3, none⟩ (.slice B' bs.length d')) (w.heap.size + 2) B' d' _ from ownsRow_setCell_below B4'.out (by simp) _)
        clear F4 G4 B4' z3 x0 x1 x2 x3
        generalize wr.setCell ⟨w.heap.size, 3, none⟩ (.slice B' bs.length d') = w7 at *
        obtain ⟨t0, t1, t2, t3⟩ := F7.out.cells
        obtain ⟨s0, s1, s2, s3⟩ := G7.out.cells
        have z0 := G7.out.free 0
        have z1 := G7.out.free 1
        have z2 := G7.out.free 2
        have z3 := G7.out.free 3
        go_wp2
        have Q8 := Lib.hid (set4 G7.out (.int .i64 low) (.int .i64 high) (.slice A bs.length c) (.slice B' bs.length d'))
        have K8 := Lib.hid ((((K7.out.setCell (p := ⟨w.heap.size + 1, 0, none⟩) (by simp) (.int .i64 low)).setCell (p := ⟨w.heap.size + 1, 1, none⟩) (by simp) (.int .i64 high)).setCell (p := ⟨w.heap.size + 1, 2, none⟩) (by simp) (.slice A bs.length c)).setCell (p := ⟨w.heap.size + 1, 3, none⟩) (by simp) (.slice B' bs.length d'))
        have B8 := Lib.hid (show AccB ((((w7.setCell ⟨w.heap.size + 1, 0, none⟩ (.int .i64 low)).setCell ⟨w.heap.size + 1, 1, none⟩ (.int .i64 high)).setCell ⟨w.heap.size + 1, 2, none⟩ (.slice A bs.length c)).setCell ⟨w.heap.size + 1, 3, none⟩ (.slice B' bs.length d')) (w.heap.size + 2) B' d' _ from ownsRow_setCell_below (ownsRow_setCell_below (ownsRow_setCell_below (ownsRow_setCell_below B7.out (by simp) _) (by simp) _) (by simp) _) (by simp) _)
        clear t0 t1 t2 t3 s0 s1 s2 s3 z0 z1 z2 z3
        generalize ((((w7.setCell ⟨w.heap.size + 1, 0, none⟩ (.int .i64 low)).setCell ⟨w.heap.size + 1, 1, none⟩ (.int .i64 high)).setCell ⟨w.heap.size + 1, 2, none⟩ (.slice A bs.length c)).setCell ⟨w.heap.size + 1, 3, none⟩ (.slice B' bs.length d')) = w8 at *
        obtain ⟨y0, y1, y2, y3⟩ := Four.cells (show Four w8 _ _ _ _ _ from Q8.out)
        refine bodyPost_ret (v := .tuple #[rv low high bs.length A c B' d', .int .i64 0]) (by simp [results, Try.results11, go_sem, rv, y0, y1, y2, y3]) rfl ?_
        have r2 := B8.out.row
        have hr := H.out.below K8.out
        refine ⟨drp low l bs, 0, A, c, B', d', by rw [drp_length], ⟨by rw [drp_length]; exact hr.1, r2⟩, K8.out, .inl rfl, far_acc B8.out (by omega), .inl ⟨HNM.out, rfl, rfl⟩⟩
end
end Go.Proofs.Ytclhpmmdcapboaa
