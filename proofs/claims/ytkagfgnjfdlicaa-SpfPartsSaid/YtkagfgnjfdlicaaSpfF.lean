/-
  The document's routes (viaductref11): further. Condition: the list reads as whole numbers, at most 2^30 of them; costs of at most 2^40.
-/
import Derived.Test.YtkagfgnjfdlicaaSpfR
import Derived.Deep.CutBlock
namespace Go.Proofs.Ytkagfgnjfdlicaa
set_option maxRecDepth 100000
open Go.RowKit

theorem put2 {w : World} {q : Nat} {T : TypeId} {u0 u1 : Value} (h : Blk w q T [u0, u1]) (v0 v1 : Value) : Blk ((w.setCell ⟨q, 0, none⟩ v0).setCell ⟨q, 1, none⟩ v1) q T [v0, v1] ∧ w.grownBy ((w.setCell ⟨q, 0, none⟩ v0).setCell ⟨q, 1, none⟩ v1) (some q) := by
  have g : ∀ (w : World) (i : Nat) (v : Value), w.grownBy (w.setCell ⟨q, i, none⟩ v) (some q) := fun w i v => ⟨rfl, rfl, rfl, by simp, fun k _ hk => heap_setCell_other w ⟨q, i, none⟩ k _ (fun e => hk (by simp [e]))⟩
  exact ⟨(h.set 0 v0).set 1 v1, (g _ _ _).trans (g _ _ _)⟩
theorem infoWay : (Try.prog.info? 37).map (·.size) = some 2 := by kernel_rfl
/-- A way with a node behind it. -/
def FurPost (w : World) (r : List Int) (c t m : Int) (e : Ending) (w' : World) : Prop :=
  Below w.heap.size w w' ∧ ∃ A c', e = .returned (.agg #[.slice A (r.length + 1) c', .int .i64 (c + m)]) ∧ AccI w' w.heap.size A c' (r ++ [t])
set_option maxHeartbeats 1600000 in
theorem rfurther_calls (a : Option Addr) (n ca : Nat) (r : List Int) (c t m : Int) (w : World) (h : Row ei w w.heap.size a n r) (hn : n ≤ 1073741824) (hc : 0 ≤ c ∧ c ≤ 1099511627776) (hm : 0 ≤ m ∧ m ≤ 1099511627776) :
    Calls Try.prog 30 #[.agg #[.slice a n ca, .int .i64 c], .int .i64 t, .int .i64 m] w (FurPost w r c t m) := by
  have hr := h.1
  have HA := Lib.hid h
  have HRL := Lib.hid hr
  clear h hr
  go_enter Try.func30, Try.ntmps30
  go_upto_block 0 with fail
  have hb1 : Below w.heap.size w ((w.alloc (.cells #[.slice a n ca, .int .i64 c] 37)).alloc (.cells #[.slice none 0 0, .int .i64 0] 37)) := bel_new (bel_new (Below.refl _ _) _) _
  have hx : Blk ((w.alloc (.cells #[.slice a n ca, .int .i64 c] 37)).alloc (.cells #[.slice none 0 0, .int .i64 0] 37)) w.heap.size 37 [.slice a n ca, .int .i64 c] := (Blk.new w _ _).alloc _
  have hy : Blk ((w.alloc (.cells #[.slice a n ca, .int .i64 c] 37)).alloc (.cells #[.slice none 0 0, .int .i64 0] 37)) (w.heap.size + 1) 37 [.slice none 0 0, .int .i64 0] := by
    have := Blk.new (w.alloc (.cells #[.slice a n ca, .int .i64 c] 37)) 37 [.slice none 0 0, .int .i64 0]
    simpa using this
  generalize (w.alloc (.cells #[.slice a n ca, .int .i64 c] 37)).alloc (.cells #[.slice none 0 0, .int .i64 0] 37) = w1 at *
  have B1 := Lib.hid hb1
  have X1 := Lib.hid hx
  have Y1 := Lib.hid hy
  clear hb1 hx hy
  go_wp2_with fail
  go_loopw [7, 8] (fun s t' W => ∃ (i c1 : Nat) (A : Option Addr), s = .slice A i c1 ∧ t' = .int .i64 (i : Int) ∧ i ≤ n ∧ AccI W w1.heap.size A c1 (r.take i) ∧ Below w1.heap.size w1 W) (fun s t' W => n - (intOf t').toNat)
  case atStart => exact ⟨0, 0, none, rfl, rfl, Nat.zero_le _, AccR.nil _ _ _, Below.refl _ _⟩
  case round =>
    obtain ⟨i, c1, A, rfl, rfl, hi, ha, hb⟩ := hrel
    have HAC := Lib.hid ha
    have HB := Lib.hid hb
    have hx := X1.out.below hb
    have x0 : wr.cell? ⟨w.heap.size, 0, none⟩ = some (.slice a n ca) := hx.cell 0
    have x1 : wr.cell? ⟨w.heap.size, 1, none⟩ = some (.int .i64 c) := hx.cell 1
    clear ha hb hx
    have hlen : (r.take i).length = i := by rw [List.length_take]; have := HRL.out; omega
    by_cases hlt : i < n
    · obtain ⟨b, o, rfl, hbw, hcell⟩ := row_int HA.out (by omega)
      have hil : i < r.length := by rw [HRL.out]; exact hlt
      have hd := hcell i hil
      have hg : r[i]? = some r[i] := List.getElem?_eq_getElem hil
      generalize r[i] = y at hd hg
      have BW : Below w.heap.size w wr := B1.out.trans (HB.out.mono B1.out.size)
      have d1 : wr.cell? ⟨b, o + i, none⟩ = some (.int .i64 y) := (BW.cell (p := ⟨b, o + i, none⟩) hbw).trans hd
      have i1 : (i : Int) < (n : Int) := by omega
      obtain ⟨A9, c9, w9, r9, a9, g9⟩ := acci_push HAC.out y HB.out.size (by rw [hlen]; omega) 23
      rw [hlen] at r9
      rw [show r.take i ++ [y] = r.take (i + 1) by rw [List.take_add_one, hg]; rfl] at a9
      have B9 := Lib.hid (show Below w1.heap.size w1 w9 from belr_acc HB.out HAC.out g9)
      have A9' := Lib.hid a9
      have R9 := Lib.hid r9
      clear hcell hil hd hg BW r9 a9 g9 hlen
      go_wp2_with (at_builtin; refine step_append rfl rfl rfl rfl R9.out ?_)
      go_roundw
      case rel => exact ⟨i + 1, c9, A9, rfl, rfl, by omega, A9'.out, B9.out⟩
      case measure => simp [intOf]; omega
    · obtain rfl : i = n := by omega
      have i1 : ¬ (i : Int) < (i : Int) := by omega
      have hall : r.take i = r := List.take_of_length_le (by rw [HRL.out]; exact Nat.le_refl _)
      obtain ⟨A9, c9, w9, r9, a9, g9⟩ := acci_push HAC.out t HB.out.size (by rw [hlen]; omega) 23
      rw [hlen] at r9
      rw [hall] at a9
      have B9 := Lib.hid (show Below w1.heap.size w1 w9 from belr_acc HB.out HAC.out g9)
      have A9' := Lib.hid a9
      have R9 := Lib.hid r9
      have hy9 := Y1.out.below B9.out
      have hx9 := X1.out.below B9.out
      have z0 : w9.cell? ⟨w.heap.size, 1, none⟩ = some (.int .i64 c) := hx9.cell 1
      have f0 := hy9.free 0
      have f1 := hy9.free 1
      have y0 : w9.cell? ⟨w.heap.size + 1, 0, none⟩ = some (.slice none 0 0) := hy9.cell 0
      have y1 : w9.cell? ⟨w.heap.size + 1, 1, none⟩ = some (.int .i64 0) := hy9.cell 1
      have HY9 := Lib.hid hy9
      clear r9 a9 g9 hlen hall hy9 hx9
      go_wp2_with (at_builtin; refine step_append rfl rfl rfl rfl R9.out ?_)
      have hp := put2 HY9.out (.slice A9 (i + 1) c9) (.int .i64 (c + m))
      clear z0 f0 f1 y0 y1
      generalize (w9.setCell ⟨w.heap.size + 1, 0, none⟩ (.slice A9 (i + 1) c9)).setCell ⟨w.heap.size + 1, 1, none⟩ (.int .i64 (c + m)) = w10 at *
      obtain ⟨hb10, hg10⟩ := hp
      refine bodyPost_ret (v := .agg #[.slice A9 (i + 1) c9, .int .i64 (c + m)]) (results_one8 rfl _ rfl hb10 Try.underlying37 rfl infoWay) rfl ?_
      have hlt1 := Y1.out.lt
      have hfin : AccI w10 w1.heap.size A9 c9 (r ++ [t]) := AccR.kept A9'.out hg10 (fun x hx e => by
        have := (AccR.ge A9'.out hx).1
        injection e with e
        omega)
      have hbel : Below w.heap.size w w9 := B1.out.trans (B9.out.mono B1.out.size)
      refine ⟨hbel.grown hg10 hbel.size (fun k hk => by injection hk with hk; omega), A9, c9, ?_, AccR.lower hfin B1.out.size⟩
      rw [HRL.out]
end Go.Proofs.Ytkagfgnjfdlicaa
