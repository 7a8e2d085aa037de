/-
  The document's New (viaductref15). Condition: fewer than 2^30 links, each with a number of 64 bits.
-/
import Derived.Test.YtmfmjdkeoiebpaaTedD
namespace Go.Proofs.Ytmfmjdkeoiebpaa
set_option maxRecDepth 100000
set_option linter.unusedVariables false
open Go.RowKit

theorem grown_set15 (w : World) (q i : Nat) (v : Value) : w.grownBy (w.setCell ⟨q, i, none⟩ v) (some q) :=
  ⟨rfl, rfl, rfl, by simp [World.setCell], fun k hk hne => Below.heap_setCell _ _ _ _ (fun e => hne (by rw [e]))⟩
/-- The first p of eight numbers are set. -/
def fl15 (p C : Nat) : List Nat := List.replicate p C ++ List.replicate (8 - p) 0
theorem fl15_set {p : Nat} (hp : p < 8) (C : Nat) : (fl15 p C).set p C = fl15 (p + 1) C := by
  rcases p with _ | _ | _ | _ | _ | _ | _ | _ | p
  iterate 8 rfl
  omega
theorem fl15_length {p : Nat} (hp : p ≤ 8) (C : Nat) : (fl15 p C).length = 8 := by simp [fl15]; omega
theorem adc_set (k : Lk) (q : Int) (up : Bool) {l : List Nat} (hl : l.length = 8) {i : Nat} (hi : i < 8) (v : Nat) : adc ⟨k, q, up, l.set i v⟩ = (adc ⟨k, q, up, l⟩).set (7 + i) (.int .u64 (v : Int)) := by
  obtain ⟨a, b, c, d, e, f, g, h, rfl⟩ := list_eight hl
  rcases i with _ | _ | _ | _ | _ | _ | _ | _ | i
  iterate 8 rfl
  omega
def NewP15 (L : List Lk) (w : World) (e : Ending) (w' : World) : Prop := ∃ A c, e = .returned (.slice A L.length c) ∧ Acc15 w' w.heap.size A c (bnew L) ∧ Below w.heap.size w w'
set_option maxHeartbeats 3200000 in
theorem rnew15_calls (a : Option Addr) (n c : Nat) (L : List Lk) (hc : ∀ x ∈ L, 0 ≤ x.c) (w : World) (hr : Row lkc w w.heap.size a n L) (hn : n ≤ 1073741824) : Calls Try.prog 14 #[.slice a n c] w (NewP15 L w) := by
  have HR := Lib.hid hr
  have HN := Lib.hid (And.intro hr.1 hn)
  have HC := Lib.hid hc
  unfold NewP15
  clear hr hc
  go_enter Try.func14, Try.ntmps14
  go_wp2_with fail
  go_loopw [3, 4] (fun s t W => ∃ (i c1 : Nat) (A : Option Addr), s = .slice A i c1 ∧ t = .int .i64 (i : Int) ∧ i ≤ n ∧ Acc15 W w.heap.size A c1 ((bnew L).take i) ∧ Below w.heap.size w W) (fun s t W => n - (intOf t).toNat)
  case atStart => exact ⟨0, 0, none, rfl, rfl, Nat.zero_le _, AccR.nil _ _ _, Below.refl _ _⟩
  case round =>
    obtain ⟨i, c1, A, rfl, rfl, hin, ha, hb⟩ := hrel
    have HAC := Lib.hid ha
    have HBL := Lib.hid hb
    have HNE := Lib.hid (show ∀ y, blk A = some y → y ≠ wr.heap.size from fun y hy e => by have := (ha.ge hy).2; omega)
    clear ha hb
    by_cases hin2 : i < n
    · have i1 : (i : Int) < (n : Int) := by omega
      have HII := Lib.hid hin2
      obtain ⟨b, o, x, rfl, hx, hb, hcc⟩ := cells15 lkc_length HR.out hin2
      have hxc := HC.out x (List.mem_of_getElem? hx)
      obtain ⟨f, t, c0, m, g⟩ := x
      obtain ⟨C, rfl⟩ : ∃ C : Nat, c0 = (C : Int) := ⟨c0.toNat, by simp only at hxc; omega⟩
      have HX := Lib.hid (show (bnew L)[i]? = some ⟨⟨f, t, (C : Int), m, g⟩, 0, true, fl15 8 C⟩ from by unfold bnew; rw [List.getElem?_map, hx]; rfl)
      have HCE := Lib.hid hcc
      have z0 : wr.cell? ⟨b, o + i * 5, none⟩ = some (.int .i64 f) := hcc wr HBL.out 0 _ rfl
      have z1 : wr.cell? ⟨b, o + i * 5 + 1, none⟩ = some (.int .i64 t) := hcc wr HBL.out 1 _ rfl
      have z2 : wr.cell? ⟨b, o + i * 5 + 2, none⟩ = some (.int .u64 (C : Int)) := hcc wr HBL.out 2 _ rfl
      have z3 : wr.cell? ⟨b, o + i * 5 + 3, none⟩ = some (.int .i64 m) := hcc wr HBL.out 3 _ rfl
      have z4 : wr.cell? ⟨b, o + i * 5 + 4, none⟩ = some (.int .u32 g) := hcc wr HBL.out 4 _ rfl
      clear hx hb hcc hin hin2 hxc
      go_upto_region 6 with fail
      clear z0 z1 z2 z3 z4
      have H5 := Lib.hid (show Blk (wr.alloc (.cells #[.int .i64 f, .int .i64 t, .int .u64 (C : Int), .int .i64 m, .int .u32 g, .int .i64 0, .bool true, .int .u64 0, .int .u64 0, .int .u64 0, .int .u64 0, .int .u64 0, .int .u64 0, .int .u64 0, .int .u64 0] 42)) wr.heap.size 42 (adc ⟨⟨f, t, (C : Int), m, g⟩, 0, true, fl15 0 C⟩) from Blk.new wr 42 (adc ⟨⟨f, t, (C : Int), m, g⟩, 0, true, fl15 0 C⟩))
      have L5 := Lib.hid (bel_new HBL.out (.cells #[.int .i64 f, .int .i64 t, .int .u64 (C : Int), .int .i64 m, .int .u32 g, .int .i64 0, .bool true, .int .u64 0, .int .u64 0, .int .u64 0, .int .u64 0, .int .u64 0, .int .u64 0, .int .u64 0, .int .u64 0] 42))
      have A5 := Lib.hid (AccR.alloc HAC.out (.cells #[.int .i64 f, .int .i64 t, .int .u64 (C : Int), .int .i64 m, .int .u32 g, .int .i64 0, .bool true, .int .u64 0, .int .u64 0, .int .u64 0, .int .u64 0, .int .u64 0, .int .u64 0, .int .u64 0, .int .u64 0] 42))
      have S5 := Lib.hid (show w.heap.size ≤ wr.heap.size from HBL.out.size)
      clear HAC
      generalize wr.alloc _ = w5 at *
      clear HBL
      generalize wr.heap.size = q at *
      go_wp2_with fail
      go_loopw [6] (fun s W => ∃ p : Nat, p ≤ 8 ∧ s = .int .i64 (p : Int) ∧ Blk W q 42 (adc ⟨⟨f, t, (C : Int), m, g⟩, 0, true, fl15 p C⟩) ∧ Acc15 W w.heap.size A c1 ((bnew L).take i) ∧ Below w.heap.size w W) (fun s W => 8 - (intOf s).toNat)
      case atStart => exact ⟨0, by omega, rfl, H5.out, A5.out, L5.out⟩
      case round =>
        obtain ⟨p, hp, rfl, hk, ha, hb⟩ := hrel
        have HK := Lib.hid hk
        have HA := Lib.hid ha
        have HB := Lib.hid hb
        clear hk ha hb H5 L5 A5
        by_cases hp8 : p < 8
        · have p1 : (p : Int) < 8 := by omega
          have y2 : wr.cell? ⟨b, o + i * 5 + 2, none⟩ = some (.int .u64 (C : Int)) := HCE.out wr HB.out 2 _ rfl
          have y0 : wr.cell? ⟨q, 7 + p, none⟩ = some (.int .u64 (((fl15 p C).getD p 0 : Nat) : Int)) := (HK.out.cell _).trans (adc_free _ hp8)
          have f0 := HK.out.free (7 + p)
          have HP8 := Lib.hid hp8
          go_wp2_with fail
          go_roundw
          case rel =>
            refine ⟨p + 1, by have := HP8.out; omega, by first | rfl | (simp; omega), ?_, ?_, ?_⟩
            · have := HK.out.set (7 + p) (.int .u64 (C : Int))
              rw [← adc_set _ _ _ (fl15_length (by omega) C) HP8.out C, fl15_set HP8.out] at this
              exact this
            · exact HA.out.kept (grown_set15 _ _ _ _) (fun y hy e => by injection e with e; exact HNE.out y hy e.symm)
            · exact HB.out.setCell (p := ⟨q, 7 + p, none⟩) (show w.heap.size ≤ q from S5.out) _
          case measure => have := HP8.out; simp [intOf]; omega
        · obtain rfl : p = 8 := by omega
          clear hp hp8
          have y0 : wr.cell? ⟨q, 0, none⟩ = some (.int .i64 f) := HK.out.cell 0
          have y1 : wr.cell? ⟨q, 1, none⟩ = some (.int .i64 t) := HK.out.cell 1
          have y2 : wr.cell? ⟨q, 2, none⟩ = some (.int .u64 (C : Int)) := HK.out.cell 2
          have y3 : wr.cell? ⟨q, 3, none⟩ = some (.int .i64 m) := HK.out.cell 3
          have y4 : wr.cell? ⟨q, 4, none⟩ = some (.int .u32 g) := HK.out.cell 4
          have y5 : wr.cell? ⟨q, 5, none⟩ = some (.int .i64 0) := HK.out.cell 5
          have y6 : wr.cell? ⟨q, 6, none⟩ = some (.bool true) := HK.out.cell 6
          have y7 : wr.cell? ⟨q, 7, none⟩ = some (.int .u64 (C : Int)) := HK.out.cell 7
          have y8 : wr.cell? ⟨q, 8, none⟩ = some (.int .u64 (C : Int)) := HK.out.cell 8
          have y9 : wr.cell? ⟨q, 9, none⟩ = some (.int .u64 (C : Int)) := HK.out.cell 9
          have y10 : wr.cell? ⟨q, 10, none⟩ = some (.int .u64 (C : Int)) := HK.out.cell 10
          have y11 : wr.cell? ⟨q, 11, none⟩ = some (.int .u64 (C : Int)) := HK.out.cell 11
          have y12 : wr.cell? ⟨q, 12, none⟩ = some (.int .u64 (C : Int)) := HK.out.cell 12
          have y13 : wr.cell? ⟨q, 13, none⟩ = some (.int .u64 (C : Int)) := HK.out.cell 13
          have y14 : wr.cell? ⟨q, 14, none⟩ = some (.int .u64 (C : Int)) := HK.out.cell 14
          have hlen : ((bnew L).take i).length = i := by rw [List.length_take]; unfold bnew; rw [List.length_map]; have := HN.out.1; have := HII.out; omega
          obtain ⟨A8, c8, w8, r8, a8, g8⟩ := acc15_push HA.out ⟨⟨f, t, (C : Int), m, g⟩, 0, true, fl15 8 C⟩ HB.out.size (by rw [hlen]; have := HN.out.2; have := HII.out; omega)
          rw [hlen] at r8
          rw [← take_snoc15 HX.out] at a8
          have B8 := Lib.hid (show Below w.heap.size w w8 from belr_acc HB.out HA.out g8)
          have A8' := Lib.hid a8
          have R8 := Lib.hid r8
          clear r8 a8 g8 hlen
          go_wp2_with (at_builtin; refine step_append rfl rfl rfl rfl R8.out ?_)
          go_roundw
          case rel => exact ⟨i + 1, c8, A8, rfl, by first | rfl | (simp; omega), HII.out, A8'.out, B8.out⟩
          case measure => have := HII.out; simp [intOf]; omega
    · obtain rfl : i = n := by omega
      have i1 : ¬ (i : Int) < (i : Int) := by omega
      clear hin hin2
      go_wp2_with fail
      go_ret
      have := HAC.out
      rw [List.take_of_length_le (by unfold bnew; rw [List.length_map, HN.out.1]; exact Nat.le_refl _)] at this
      exact ⟨A, c1, by rw [HN.out.1]; rfl, this, HBL.out⟩
end Go.Proofs.Ytmfmjdkeoiebpaa
