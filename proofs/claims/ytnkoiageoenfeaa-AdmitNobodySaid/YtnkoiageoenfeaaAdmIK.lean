/-
  The laws' own helpers of layer 14: like entries, like keys (same, Keys). Condition: fewer than a thousand million.
  The laws' own helpers of layer 14: find, held. Condition: fewer than a thousand million; numbers of 64 bits.
  The laws' own helper of layer 14: what entries hold by going through all of them (held). Condition: fewer than a thousand million; numbers of 64 bits.
-/
import Derived.Test.YtnkoiageoenfeaaAdmAH
import Derived.Test.YtnkoiageoenfeaaGroupB
import Derived.Test.YtnkoiageoenfeaaLedgR
namespace Go.Proofs.Ytnkoiageoenfeaa
set_option maxRecDepth 100000
set_option linter.unusedVariables false
open Go.RowKit

theorem ne_self14 (y : Et) (w : World) : (binOp .neq 78 (.agg (ent y).toArray) (.agg (ent y).toArray)).run Try.prog w = .ok (.bool (!true)) w :=
  (eql_E (xs := ent y) (ys := ent y) (la := ent y) (lb := ent y) (m := 5) (D := 5) (by decide) (by kernel_rfl) (by rfl) (by rfl) (by rfl) (by rfl) w true (by simp)).2
theorem ne_selfK14 (y : Ky) (w : World) : (binOp .neq 23 (.agg (kyc y).toArray) (.agg (kyc y).toArray)).run Try.prog w = .ok (.bool (!true)) w :=
  (eql_E (xs := kyc y) (ys := kyc y) (la := kyc y) (lb := kyc y) (m := 5) (D := 5) (by decide) (by kernel_rfl) (by rfl) (by rfl) (by rfl) (by rfl) w true (by simp)).2


set_option maxHeartbeats 3200000 in
theorem same14_calls (a a2 : Option Addr) (n c c2 : Nat) (l : List Et) (w : World) (hr : Row ent w w.heap.size a n l) (hr2 : Row ent w w.heap.size a2 n l) (hn : n ≤ 1073741824) : Calls Try.prog 24 #[.slice a n c, .slice a2 n c2] w (Yes14 true w) := by
  have HR := Lib.hid hr
  have HR2 := Lib.hid hr2
  have hne : ((n : Int) != (n : Int)) = false := by simp
  unfold Yes14
  clear hr hr2
  go_enter Try.func24, Try.ntmps24
  go_wp2_with fail
  go_loopw [13] (fun t W => ∃ i : Nat, i ≤ n ∧ t = .int .i64 (i : Int) ∧ Below w.heap.size w W) (fun t W => n - (intOf t).toNat)
  case atStart => exact ⟨0, by omega, rfl, Below.refl _ _⟩
  case round =>
    obtain ⟨i, hi, rfl, hbl⟩ := hrel
    have HBL := Lib.hid hbl
    clear hbl
    by_cases hin : i < n
    · have i1 : (i : Int) < (n : Int) := by omega
      obtain ⟨b, o, y, rfl, hy, hb, hc⟩ := row_cells ent_length HR.out hin
      obtain ⟨b2, o2, y2, rfl, hy2, hb2, hc2⟩ := row_cells ent_length HR2.out hin
      obtain rfl : y2 = y := by rw [hy] at hy2; injection hy2 with e; exact e.symm
      have HCS := Lib.hid (show ∀ W, Below wr.heap.size wr W → (W.cell? ⟨b, o + i * 10, none⟩ = some (.int .i64 y2.k.tail) ∧ W.cell? ⟨b, o + i * 10 + 1, none⟩ = some (.int .i64 y2.k.tun) ∧ W.cell? ⟨b, o + i * 10 + 2, none⟩ = some (.int .i64 y2.k.head) ∧ W.cell? ⟨b, o + i * 10 + 3, none⟩ = some (.int .i64 y2.k.lsp) ∧ W.cell? ⟨b, o + i * 10 + 4, none⟩ = some (.int .u64 (y2.w.bw : Int)) ∧ W.cell? ⟨b, o + i * 10 + 5, none⟩ = some (.int .i64 y2.w.su) ∧ W.cell? ⟨b, o + i * 10 + 6, none⟩ = some (.int .i64 y2.w.ho) ∧ W.cell? ⟨b, o + i * 10 + 7, none⟩ = some (.int .u32 (y2.w.an : Int)) ∧ W.cell? ⟨b, o + i * 10 + 8, none⟩ = some (.int .u32 (y2.w.al : Int)) ∧ W.cell? ⟨b, o + i * 10 + 9, none⟩ = some (.int .u32 (y2.w.no : Int))) ∧ (W.cell? ⟨b2, o2 + i * 10, none⟩ = some (.int .i64 y2.k.tail) ∧ W.cell? ⟨b2, o2 + i * 10 + 1, none⟩ = some (.int .i64 y2.k.tun) ∧ W.cell? ⟨b2, o2 + i * 10 + 2, none⟩ = some (.int .i64 y2.k.head) ∧ W.cell? ⟨b2, o2 + i * 10 + 3, none⟩ = some (.int .i64 y2.k.lsp) ∧ W.cell? ⟨b2, o2 + i * 10 + 4, none⟩ = some (.int .u64 (y2.w.bw : Int)) ∧ W.cell? ⟨b2, o2 + i * 10 + 5, none⟩ = some (.int .i64 y2.w.su) ∧ W.cell? ⟨b2, o2 + i * 10 + 6, none⟩ = some (.int .i64 y2.w.ho) ∧ W.cell? ⟨b2, o2 + i * 10 + 7, none⟩ = some (.int .u32 (y2.w.an : Int)) ∧ W.cell? ⟨b2, o2 + i * 10 + 8, none⟩ = some (.int .u32 (y2.w.al : Int)) ∧ W.cell? ⟨b2, o2 + i * 10 + 9, none⟩ = some (.int .u32 (y2.w.no : Int))) from fun W hW => by
        have h1 := hc W (HBL.out.trans (hW.mono HBL.out.size))
        have h2 := hc2 W (HBL.out.trans (hW.mono HBL.out.size))
        exact ⟨⟨h1 0 _ rfl, h1 1 _ rfl, h1 2 _ rfl, h1 3 _ rfl, h1 4 _ rfl, h1 5 _ rfl, h1 6 _ rfl, h1 7 _ rfl, h1 8 _ rfl, h1 9 _ rfl⟩, h2 0 _ rfl, h2 1 _ rfl, h2 2 _ rfl, h2 3 _ rfl, h2 4 _ rfl, h2 5 _ rfl, h2 6 _ rfl, h2 7 _ rfl, h2 8 _ rfl, h2 9 _ rfl⟩)
      have HNE := Lib.hid (ne_self14 y2)
      have HI := Lib.hid hin
      clear hy hy2 hb hb2 hc hc2 hin hi
      go_wp2_with fail
      refine region_seq (fun W => Below wr.heap.size wr W) [(0, true), (1, true), (2, true), (3, true), (4, true), (5, true), (6, true), (7, true), (8, true)] (by kernel_rfl) (by kernel_rfl) (by kernel_rfl) (by kernel_rfl) (fun _ _ _ _ _ h => h) (Below.refl _ _).drew ?_
      repeat first
        | refine seq_neA (xs := ent y2) (ys := ent y2) (c := !true) rfl (by rfl) rfl rfl rfl (by kernel_rfl) HNE.out ?_
          simp only [Act.put, List.setIfInBounds_toArray, List.set_cons_zero, List.set_cons_succ]
        | refine seq_pure (v := ?_) rfl (by rfl) (fun W hW => ?_) ?_
          rotate_left
          · obtain ⟨⟨c0, c1, c2, c3, c4, c5, c6, c7, c8, c9⟩, d0, d1, d2, d3, d4, d5, d6, d7, d8, d9⟩ := HCS.out W hW
            clear hW
            go_simp
            with_reducible rfl
          simp only [Act.put, List.setIfInBounds_toArray, List.set_cons_zero, List.set_cons_succ]
      refine seq_done ?_
      simp only [Bool.not_true]
      go_wp2_with fail
      go_roundw
      case rel => exact ⟨i + 1, by have := HI.out; omega, by first | rfl | (simp; omega), HBL.out.drew⟩
      case measure => have := HI.out; simp [intOf]; omega
    · have i1 : ¬ (i : Int) < (n : Int) := by omega
      clear hin hi
      go_wp2_with fail
      go_ret
      exact ⟨rfl, HBL.out⟩


set_option maxHeartbeats 3200000 in
theorem keys14_calls (a a2 : Option Addr) (n c c2 : Nat) (l : List Ky) (w : World) (hr : Row kyc w w.heap.size a n l) (hr2 : Row kyc w w.heap.size a2 n l) (hn : n ≤ 1073741824) : Calls Try.prog 21 #[.slice a n c, .slice a2 n c2] w (Yes14 true w) := by
  have HR := Lib.hid hr
  have HR2 := Lib.hid hr2
  have hne : ((n : Int) != (n : Int)) = false := by simp
  unfold Yes14
  clear hr hr2
  go_enter Try.func21, Try.ntmps21
  go_wp2_with fail
  go_loopw [13] (fun t W => ∃ i : Nat, i ≤ n ∧ t = .int .i64 (i : Int) ∧ Below w.heap.size w W) (fun t W => n - (intOf t).toNat)
  case atStart => exact ⟨0, by omega, rfl, Below.refl _ _⟩
  case round =>
    obtain ⟨i, hi, rfl, hbl⟩ := hrel
    have HBL := Lib.hid hbl
    clear hbl
    by_cases hin : i < n
    · have i1 : (i : Int) < (n : Int) := by omega
      obtain ⟨b, o, y, rfl, hy, hb, hc⟩ := row_cells kyc_length HR.out hin
      obtain ⟨b2, o2, y2, rfl, hy2, hb2, hc2⟩ := row_cells kyc_length HR2.out hin
      obtain rfl : y2 = y := by rw [hy] at hy2; injection hy2 with e; exact e.symm
      have HCS := Lib.hid (show ∀ W, Below wr.heap.size wr W → (W.cell? ⟨b, o + i * 4, none⟩ = some (.int .i64 y2.tail) ∧ W.cell? ⟨b, o + i * 4 + 1, none⟩ = some (.int .i64 y2.tun) ∧ W.cell? ⟨b, o + i * 4 + 2, none⟩ = some (.int .i64 y2.head) ∧ W.cell? ⟨b, o + i * 4 + 3, none⟩ = some (.int .i64 y2.lsp)) ∧ (W.cell? ⟨b2, o2 + i * 4, none⟩ = some (.int .i64 y2.tail) ∧ W.cell? ⟨b2, o2 + i * 4 + 1, none⟩ = some (.int .i64 y2.tun) ∧ W.cell? ⟨b2, o2 + i * 4 + 2, none⟩ = some (.int .i64 y2.head) ∧ W.cell? ⟨b2, o2 + i * 4 + 3, none⟩ = some (.int .i64 y2.lsp)) from fun W hW => by
        have h1 := hc W (HBL.out.trans (hW.mono HBL.out.size))
        have h2 := hc2 W (HBL.out.trans (hW.mono HBL.out.size))
        exact ⟨⟨h1 0 _ rfl, h1 1 _ rfl, h1 2 _ rfl, h1 3 _ rfl⟩, h2 0 _ rfl, h2 1 _ rfl, h2 2 _ rfl, h2 3 _ rfl⟩)
      have HNE := Lib.hid (ne_selfK14 y2)
      have HI := Lib.hid hin
      clear hy hy2 hb hb2 hc hc2 hin hi
      go_wp2_with fail
      refine region_seq (fun W => Below wr.heap.size wr W) [(0, true), (1, true), (2, true), (3, true), (4, true), (5, true), (6, true), (7, true), (8, true)] (by kernel_rfl) (by kernel_rfl) (by kernel_rfl) (by kernel_rfl) (fun _ _ _ _ _ h => h) (Below.refl _ _).drew ?_
      repeat first
        | refine seq_neA (xs := kyc y2) (ys := kyc y2) (c := !true) rfl (by rfl) rfl rfl rfl (by kernel_rfl) HNE.out ?_
          simp only [Act.put, List.setIfInBounds_toArray, List.set_cons_zero, List.set_cons_succ]
        | refine seq_pure (v := ?_) rfl (by rfl) (fun W hW => ?_) ?_
          rotate_left
          · obtain ⟨⟨c0, c1, c2, c3⟩, d0, d1, d2, d3⟩ := HCS.out W hW
            clear hW
            go_simp
            with_reducible rfl
          simp only [Act.put, List.setIfInBounds_toArray, List.set_cons_zero, List.set_cons_succ]
      refine seq_done ?_
      simp only [Bool.not_true]
      go_wp2_with fail
      go_roundw
      case rel => exact ⟨i + 1, by have := HI.out; omega, by first | rfl | (simp; omega), HBL.out.drew⟩
      case measure => have := HI.out; simp [intOf]; omega
    · have i1 : ¬ (i : Int) < (n : Int) := by omega
      clear hin hi
      go_wp2_with fail
      go_ret
      exact ⟨rfl, HBL.out⟩


/-- The same entries, of the document's type. -/
def OurP14 (l : List Et) (w : World) (e : Ending) (w' : World) : Prop := ∃ A c', e = .returned (.slice A l.length c') ∧ AccEt w' w.heap.size A c' l ∧ Below w.heap.size w w'
set_option maxHeartbeats 3200000 in
theorem ours14_calls (a : Option Addr) (n c : Nat) (l : List Et) (w : World) (hr : Row ent w w.heap.size a n l) (hn : n ≤ 1073741824) : Calls Try.prog 25 #[.slice a n c] w (OurP14 l w) := by
  have HR := Lib.hid hr
  have HN := Lib.hid hr.1
  unfold OurP14
  clear hr
  go_enter Try.func25, Try.ntmps25
  go_wp2_with fail
  go_loopw [3, 8] (fun s t W => ∃ (i c1 : Nat) (A : Option Addr), i ≤ n ∧ s = .slice A i c1 ∧ t = .int .i64 (i : Int) ∧ AccEt W w.heap.size A c1 (l.take i) ∧ Below w.heap.size w W) (fun s t W => n - (intOf t).toNat)
  case atStart => exact ⟨0, 0, none, by omega, rfl, rfl, AccR.nil _ _ _, Below.refl _ _⟩
  case round =>
    obtain ⟨i, c1, A, hi, rfl, rfl, ha, hbl⟩ := hrel
    have HA := Lib.hid ha
    have HBL := Lib.hid hbl
    clear hbl ha
    by_cases hin : i < n
    · have i1 : (i : Int) < (n : Int) := by omega
      obtain ⟨b, o, y, rfl, hy, hb, hc⟩ := row_cells ent_length HR.out hin
      have hce := hc wr HBL.out
      have HY := Lib.hid hy
      have y0 : wr.cell? ⟨b, o + i * 10, none⟩ = some (.int .i64 y.k.tail) := hce 0 _ rfl
      have y1 : wr.cell? ⟨b, o + i * 10 + 1, none⟩ = some (.int .i64 y.k.tun) := hce 1 _ rfl
      have y2 : wr.cell? ⟨b, o + i * 10 + 2, none⟩ = some (.int .i64 y.k.head) := hce 2 _ rfl
      have y3 : wr.cell? ⟨b, o + i * 10 + 3, none⟩ = some (.int .i64 y.k.lsp) := hce 3 _ rfl
      have y4 : wr.cell? ⟨b, o + i * 10 + 4, none⟩ = some (.int .u64 (y.w.bw : Int)) := hce 4 _ rfl
      have y5 : wr.cell? ⟨b, o + i * 10 + 5, none⟩ = some (.int .i64 y.w.su) := hce 5 _ rfl
      have y6 : wr.cell? ⟨b, o + i * 10 + 6, none⟩ = some (.int .i64 y.w.ho) := hce 6 _ rfl
      have y7 : wr.cell? ⟨b, o + i * 10 + 7, none⟩ = some (.int .u32 (y.w.an : Int)) := hce 7 _ rfl
      have y8 : wr.cell? ⟨b, o + i * 10 + 8, none⟩ = some (.int .u32 (y.w.al : Int)) := hce 8 _ rfl
      have y9 : wr.cell? ⟨b, o + i * 10 + 9, none⟩ = some (.int .u32 (y.w.no : Int)) := hce 9 _ rfl
      have HI := Lib.hid hin
      clear hy hb hc hce hin hi
      go_upto_region 5 with fail
      have XB := Lib.hid (show Blk (wr.alloc (.cells #[.int .i64 y.k.tail, .int .i64 y.k.tun, .int .i64 y.k.head, .int .i64 y.k.lsp, .int .u64 (y.w.bw : Int), .int .i64 y.w.su, .int .i64 y.w.ho, .int .u32 (y.w.an : Int), .int .u32 (y.w.al : Int), .int .u32 (y.w.no : Int)] 63)) wr.heap.size 63 (ent y) from Blk.new wr _ (ent y))
      have HA2 := Lib.hid (AccR.alloc HA.out (.cells #[.int .i64 y.k.tail, .int .i64 y.k.tun, .int .i64 y.k.head, .int .i64 y.k.lsp, .int .u64 (y.w.bw : Int), .int .i64 y.w.su, .int .i64 y.w.ho, .int .u32 (y.w.an : Int), .int .u32 (y.w.al : Int), .int .u32 (y.w.no : Int)] 63))
      have HB2 := Lib.hid (bel_new HBL.out (.cells #[.int .i64 y.k.tail, .int .i64 y.k.tun, .int .i64 y.k.head, .int .i64 y.k.lsp, .int .u64 (y.w.bw : Int), .int .i64 y.w.su, .int .i64 y.w.ho, .int .u32 (y.w.an : Int), .int .u32 (y.w.al : Int), .int .u32 (y.w.no : Int)] 63))
      clear y0 y1 y2 y3 y4 y5 y6 y7 y8 y9 HA HBL
      generalize wr.alloc (.cells #[.int .i64 y.k.tail, .int .i64 y.k.tun, .int .i64 y.k.head, .int .i64 y.k.lsp, .int .u64 (y.w.bw : Int), .int .i64 y.w.su, .int .i64 y.w.ho, .int .u32 (y.w.an : Int), .int .u32 (y.w.al : Int), .int .u32 (y.w.no : Int)] 63) = w2 at *
      generalize wr.heap.size = q at *
      have y0 : w2.cell? ⟨q, 0, none⟩ = some (.int .i64 y.k.tail) := XB.out.cell 0
      have y1 : w2.cell? ⟨q, 1, none⟩ = some (.int .i64 y.k.tun) := XB.out.cell 1
      have y2 : w2.cell? ⟨q, 2, none⟩ = some (.int .i64 y.k.head) := XB.out.cell 2
      have y3 : w2.cell? ⟨q, 3, none⟩ = some (.int .i64 y.k.lsp) := XB.out.cell 3
      have y4 : w2.cell? ⟨q, 4, none⟩ = some (.int .u64 (y.w.bw : Int)) := XB.out.cell 4
      have y5 : w2.cell? ⟨q, 5, none⟩ = some (.int .i64 y.w.su) := XB.out.cell 5
      have y6 : w2.cell? ⟨q, 6, none⟩ = some (.int .i64 y.w.ho) := XB.out.cell 6
      have y7 : w2.cell? ⟨q, 7, none⟩ = some (.int .u32 (y.w.an : Int)) := XB.out.cell 7
      have y8 : w2.cell? ⟨q, 8, none⟩ = some (.int .u32 (y.w.al : Int)) := XB.out.cell 8
      have y9 : w2.cell? ⟨q, 9, none⟩ = some (.int .u32 (y.w.no : Int)) := XB.out.cell 9
      have hlen : (l.take i).length = i := by rw [List.length_take]; have := HN.out; have := HI.out; omega
      obtain ⟨A8, c8, w8, r8, a8, g8⟩ := accet_push HA2.out y HB2.out.size (by rw [hlen]; have := HI.out; omega)
      rw [hlen] at r8
      rw [← take_snoc14 HY.out] at a8
      have B8 := Lib.hid (show Below w.heap.size w w8 from belr_acc HB2.out HA2.out g8)
      have A8' := Lib.hid a8
      have R8 := Lib.hid r8
      clear r8 a8 g8 hlen
      go_wp2_with (at_builtin; refine step_append rfl rfl rfl rfl R8.out ?_)
      go_roundw
      case rel => exact ⟨i + 1, c8, A8, by have := HI.out; omega, rfl, by first | rfl | (simp; omega), A8'.out, B8.out⟩
      case measure => have := HI.out; simp [intOf]; omega
    · obtain rfl : i = n := by omega
      have i1 : ¬ (i : Int) < (i : Int) := by omega
      have htk : l.take i = l := List.take_of_length_le (by rw [HN.out]; exact Nat.le_refl _)
      have ha := HA.out
      rw [htk] at ha
      have HA9 := Lib.hid ha
      clear hin hi ha htk
      go_wp2_with fail
      go_ret
      exact ⟨A, c1, by rw [HN.out]; rfl, HA9.out, HBL.out⟩
end Go.Proofs.Ytnkoiageoenfeaa

namespace Go.Proofs.Ytnkoiageoenfeaa
set_option maxRecDepth 100000
set_option linter.unusedVariables false
open Go.RowKit

def zw14 : Wn := ⟨0, 0, 0, 0, 0, 0⟩
theorem wnc_one (v : Wn) : ∀ u ∈ wnc v, u.oneCell' = true := by intro u hu; simp [wnc] at hu; rcases hu with rfl | rfl | rfl | rfl | rfl | rfl <;> rfl
theorem sizeWant14 : (Try.prog.info? 33).map (·.size) = some 6 := by kernel_rfl
def FindP14 (r : Option Et) (w : World) (e : Ending) (w' : World) : Prop := e = .returned (.tuple #[.agg (wnc (r.elim zw14 (·.w))).toArray, .bool r.isSome]) ∧ Below w.heap.size w w'
theorem find_snoc14 {l : List Et} {i : Nat} {y : Et} {k : Ky} (hy : l[i]? = some y) (h : (l.take i).find? (fun y => decide (y.k = k)) = none) (hk : decide (y.k = k) = false) : (l.take (i + 1)).find? (fun y => decide (y.k = k)) = none := by
  rw [take_snoc14 hy, List.find?_append, h]
  simp [hk]
theorem find_hit14 {l : List Et} {i : Nat} {y : Et} {k : Ky} (hy : l[i]? = some y) (h : (l.take i).find? (fun y => decide (y.k = k)) = none) (hk : decide (y.k = k) = true) : l.find? (fun y => decide (y.k = k)) = some y := by
  have h2 : l.take (i + 1) ++ l.drop (i + 1) = l := List.take_append_drop _ _
  rw [← h2, List.find?_append, take_snoc14 hy, List.find?_append, h]
  simp [hk]
set_option maxHeartbeats 3200000 in
theorem find14_calls (a : Option Addr) (n c : Nat) (l : List Et) (k : Ky) (w : World) (hr : Row ent w w.heap.size a n l) (hn : n ≤ 1073741824) : Calls Try.prog 30 #[.slice a n c, .agg #[.int .i64 k.tail, .int .i64 k.tun, .int .i64 k.head, .int .i64 k.lsp]] w (FindP14 (l.find? fun y => decide (y.k = k)) w) := by
  have HR := Lib.hid hr
  have HN := Lib.hid hr.1
  have HWI := Lib.hid (fun v : Wn => (show (Try.prog.info? 33).map (·.size) = some (wnc v).length from sizeWant14))
  have HWL := Lib.hid (fun u v : Wn => (show (wnc u).length = (wnc v).length from rfl))
  have HWO := Lib.hid wnc_one
  obtain ⟨R, hR⟩ : ∃ R, l.find? (fun y => decide (y.k = k)) = R := ⟨_, rfl⟩
  rw [hR]
  have HRR := Lib.hid hR
  clear hr hR
  go_enter Try.func30, Try.ntmps30
  go_upto_region 1 with fail
  obtain ⟨b0, b1, bl⟩ := alloc2 w [.int .i64 k.tail, .int .i64 k.tun, .int .i64 k.head, .int .i64 k.lsp] [.int .u64 0, .int .i64 0, .int .i64 0, .int .u32 0, .int .u32 0, .int .u32 0] 23 33
  have HK := Lib.hid (show Blk _ _ _ (kyc k) from b0)
  have HQ := Lib.hid (show Blk _ _ _ (wnc zw14) from b1)
  have HL := Lib.hid bl
  clear b0 b1 bl
  generalize ((w.alloc (.cells #[.int .i64 k.tail, .int .i64 k.tun, .int .i64 k.head, .int .i64 k.lsp] 23)).alloc (.cells #[.int .u64 0, .int .i64 0, .int .i64 0, .int .u32 0, .int .u32 0, .int .u32 0] 33)) = w1 at *
  go_wp2_with fail
  go_loopw [10] (fun t W => ∃ i : Nat, i ≤ n ∧ t = .int .i64 (i : Int) ∧ (l.take i).find? (fun y => decide (y.k = k)) = none ∧ Below w1.heap.size w1 W) (fun t W => n - (intOf t).toNat)
  case atStart => exact ⟨0, by omega, rfl, rfl, Below.refl _ _⟩
  case round =>
    obtain ⟨i, hi, rfl, hnf, hbl⟩ := hrel
    have HNF := Lib.hid hnf
    have HBL := Lib.hid hbl
    clear hbl hnf
    by_cases hin : i < n
    · have i1 : (i : Int) < (n : Int) := by omega
      obtain ⟨b, o, y, rfl, hy, hb, hc⟩ := row_cells ent_length HR.out hin
      have hce := hc wr (HL.out.trans (HBL.out.mono HL.out.size))
      have HY := Lib.hid hy
      have y0 : wr.cell? ⟨b, o + i * 10, none⟩ = some (.int .i64 y.k.tail) := hce 0 _ rfl
      have y1 : wr.cell? ⟨b, o + i * 10 + 1, none⟩ = some (.int .i64 y.k.tun) := hce 1 _ rfl
      have y2 : wr.cell? ⟨b, o + i * 10 + 2, none⟩ = some (.int .i64 y.k.head) := hce 2 _ rfl
      have y3 : wr.cell? ⟨b, o + i * 10 + 3, none⟩ = some (.int .i64 y.k.lsp) := hce 3 _ rfl
      have y4 : wr.cell? ⟨b, o + i * 10 + 4, none⟩ = some (.int .u64 (y.w.bw : Int)) := hce 4 _ rfl
      have y5 : wr.cell? ⟨b, o + i * 10 + 5, none⟩ = some (.int .i64 y.w.su) := hce 5 _ rfl
      have y6 : wr.cell? ⟨b, o + i * 10 + 6, none⟩ = some (.int .i64 y.w.ho) := hce 6 _ rfl
      have y7 : wr.cell? ⟨b, o + i * 10 + 7, none⟩ = some (.int .u32 (y.w.an : Int)) := hce 7 _ rfl
      have y8 : wr.cell? ⟨b, o + i * 10 + 8, none⟩ = some (.int .u32 (y.w.al : Int)) := hce 8 _ rfl
      have y9 : wr.cell? ⟨b, o + i * 10 + 9, none⟩ = some (.int .u32 (y.w.no : Int)) := hce 9 _ rfl
      have HI := Lib.hid hin
      clear hy hb hc hce hin hi
      go_upto_region 4 with fail
      have XB := Lib.hid (show Blk (wr.alloc (.cells #[.int .i64 y.k.tail, .int .i64 y.k.tun, .int .i64 y.k.head, .int .i64 y.k.lsp, .int .u64 (y.w.bw : Int), .int .i64 y.w.su, .int .i64 y.w.ho, .int .u32 (y.w.an : Int), .int .u32 (y.w.al : Int), .int .u32 (y.w.no : Int)] 63)) wr.heap.size 63 (ent y) from Blk.new wr _ (ent y))
      have HB2 := Lib.hid (bel_new HBL.out (.cells #[.int .i64 y.k.tail, .int .i64 y.k.tun, .int .i64 y.k.head, .int .i64 y.k.lsp, .int .u64 (y.w.bw : Int), .int .i64 y.w.su, .int .i64 y.w.ho, .int .u32 (y.w.an : Int), .int .u32 (y.w.al : Int), .int .u32 (y.w.no : Int)] 63))
      clear y0 y1 y2 y3 y4 y5 y6 y7 y8 y9 HBL
      generalize wr.alloc (.cells #[.int .i64 y.k.tail, .int .i64 y.k.tun, .int .i64 y.k.head, .int .i64 y.k.lsp, .int .u64 (y.w.bw : Int), .int .i64 y.w.su, .int .i64 y.w.ho, .int .u32 (y.w.an : Int), .int .u32 (y.w.al : Int), .int .u32 (y.w.no : Int)] 63) = w2 at *
      generalize wr.heap.size = q at *
      have HK2 := Lib.hid (HK.out.below HB2.out)
      have HQ2 := Lib.hid (HQ.out.below HB2.out)
      have y0 : w2.cell? ⟨q, 0, none⟩ = some (.int .i64 y.k.tail) := XB.out.cell 0
      have y1 : w2.cell? ⟨q, 1, none⟩ = some (.int .i64 y.k.tun) := XB.out.cell 1
      have y2 : w2.cell? ⟨q, 2, none⟩ = some (.int .i64 y.k.head) := XB.out.cell 2
      have y3 : w2.cell? ⟨q, 3, none⟩ = some (.int .i64 y.k.lsp) := XB.out.cell 3
      have k0 : w2.cell? ⟨w.heap.size, 0, none⟩ = some (.int .i64 k.tail) := HK2.out.cell 0
      have k1 : w2.cell? ⟨w.heap.size, 1, none⟩ = some (.int .i64 k.tun) := HK2.out.cell 1
      have k2 : w2.cell? ⟨w.heap.size, 2, none⟩ = some (.int .i64 k.head) := HK2.out.cell 2
      have k3 : w2.cell? ⟨w.heap.size, 3, none⟩ = some (.int .i64 k.lsp) := HK2.out.cell 3
      have y4 : w2.cell? ⟨q, 4, none⟩ = some (.int .u64 (y.w.bw : Int)) := XB.out.cell 4
      have y5 : w2.cell? ⟨q, 5, none⟩ = some (.int .i64 y.w.su) := XB.out.cell 5
      have y6 : w2.cell? ⟨q, 6, none⟩ = some (.int .i64 y.w.ho) := XB.out.cell 6
      have y7 : w2.cell? ⟨q, 7, none⟩ = some (.int .u32 (y.w.an : Int)) := XB.out.cell 7
      have y8 : w2.cell? ⟨q, 8, none⟩ = some (.int .u32 (y.w.al : Int)) := XB.out.cell 8
      have y9 : w2.cell? ⟨q, 9, none⟩ = some (.int .u32 (y.w.no : Int)) := XB.out.cell 9
      obtain ⟨d, hd⟩ : ∃ d, decide (y.k = k) = d := ⟨_, rfl⟩
      have heq := fun W => (eq_ky y.k k W).1
      rw [hd] at heq
      have HD := Lib.hid hd
      clear hd
      cases d with
      | true =>
        go_wp2_with ((with_reducible refine step_store (o := ⟨none, _, _, _, _, _⟩) (vs := wnc y.w) (ty := 33) (x := .tmp 4) (y := .tmp 19) ?_ ?_ ?_ ?_ HQ2.out (HWI.out _) (HWL.out _ _) (HWO.out _) ?_); (rfl); (rfl); (rfl); (rfl); intro w3 hb3 hg3 hs3)
        refine bodyPost_ret (v := .tuple #[.agg (wnc y.w).toArray, .bool true]) (results_two8 rfl _ rfl hb3 Try.underlying33 rfl (HWI.out _) rfl) rfl ?_
        unfold FindP14
        rw [← HRR.out, find_hit14 HY.out HNF.out HD.out]
        exact ⟨rfl, bel_upd (HL.out.trans (HB2.out.mono HL.out.size)) hg3 (Nat.le_refl _) (by omega)⟩
      | false =>
        go_wp2_with fail
        go_roundw
        case rel => exact ⟨i + 1, by have := HI.out; omega, by first | rfl | (simp; omega), find_snoc14 HY.out HNF.out HD.out, HB2.out⟩
        case measure => have := HI.out; simp [intOf]; omega
    · obtain rfl : i = n := by omega
      have i1 : ¬ (i : Int) < (i : Int) := by omega
      have htk : l.take i = l := List.take_of_length_le (by rw [HN.out]; exact Nat.le_refl _)
      have hf := HNF.out
      rw [htk, HRR.out] at hf
      have HF := Lib.hid hf
      have HQ2 := Lib.hid (HQ.out.below HBL.out)
      clear hin hi hf htk
      go_wp2_with ((with_reducible refine step_store (o := ⟨none, _, _, _, _, _⟩) (vs := wnc zw14) (ty := 33) (x := .tmp 4) (y := .tmp 21) ?_ ?_ ?_ ?_ HQ2.out (HWI.out _) (HWL.out _ _) (HWO.out _) ?_); (rfl); (rfl); (rfl); (rfl); intro w3 hb3 hg3 hs3)
      refine bodyPost_ret (v := .tuple #[.agg (wnc zw14).toArray, .bool false]) (results_two8 rfl _ rfl hb3 Try.underlying33 rfl (HWI.out _) rfl) rfl ?_
      unfold FindP14
      rw [HF.out]
      exact ⟨rfl, bel_upd (HL.out.trans (HBL.out.mono HL.out.size)) hg3 (Nat.le_refl _) (by omega)⟩
end Go.Proofs.Ytnkoiageoenfeaa

namespace Go.Proofs.Ytnkoiageoenfeaa
set_option maxRecDepth 100000
set_option linter.unusedVariables false
open Go.RowKit

/-- The most, and whether none was met ahead of place i, among the first j. -/
def hmj (l : List Et) (x : Et) (j : Nat) : Nat := (l.take j).foldl (fun m y => if kKin x.k y.k = true then max m y.w.bw else m) x.w.bw
def hfj (l : List Et) (x : Et) (i j : Nat) : Bool := !((l.take j).take i).any fun y => kKin x.k y.k
theorem hmj_succ {l : List Et} {x y : Et} {j : Nat} (hy : l[j]? = some y) : hmj l x (j + 1) = if kKin x.k y.k = true then max (hmj l x j) y.w.bw else hmj l x j := by
  unfold hmj
  rw [take_snoc14 hy, List.foldl_append]
  rfl
theorem hfj_succ {l : List Et} {x y : Et} {i j : Nat} (hy : l[j]? = some y) : hfj l x i (j + 1) = if kKin x.k y.k = true then (hfj l x i j && decide (i ≤ j)) else hfj l x i j := by
  have hlen : (l.take j).length = j := by
    rw [List.length_take]
    have := (List.getElem?_eq_some_iff.1 hy).1
    omega
  unfold hfj
  rw [take_snoc14 hy]
  by_cases h : i ≤ j
  · rw [List.take_append_of_le_length (by rw [hlen]; exact h), decide_eq_true h, Bool.and_true]
    split <;> rfl
  · rw [List.take_of_length_le (by rw [List.length_append, hlen]; simp; omega), List.take_of_length_le (l := l.take j) (by rw [hlen]; omega), decide_eq_false h, Bool.and_false, List.any_append]
    cases h2 : kKin x.k y.k <;> simp [h2]
theorem hmj_all (l : List Et) (x : Et) : hmj l x l.length = hmost l x := by unfold hmj hmost; rw [List.take_length]
theorem hfj_all (l : List Et) (x : Et) (i : Nat) : hfj l x i l.length = hfirst l i x := by unfold hfj hfirst; rw [List.take_length]
set_option maxHeartbeats 6400000 in
theorem held14_calls (a : Option Addr) (n c : Nat) (l : List Et) (hbw : ∀ x ∈ l, x.w.bw < 18446744073709551616) (w : World) (hr : Row ent w w.heap.size a n l) (hn : n ≤ 1073741824) : Calls Try.prog 28 #[.slice a n c] w (Two13 (fsum (heldF l)) w) := by
  have HR := Lib.hid hr
  have HN := Lib.hid hr.1
  have HBW := Lib.hid hbw
  obtain ⟨T, hT⟩ : ∃ T, fsum (heldF l) = T := ⟨_, rfl⟩
  rw [hT]
  have HT := Lib.hid hT
  clear hr hbw hT
  go_enter Try.func28, Try.ntmps28
  go_wp2_with fail
  go_loopw [4, 15] (fun s t W => ∃ i : Nat, i ≤ n ∧ fsum (hpre l i) < 18446744073709551616 ∧ s = .int .u64 ((fsum (hpre l i) : Nat) : Int) ∧ t = .int .i64 (i : Int) ∧ Below w.heap.size w W) (fun s t W => n - (intOf t).toNat)
  case atStart => exact ⟨0, by omega, by unfold hpre; decide, rfl, rfl, Below.refl _ _⟩
  case round =>
    obtain ⟨i, hi, hfs, rfl, rfl, hbl⟩ := hrel
    have HBL := Lib.hid hbl
    have HFS := Lib.hid hfs
    clear hbl hfs
    by_cases hin : i < n
    · have i1 : (i : Int) < (n : Int) := by omega
      obtain ⟨b, o, x, rfl, hx, hb, hc⟩ := row_cells ent_length HR.out hin
      have hce := hc wr HBL.out
      have HX := Lib.hid hx
      have hpn := hpre_succ l i hx
      have HPN := Lib.hid hpn
      have hmb : hmost l x < 18446744073709551616 := by
        rcases (hmost_aux x.k l x.w.bw).2.2 with e | ⟨y, hy, _, e⟩
        · unfold hmost; rw [e]; exact HBW.out x (List.mem_of_getElem? hx)
        · unfold hmost; rw [← e]; exact HBW.out y hy
      have HMB := Lib.hid hmb
      have y0 : wr.cell? ⟨b, o + i * 10, none⟩ = some (.int .i64 x.k.tail) := hce 0 _ rfl
      have y1 : wr.cell? ⟨b, o + i * 10 + 1, none⟩ = some (.int .i64 x.k.tun) := hce 1 _ rfl
      have y2 : wr.cell? ⟨b, o + i * 10 + 2, none⟩ = some (.int .i64 x.k.head) := hce 2 _ rfl
      have y3 : wr.cell? ⟨b, o + i * 10 + 3, none⟩ = some (.int .i64 x.k.lsp) := hce 3 _ rfl
      have y4 : wr.cell? ⟨b, o + i * 10 + 4, none⟩ = some (.int .u64 (x.w.bw : Int)) := hce 4 _ rfl
      have y5 : wr.cell? ⟨b, o + i * 10 + 5, none⟩ = some (.int .i64 x.w.su) := hce 5 _ rfl
      have y6 : wr.cell? ⟨b, o + i * 10 + 6, none⟩ = some (.int .i64 x.w.ho) := hce 6 _ rfl
      have y7 : wr.cell? ⟨b, o + i * 10 + 7, none⟩ = some (.int .u32 (x.w.an : Int)) := hce 7 _ rfl
      have y8 : wr.cell? ⟨b, o + i * 10 + 8, none⟩ = some (.int .u32 (x.w.al : Int)) := hce 8 _ rfl
      have y9 : wr.cell? ⟨b, o + i * 10 + 9, none⟩ = some (.int .u32 (x.w.no : Int)) := hce 9 _ rfl
      have HI := Lib.hid hin
      clear hx hb hc hce hin hi hpn hmb
      go_upto_region 5 with fail
      have XB := Lib.hid (show Blk (wr.alloc (.cells #[.int .i64 x.k.tail, .int .i64 x.k.tun, .int .i64 x.k.head, .int .i64 x.k.lsp, .int .u64 (x.w.bw : Int), .int .i64 x.w.su, .int .i64 x.w.ho, .int .u32 (x.w.an : Int), .int .u32 (x.w.al : Int), .int .u32 (x.w.no : Int)] 63)) wr.heap.size 63 (ent x) from Blk.new wr _ (ent x))
      have HB2 := Lib.hid (bel_new HBL.out (.cells #[.int .i64 x.k.tail, .int .i64 x.k.tun, .int .i64 x.k.head, .int .i64 x.k.lsp, .int .u64 (x.w.bw : Int), .int .i64 x.w.su, .int .i64 x.w.ho, .int .u32 (x.w.an : Int), .int .u32 (x.w.al : Int), .int .u32 (x.w.no : Int)] 63))
      clear y0 y1 y2 y3 y4 y5 y6 y7 y8 y9 HBL
      generalize wr.alloc (.cells #[.int .i64 x.k.tail, .int .i64 x.k.tun, .int .i64 x.k.head, .int .i64 x.k.lsp, .int .u64 (x.w.bw : Int), .int .i64 x.w.su, .int .i64 x.w.ho, .int .u32 (x.w.an : Int), .int .u32 (x.w.al : Int), .int .u32 (x.w.no : Int)] 63) = w2 at *
      generalize wr.heap.size = q at *
      clear wr
      obtain ⟨S, hS⟩ : ∃ S, fsum (hpre l i) = S := ⟨_, rfl⟩
      rw [hS] at HFS
      have HSS := Lib.hid hS
      have y4 : w2.cell? ⟨q, 4, none⟩ = some (.int .u64 (x.w.bw : Int)) := XB.out.cell 4
      go_wp2_with fail
      clear y4 hS
      go_loopw [7, 8, 25] (fun s t u W => ∃ j : Nat, j ≤ n ∧ s = .int .u64 ((hmj l x j : Nat) : Int) ∧ t = .bool (hfj l x i j) ∧ u = .int .i64 (j : Int) ∧ Below w2.heap.size w2 W) (fun s t u W => n - (intOf u).toNat)
      case atStart => exact ⟨0, by omega, by unfold hmj; rfl, by unfold hfj; simp, rfl, Below.refl _ _⟩
      case round =>
        obtain ⟨j, hj, rfl, rfl, rfl, hbl⟩ := hrel
        have HBJ := Lib.hid hbl
        clear hbl
        obtain ⟨M, hM⟩ : ∃ M, hmj l x j = M := ⟨_, rfl⟩
        obtain ⟨ff, hff⟩ : ∃ ff, hfj l x i j = ff := ⟨_, rfl⟩
        rw [hM, hff]
        have HMM := Lib.hid hM
        have HFF := Lib.hid hff
        clear hM hff
        by_cases hjn : j < n
        · have j1 : (j : Int) < (n : Int) := by omega
          obtain ⟨b2, o2, y, e, hy, hb, hc⟩ := row_cells ent_length HR.out hjn
          injection e with e; injection e with eb eo
          subst eb; subst eo
          have hce := hc wr (HB2.out.trans (HBJ.out.mono HB2.out.size))
          have HY := Lib.hid hy
          have HMS := Lib.hid (hmj_succ (x := x) hy)
          have HFSS := Lib.hid (hfj_succ (x := x) (i := i) hy)
          have z0 : wr.cell? ⟨b, o + j * 10, none⟩ = some (.int .i64 y.k.tail) := hce 0 _ rfl
          have z1 : wr.cell? ⟨b, o + j * 10 + 1, none⟩ = some (.int .i64 y.k.tun) := hce 1 _ rfl
          have z2 : wr.cell? ⟨b, o + j * 10 + 2, none⟩ = some (.int .i64 y.k.head) := hce 2 _ rfl
          have z3 : wr.cell? ⟨b, o + j * 10 + 3, none⟩ = some (.int .i64 y.k.lsp) := hce 3 _ rfl
          have z4 : wr.cell? ⟨b, o + j * 10 + 4, none⟩ = some (.int .u64 (y.w.bw : Int)) := hce 4 _ rfl
          have z5 : wr.cell? ⟨b, o + j * 10 + 5, none⟩ = some (.int .i64 y.w.su) := hce 5 _ rfl
          have z6 : wr.cell? ⟨b, o + j * 10 + 6, none⟩ = some (.int .i64 y.w.ho) := hce 6 _ rfl
          have z7 : wr.cell? ⟨b, o + j * 10 + 7, none⟩ = some (.int .u32 (y.w.an : Int)) := hce 7 _ rfl
          have z8 : wr.cell? ⟨b, o + j * 10 + 8, none⟩ = some (.int .u32 (y.w.al : Int)) := hce 8 _ rfl
          have z9 : wr.cell? ⟨b, o + j * 10 + 9, none⟩ = some (.int .u32 (y.w.no : Int)) := hce 9 _ rfl
          have HJ := Lib.hid hjn
          clear hy hb hc hce hjn hj
          go_upto_region 9 with fail
          have YB := Lib.hid (show Blk (wr.alloc (.cells #[.int .i64 y.k.tail, .int .i64 y.k.tun, .int .i64 y.k.head, .int .i64 y.k.lsp, .int .u64 (y.w.bw : Int), .int .i64 y.w.su, .int .i64 y.w.ho, .int .u32 (y.w.an : Int), .int .u32 (y.w.al : Int), .int .u32 (y.w.no : Int)] 63)) wr.heap.size 63 (ent y) from Blk.new wr _ (ent y))
          have HB3 := Lib.hid (bel_new HBJ.out (.cells #[.int .i64 y.k.tail, .int .i64 y.k.tun, .int .i64 y.k.head, .int .i64 y.k.lsp, .int .u64 (y.w.bw : Int), .int .i64 y.w.su, .int .i64 y.w.ho, .int .u32 (y.w.an : Int), .int .u32 (y.w.al : Int), .int .u32 (y.w.no : Int)] 63))
          clear z0 z1 z2 z3 z4 z5 z6 z7 z8 z9 HBJ
          generalize wr.alloc (.cells #[.int .i64 y.k.tail, .int .i64 y.k.tun, .int .i64 y.k.head, .int .i64 y.k.lsp, .int .u64 (y.w.bw : Int), .int .i64 y.w.su, .int .i64 y.w.ho, .int .u32 (y.w.an : Int), .int .u32 (y.w.al : Int), .int .u32 (y.w.no : Int)] 63) = w3 at *
          generalize wr.heap.size = q2 at *
          have XB3 := Lib.hid (XB.out.below HB3.out)
          obtain ⟨d, hd⟩ : ∃ d, kKin x.k y.k = d := ⟨_, rfl⟩
          have hlc := rkin14_calls x.k y.k w3
          unfold Yes14 at hlc
          rw [hd] at hlc
          have HLC := Lib.hid hlc
          have HD := Lib.hid hd
          clear hlc hd
          have y0 : w3.cell? ⟨q, 0, none⟩ = some (.int .i64 x.k.tail) := XB3.out.cell 0
          have y1 : w3.cell? ⟨q, 1, none⟩ = some (.int .i64 x.k.tun) := XB3.out.cell 1
          have y2 : w3.cell? ⟨q, 2, none⟩ = some (.int .i64 x.k.head) := XB3.out.cell 2
          have y3 : w3.cell? ⟨q, 3, none⟩ = some (.int .i64 x.k.lsp) := XB3.out.cell 3
          have z0 : w3.cell? ⟨q2, 0, none⟩ = some (.int .i64 y.k.tail) := YB.out.cell 0
          have z1 : w3.cell? ⟨q2, 1, none⟩ = some (.int .i64 y.k.tun) := YB.out.cell 1
          have z2 : w3.cell? ⟨q2, 2, none⟩ = some (.int .i64 y.k.head) := YB.out.cell 2
          have z3 : w3.cell? ⟨q2, 3, none⟩ = some (.int .i64 y.k.lsp) := YB.out.cell 3
          go_wp2_with fail
          ((with_reducible refine HLC.out.mono ?_))
          rintro e w4 ⟨rfl, hb4⟩
          have YB4 := Lib.hid (YB.out.below hb4)
          have HB4 := Lib.hid (HB3.out.trans (hb4.mono HB3.out.size))
          clear y0 y1 y2 y3 z0 z1 z2 z3 hb4
          cases d with
          | false =>
            go_wp2_with fail
            go_roundw
            case rel => exact ⟨j + 1, by have := HJ.out; omega, by rw [HMS.out, HD.out, HMM.out]; rfl, by rw [HFSS.out, HD.out, HFF.out]; rfl, by first | rfl | (simp; omega), HB4.out⟩
            case measure => have := HJ.out; simp [intOf]; omega
          | true =>
            have z4 : w4.cell? ⟨q2, 4, none⟩ = some (.int .u64 (y.w.bw : Int)) := YB4.out.cell 4
            cases ff with
            | false =>
              go_wp2_with fail
              go_roundw
              case rel => exact ⟨j + 1, by have := HJ.out; omega, by rw [HMS.out, HD.out, HMM.out, if_pos rfl]; congr 1; split <;> omega, by rw [HFSS.out, HD.out, HFF.out]; rfl, by first | rfl | (simp; omega), HB4.out⟩
              case measure => have := HJ.out; simp [intOf]; omega
            | true =>
              go_wp2_with fail
              go_roundw
              case rel => exact ⟨j + 1, by have := HJ.out; omega, by rw [HMS.out, HD.out, HMM.out, if_pos rfl]; congr 1; split <;> omega, by rw [HFSS.out, HD.out, HFF.out]; simp, by first | rfl | (simp; omega), HB4.out⟩
              case measure => have := HJ.out; simp [intOf]; omega
        · obtain rfl : j = n := by omega
          have j1 : ¬ (j : Int) < (j : Int) := by omega
          have hm := HMM.out
          have hf := HFF.out
          rw [← HN.out] at hm hf
          rw [hmj_all] at hm
          rw [hfj_all] at hf
          have HM9 := Lib.hid hm
          have HF9 := Lib.hid hf
          have HL9 := Lib.hid (HB2.out.trans (HBJ.out.mono HB2.out.size))
          clear hm hf hjn hj
          cases ff with
          | false =>
            go_wp2_with fail
            go_roundw
            case rel => exact ⟨i + 1, by have := HI.out; omega, by rw [HPN.out, HF9.out, if_neg (by simp), HSS.out]; exact HFS.out, by rw [HPN.out, HF9.out, if_neg (by simp), HSS.out], by first | rfl | (simp; omega), HL9.out⟩
            case measure => have := HI.out; simp [intOf]; omega
          | true =>
            have hab := radd13_calls (fsum (hpre l i)) M (by rw [HSS.out]; exact HFS.out) (by rw [← HM9.out]; exact HMB.out) wr
            unfold aS at hab
            have hsn : fsum (hpre l (i + 1)) = fsum (hpre l i) + M := by
              rw [HPN.out, HF9.out, if_pos rfl, fsum_snoc, HM9.out]
            have HSN := Lib.hid hsn
            obtain ⟨C, hC⟩ : ∃ C, fsum (hpre l i) + M = C := ⟨_, rfl⟩
            rw [hC] at hab
            have HC := Lib.hid hC
            clear hsn hC
            by_cases hok : C < 18446744073709551616
            · rw [if_pos hok, decide_eq_true hok] at hab
              have HAB := Lib.hid hab
              have HOK := Lib.hid hok
              clear hab hok
              go_wp2_with fail
              ((with_reducible refine HAB.out.mono ?_))
              rintro e w5 ⟨rfl, rfl⟩
              go_wp2_with fail
              go_roundw
              case rel => exact ⟨i + 1, by have := HI.out; omega, by rw [HSN.out, HC.out]; exact HOK.out, by rw [HSN.out, HC.out], by first | rfl | (simp; omega), HL9.out⟩
              case measure => have := HI.out; simp [intOf]; omega
            · rw [if_neg hok, decide_eq_false hok] at hab
              have HAB := Lib.hid hab
              have HOK := Lib.hid hok
              clear hab hok
              go_wp2_with fail
              ((with_reducible refine HAB.out.mono ?_))
              rintro e w5 ⟨rfl, rfl⟩
              go_wp2_with fail
              refine bodyPost_ret (v := .tuple #[.int .u64 0, .bool false]) (by simp [results, Try.results28, go_sem]) rfl ?_
              have h1 : ¬ T < 18446744073709551616 := by
                have h2 := hpre_mono l (i := i + 1) (j := l.length) (by have := HI.out; have := HN.out; omega) (Nat.le_refl _)
                have h3 := HT.out
                unfold heldF at h3
                have h4 := HSN.out
                have h5 := HC.out
                have h6 := HOK.out
                omega
              unfold Two13 aS
              rw [if_neg h1, decide_eq_false h1]
              exact ⟨rfl, HL9.out⟩
    · obtain rfl : i = n := by omega
      have i1 : ¬ (i : Int) < (i : Int) := by omega
      have h3 := HT.out
      unfold heldF at h3
      rw [HN.out] at h3
      have hfs := HFS.out
      rw [h3] at hfs ⊢
      have HF9 := Lib.hid hfs
      clear hin hi h3 hfs
      go_wp2_with fail
      refine bodyPost_ret (v := .tuple #[.int .u64 (T : Int), .bool true]) (by simp [results, Try.results28, go_sem]) rfl ?_
      unfold Two13 aS
      rw [if_pos HF9.out, decide_eq_true HF9.out]
      exact ⟨rfl, HBL.out⟩
end Go.Proofs.Ytnkoiageoenfeaa
