/-
  The laws' own helpers of layer 14: like entries, like keys (same, Keys). Condition: fewer than a thousand million.
  The laws' own helpers of layer 14: find, held. Condition: fewer than a thousand million; numbers of 64 bits.
  The laws' own helper of layer 14: what entries hold by going through all of them (held). Condition: fewer than a thousand million; numbers of 64 bits.
-/
import Derived.Test.YtogijfebfffobaaAdmAH
import Derived.Test.YtogijfebfffobaaGroupMC
import Derived.Test.YtogijfebfffobaaLedgMK
namespace Go.Proofs.Ytogijfebfffobaa
set_option maxRecDepth 100000
set_option linter.unusedVariables false
open Go.RowKit

theorem ne_selfK14 (y : Ky) (w : World) : (binOp .neq 30 (.agg (kyc y).toArray) (.agg (kyc y).toArray)).run Try.prog w = .ok (.bool (!true)) w :=
  (eql_E (xs := kyc y) (ys := kyc y) (la := kyc y) (lb := kyc y) (m := 5) (D := 5) (by decide) (by kernel_rfl) (by rfl) (by rfl) (by rfl) (by rfl) w true (by simp)).2


set_option maxHeartbeats 3200000 in
theorem keys14_calls (a a2 : Option Addr) (n c c2 : Nat) (l : List Ky) (w : World) (hr : Row kyc w w.heap.size a n l) (hr2 : Row kyc w w.heap.size a2 n l) (hn : n ≤ 1073741824) : Calls Try.prog 24 #[.slice a n c, .slice a2 n c2] w (Yes14 true w) := by
  have HR := Lib.hid hr
  have HR2 := Lib.hid hr2
  have hne : ((n : Int) != (n : Int)) = false := by simp
  unfold Yes14
  clear hr hr2
  go_enter Try.func24, Try.ntmps24
  go_wp2_with fail
  go_loopw [13] (fun t W => ∃ i : Nat, i ≤ n ∧ t = .int .i64 (i : Int) ∧ Below w.heap.size w W) (fun t W => n - (intOf t).toNat)
  case atStart => exact ⟨0, by omega, rfl, Below.refl _ _⟩
  case round =>
    obtain ⟨i, hi, rfl, hbl⟩ := hrel
    have HBL := Lib.hid hbl
    clear hbl
    by_cases hin : i < n
    · have i1 : (i : Int) < (n : Int) := by omega
      obtain ⟨b, o, y, rfl, hy, hb, hc⟩ := row_cells kyc_length HR.out hin
      obtain ⟨b2, o2, y2, rfl, hy2, hb2, hc2⟩ := row_cells kyc_length HR2.out hin
      obtain rfl : y2 = y := by rw [hy] at hy2; injection hy2 with e; exact e.symm
      have HCS := Lib.hid (show ∀ W, Below wr.heap.size wr W → (W.cell? ⟨b, o + i * 4, none⟩ = some (.int .i64 y2.tail) ∧ W.cell? ⟨b, o + i * 4 + 1, none⟩ = some (.int .i64 y2.tun) ∧ W.cell? ⟨b, o + i * 4 + 2, none⟩ = some (.int .i64 y2.head) ∧ W.cell? ⟨b, o + i * 4 + 3, none⟩ = some (.int .i64 y2.lsp)) ∧ (W.cell? ⟨b2, o2 + i * 4, none⟩ = some (.int .i64 y2.tail) ∧ W.cell? ⟨b2, o2 + i * 4 + 1, none⟩ = some (.int .i64 y2.tun) ∧ W.cell? ⟨b2, o2 + i * 4 + 2, none⟩ = some (.int .i64 y2.head) ∧ W.cell? ⟨b2, o2 + i * 4 + 3, none⟩ = some (.int .i64 y2.lsp)) from fun W hW => by
        have h1 := hc W (HBL.out.trans (hW.mono HBL.out.size))
        have h2 := hc2 W (HBL.out.trans (hW.mono HBL.out.size))
        exact ⟨⟨h1 0 _ rfl, h1 1 _ rfl, h1 2 _ rfl, h1 3 _ rfl⟩, h2 0 _ rfl, h2 1 _ rfl, h2 2 _ rfl, h2 3 _ rfl⟩)
      have HNE := Lib.hid (ne_selfK14 y2)
      have HI := Lib.hid hin
      clear hy hy2 hb hb2 hc hc2 hin hi
      go_wp2_with fail
      refine region_seq (fun W => Below wr.heap.size wr W) [(0, true), (1, true), (2, true), (3, true), (4, true), (5, true), (6, true), (7, true), (8, true)] (by kernel_rfl) (by kernel_rfl) (by kernel_rfl) (by kernel_rfl) (fun _ _ _ _ _ h => h) (Below.refl _ _).drew ?_
      repeat first
        | refine seq_neA (xs := kyc y2) (ys := kyc y2) (c := !true) rfl (by rfl) rfl rfl rfl (by kernel_rfl) HNE.out ?_
          simp only [Act.put, List.setIfInBounds_toArray, List.set_cons_zero, List.set_cons_succ]
        | refine seq_pure (v := ?_) rfl (by rfl) (fun W hW => ?_) ?_
          rotate_left
          · obtain ⟨⟨c0, c1, c2, c3⟩, d0, d1, d2, d3⟩ := HCS.out W hW
            clear hW
            go_simp
            with_reducible rfl
          simp only [Act.put, List.setIfInBounds_toArray, List.set_cons_zero, List.set_cons_succ]
      refine seq_done ?_
      simp only [Bool.not_true]
      go_wp2_with fail
      go_roundw
      case rel => exact ⟨i + 1, by have := HI.out; omega, by first | rfl | (simp; omega), HBL.out.drew⟩
      case measure => have := HI.out; simp [intOf]; omega
    · have i1 : ¬ (i : Int) < (n : Int) := by omega
      clear hin hi
      go_wp2_with fail
      go_ret
      exact ⟨rfl, HBL.out⟩


end Go.Proofs.Ytogijfebfffobaa

namespace Go.Proofs.Ytogijfebfffobaa
set_option maxRecDepth 100000
set_option linter.unusedVariables false
open Go.RowKit

def zw14 : Wn := ⟨0, 0, 0, 0, 0, 0⟩
theorem wnc_one (v : Wn) : ∀ u ∈ wnc v, u.oneCell' = true := by intro u hu; simp [wnc] at hu; rcases hu with rfl | rfl | rfl | rfl | rfl | rfl <;> rfl
theorem sizeWant14 : (Try.prog.info? 34).map (·.size) = some 6 := by kernel_rfl
def FindP14 (r : Option Et) (w : World) (e : Ending) (w' : World) : Prop := e = .returned (.tuple #[.agg (wnc (r.elim zw14 (·.w))).toArray, .bool r.isSome]) ∧ Below w.heap.size w w'
theorem find_snoc14 {l : List Et} {i : Nat} {y : Et} {k : Ky} (hy : l[i]? = some y) (h : (l.take i).find? (fun y => decide (y.k = k)) = none) (hk : decide (y.k = k) = false) : (l.take (i + 1)).find? (fun y => decide (y.k = k)) = none := by
  rw [take_snoc14 hy, List.find?_append, h]
  simp [hk]
theorem find_hit14 {l : List Et} {i : Nat} {y : Et} {k : Ky} (hy : l[i]? = some y) (h : (l.take i).find? (fun y => decide (y.k = k)) = none) (hk : decide (y.k = k) = true) : l.find? (fun y => decide (y.k = k)) = some y := by
  have h2 : l.take (i + 1) ++ l.drop (i + 1) = l := List.take_append_drop _ _
  rw [← h2, List.find?_append, take_snoc14 hy, List.find?_append, h]
  simp [hk]
end Go.Proofs.Ytogijfebfffobaa

namespace Go.Proofs.Ytogijfebfffobaa
set_option maxRecDepth 100000
set_option linter.unusedVariables false
open Go.RowKit

/-- The most, and whether none was met ahead of place i, among the first j. -/
def hmj (l : List Et) (x : Et) (j : Nat) : Nat := (l.take j).foldl (fun m y => if kKin x.k y.k = true then max m y.w.bw else m) x.w.bw
def hfj (l : List Et) (x : Et) (i j : Nat) : Bool := !((l.take j).take i).any fun y => kKin x.k y.k
theorem hmj_succ {l : List Et} {x y : Et} {j : Nat} (hy : l[j]? = some y) : hmj l x (j + 1) = if kKin x.k y.k = true then max (hmj l x j) y.w.bw else hmj l x j := by
  unfold hmj
  rw [take_snoc14 hy, List.foldl_append]
  rfl
theorem hfj_succ {l : List Et} {x y : Et} {i j : Nat} (hy : l[j]? = some y) : hfj l x i (j + 1) = if kKin x.k y.k = true then (hfj l x i j && decide (i ≤ j)) else hfj l x i j := by
  have hlen : (l.take j).length = j := by
    rw [List.length_take]
    have := (List.getElem?_eq_some_iff.1 hy).1
    omega
  unfold hfj
  rw [take_snoc14 hy]
  by_cases h : i ≤ j
  · rw [List.take_append_of_le_length (by rw [hlen]; exact h), decide_eq_true h, Bool.and_true]
    split <;> rfl
  · rw [List.take_of_length_le (by rw [List.length_append, hlen]; simp; omega), List.take_of_length_le (l := l.take j) (by rw [hlen]; omega), decide_eq_false h, Bool.and_false, List.any_append]
    cases h2 : kKin x.k y.k <;> simp [h2]
theorem hmj_all (l : List Et) (x : Et) : hmj l x l.length = hmost l x := by unfold hmj hmost; rw [List.take_length]
theorem hfj_all (l : List Et) (x : Et) (i : Nat) : hfj l x i l.length = hfirst l i x := by unfold hfj hfirst; rw [List.take_length]
end Go.Proofs.Ytogijfebfffobaa
