/-
  Contracts of package soft: a state in memory; within, label, different, leads, May, own. Condition: what comes in reads as a list.
-/
import Derived.Test.YtogijfebfffobaaSofM
import Derived.Test.YtogijfebfffobaaAdcKD
import Derived.Test.YtogijfebfffobaaAdcEG
import Derived.Test.YtogijfebfffobaaGroupMC
import Derived.Deep.CutBlock
namespace Go.Proofs.Ytogijfebfffobaa
set_option maxRecDepth 100000
set_option linter.unusedVariables false
open Go.RowKit

/-- A state as it lies: what it says, and its route's slice. -/
structure Ss where
  p : Sp
  a : Option Addr
  n : Nat
  c : Nat
def ssc (s : Ss) : List Value := [.int .i64 s.p.k.tail, .int .i64 s.p.k.tun, .int .i64 s.p.k.head, .int .i64 s.p.k.lsp, .int .u64 (s.p.w.bw : Int), .int .i64 s.p.w.su, .int .i64 s.p.w.ho, .int .u32 (s.p.w.an : Int), .int .u32 (s.p.w.al : Int), .int .u32 (s.p.w.no : Int), .slice s.a s.n s.c, .int .i64 s.p.ix, .int .i64 s.p.un, .int .i64 s.p.ib, .int .i64 s.p.ob, .int .i64 s.p.kp, .int .i64 s.p.sn]
theorem ssc_length (s : Ss) : (ssc s).length = 17 := rfl
theorem ssc_one (s : Ss) : ∀ u ∈ ssc s, u.oneCell' = true := by
  intro u hu; simp only [ssc, List.mem_cons, List.not_mem_nil, or_false] at hu
  rcases hu with rfl | rfl | rfl | rfl | rfl | rfl | rfl | rfl | rfl | rfl | rfl | rfl | rfl | rfl | rfl | rfl | rfl <;> rfl
theorem infoSsC : (Try.prog.info? 40).map (·.size) = some 17 := by kernel_rfl
theorem infoSsR : (Try.prog.info? 37).map (·.size) = some 17 := by kernel_rfl
def zss : Value := .agg #[.int .i64 0, .int .i64 0, .int .i64 0, .int .i64 0, .int .u64 0, .int .i64 0, .int .i64 0, .int .u32 0, .int .u32 0, .int .u32 0, .slice none 0 0, .int .i64 0, .int .i64 0, .int .i64 0, .int .i64 0, .int .i64 0, .int .i64 0]
theorem infoSsZC : (Try.prog.info? 40).map (fun i => (i.zero, i.size, i.bytes)) = some (some zss, 17, 144) := by kernel_rfl
theorem infoSsZR : (Try.prog.info? 37).map (fun i => (i.zero, i.size, i.bytes)) = some (some zss, 17, 144) := by kernel_rfl
def z18 : Ss := ⟨⟨⟨0, 0, 0, 0⟩, ⟨0, 0, 0, 0, 0, 0⟩, [], 0, 0, 0, 0, 0, 0⟩, none, 0, 0⟩

theorem within18_calls (n lo hi : Int) (w : World) : Calls Try.prog 32 #[.int .i64 n, .int .i64 lo, .int .i64 hi] w fun e w' => e = .returned (.bool (w18 n lo hi)) ∧ w' = w := by
  obtain ⟨b, hb⟩ : ∃ b, decide (n ≤ hi) = b := ⟨_, rfl⟩
  unfold w18
  rw [hb]
  by_cases h1 : lo ≤ n
  · have HB := Lib.hid hb
    rw [decide_eq_true h1, Bool.true_and]
    by_cases h2 : n ≤ hi
    · have : b = true := by rw [← hb]; exact decide_eq_true h2
      subst this
      clear hb HB
      go_enter Try.func32, Try.ntmps32
      go_wp2_with fail
      go_ret
      exact ⟨rfl, rfl⟩
    · have : b = false := by rw [← hb]; exact decide_eq_false h2
      subst this
      clear hb HB
      go_enter Try.func32, Try.ntmps32
      go_wp2_with fail
      go_ret
      exact ⟨rfl, rfl⟩
  · rw [decide_eq_false h1, Bool.false_and]
    clear hb
    go_enter Try.func32, Try.ntmps32
    go_wp2_with fail
    go_ret
    exact ⟨rfl, rfl⟩
theorem label18_calls (n : Int) (w : World) : Calls Try.prog 39 #[.int .i64 n] w fun e w' => e = .returned (.bool (lab18 n)) ∧ w' = w := by
  have HW := Lib.hid (within18_calls n 16 1048575 w)
  obtain ⟨b, hb⟩ : ∃ b, lab18 n = b := ⟨_, rfl⟩
  rw [hb]
  have HB := Lib.hid hb
  clear hb
  by_cases h0 : n = 0
  · subst h0
    have : b = true := HB.out.symm
    subst this
    have q : ((0 : Int) == 0) = true := by simp
    go_enter Try.func39, Try.ntmps39
    go_wp2_with fail
    go_ret
    exact ⟨rfl, rfl⟩
  · have q0 : (n == 0) = false := by simp [h0]
    by_cases h3 : n = 3
    · subst h3
      have : b = true := HB.out.symm
      subst this
      have q : ((3 : Int) == 3) = true := by simp
      clear h0
      go_enter Try.func39, Try.ntmps39
      go_wp2_with fail
      go_ret
      exact ⟨rfl, rfl⟩
    · have q1 : (n == 3) = false := by simp [h3]
      have hv : w18 n 16 1048575 = b := by rw [← HB.out]; unfold lab18; rw [q0, q1]; rfl
      rw [hv] at HW
      clear h0 h3 hv
      go_enter Try.func39, Try.ntmps39
      go_wp2_with fail
      ((with_reducible refine HW.out.mono ?_))
      rintro e w2 ⟨rfl, rfl⟩
      go_wp2_with fail
      go_ret
      exact ⟨rfl, rfl⟩

theorem Row.drewS18 {α : Type} {enc : α → List Value} {w : World} {n : Nat} {a : Option Addr} {l : List α} (h : Row enc w w.heap.size a n l) : Row enc w.drew w.drew.heap.size a n l := h
/-- Which nodes were met. -/
def met18 (l : List Int) : List Value := (List.range 16).map fun j : Nat => .bool (decide ((j : Int) ∈ l))
theorem met18_length (l : List Int) : (met18 l).length = 16 := by unfold met18; simp
theorem met18_get (l : List Int) {j : Nat} (hj : j < 16) : (met18 l)[j]? = some (.bool (decide ((j : Int) ∈ l))) := by
  unfold met18
  rw [List.getElem?_map, List.getElem?_range hj]; rfl
theorem met18_set (l : List Int) {j : Nat} (hj : j < 16) : (met18 l).set j (.bool true) = met18 (l ++ [(j : Int)]) := by
  apply List.ext_getElem?
  intro i
  rw [List.getElem?_set]
  by_cases hi : i < 16
  · rw [met18_get _ hi]
    by_cases hji : j = i
    · subst hji
      rw [if_pos rfl, if_pos (by rw [met18_length]; exact hi), met18_get _ hi, decide_eq_true (List.mem_append_right l (List.mem_singleton.2 rfl))]
    · rw [if_neg hji, met18_get _ hi]
      have hne : (i : Int) ≠ (j : Int) := by omega
      have hm : ((i : Int) ∈ l ++ [(j : Int)]) ↔ (i : Int) ∈ l := by simp only [List.mem_append, List.mem_singleton, hne, or_false]
      simp only [hm]
  · have h1 : (met18 (l ++ [(j : Int)]))[i]? = none := List.getElem?_eq_none (by rw [met18_length]; omega)
    have h2 : (met18 l)[i]? = none := List.getElem?_eq_none (by rw [met18_length]; omega)
    rw [h1, h2]
    split
    · rw [if_neg (by rw [met18_length]; omega)]
    · rfl
theorem row_at18 {w : World} {B n : Nat} {a : Option Addr} {l : List Int} (h : Row ei w B a n l) {j : Nat} (hj : j < n) : ∃ b o x, a = some ⟨b, o, none⟩ ∧ l[j]? = some x ∧ b < B ∧ ∀ W, Below B w W → W.cell? ⟨b, o + j, none⟩ = some (.int .i64 x) := by
  obtain ⟨b, o, x, rfl, hx, hb, hc⟩ := row_cells ei_length h hj
  refine ⟨b, o, x, rfl, hx, hb, fun W hW => ?_⟩
  have := hc W hW 0 _ rfl
  rwa [Nat.mul_one] at this
set_option maxHeartbeats 1600000 in
theorem different18_calls (a : Option Addr) (n c : Nat) (l : List Int) (w : World) (h : Row ei w w.heap.size a n l) (hn : n ≤ maxLen) :
    Calls Try.prog 55 #[.slice a n c] w (Yes14 (dif18 l) w) := by
  unfold maxLen at hn
  unfold Yes14
  have bz := bel_new (Below.refl w.heap.size w) (.cells #[.bool false, .bool false, .bool false, .bool false, .bool false, .bool false, .bool false, .bool false, .bool false, .bool false, .bool false, .bool false, .bool false, .bool false, .bool false, .bool false] 95)
  have BZ := Lib.hid (show Blk (w.alloc (.cells #[.bool false, .bool false, .bool false, .bool false, .bool false, .bool false, .bool false, .bool false, .bool false, .bool false, .bool false, .bool false, .bool false, .bool false, .bool false, .bool false] 95)) w.heap.size 95 (met18 []) from Blk.new w _ (met18 []))
  have HL := Lib.hid bz
  have HR := Lib.hid h
  have HN := Lib.hid hn
  clear h bz
  go_enter Try.func55, Try.ntmps55
  go_upto_region 2 with fail
  generalize (w.alloc (.cells #[.bool false, .bool false, .bool false, .bool false, .bool false, .bool false, .bool false, .bool false, .bool false, .bool false, .bool false, .bool false, .bool false, .bool false, .bool false, .bool false] 95)) = w1 at *
  go_wp2_with fail
  go_loopw [8] (fun u W => ∃ i : Nat, i ≤ n ∧ u = .int .i64 (i : Int) ∧ Hid (dif18 (l.take i) = true) ∧ Hid (Blk W w.heap.size 95 (met18 (l.take i))) ∧ Hid (Below w.heap.size w W)) (fun u W => n - (intOf u).toNat)
  case atStart => exact ⟨0, Nat.zero_le _, rfl, Lib.hid (by rw [List.take_zero]; rfl), BZ, HL⟩
  case round =>
    clear BZ HL
    obtain ⟨i, hi, rfl, HD, BZ, HL⟩ := hrel
    by_cases hin : i < n
    · have i1 : (i : Int) < (n : Int) := by omega
      obtain ⟨b, o, x, rfl, hx, hb, hc⟩ := row_at18 HR.out hin
      have z0 : wr.cell? ⟨b, o + i, none⟩ = some (.int .i64 x) := hc wr HL.out
      have HX := Lib.hid hx
      have HI := Lib.hid hin
      have HW := Lib.hid (within18_calls x 0 15)
      clear hx hb hc hin hi
      go_wp2_with fail
      ((with_reducible refine (HW.out _).mono ?_))
      rintro e w2 ⟨rfl, rfl⟩
      cases hv : w18 x 0 15 with
      | false =>
        have HF := Lib.hid (show dif18 l = false from dif18_front (i := i + 1) (by rw [List.take_add_one, HX.out]; simp only [Option.toList]; rw [dif18_snoc]; unfold nod18; rw [hv]; simp))
        clear hv HW z0
        go_wp2_with fail
        go_ret
        exact ⟨by rw [HF.out]; rfl, HL.out⟩
      | true =>
        obtain ⟨h0, h15⟩ := w18_iff.1 hv
        obtain ⟨j, rfl⟩ := Int.eq_ofNat_of_zero_le h0
        have hj : j < 16 := by omega
        have HV := Lib.hid hv
        have HJ := Lib.hid hj
        obtain ⟨d, hd⟩ : ∃ d, decide ((j : Int) ∈ l.take i) = d := ⟨_, rfl⟩
        have y0 : w2.cell? ⟨w.heap.size, j, none⟩ = some (.bool d) := by rw [← hd, BZ.out.cell j, met18_get _ hj]
        have yf := BZ.out.free j
        have j0 : ¬ (j : Int) < 0 := by omega
        have j1 : (j : Int) < 16 := by omega
        have HDD := Lib.hid hd
        clear hv h0 h15 hj hd HW z0
        cases d with
        | true =>
          have HF := Lib.hid (show dif18 l = false from dif18_front (i := i + 1) (by rw [List.take_add_one, HX.out]; simp only [Option.toList]; rw [dif18_snoc, HDD.out]; simp))
          clear HDD
          go_wp2_with fail
          go_ret
          exact ⟨by rw [HF.out]; rfl, HL.out⟩
        | false =>
          have HT := Lib.hid (show dif18 (l.take (i + 1)) = true by rw [List.take_add_one, HX.out]; simp only [Option.toList]; rw [dif18_snoc, HDD.out, HD.out]; unfold nod18; rw [HV.out]; rfl)
          have hs := BZ.out.set j (.bool true)
          rw [met18_set _ HJ.out] at hs
          have HS := Lib.hid (show Blk (w2.setCell ⟨w.heap.size, j, none⟩ (.bool true)) w.heap.size 95 (met18 (l.take (i + 1))) by rw [List.take_add_one, HX.out]; exact hs)
          have HLS := Lib.hid (show Below w.heap.size w (w2.setCell ⟨w.heap.size, j, none⟩ (.bool true)) from bel_upd HL.out (upd_set_p _ _ _ _) (Nat.le_refl _) (Nat.le_refl _))
          clear hs HDD HV
          go_wp2_with fail
          go_roundw
          case rel => exact ⟨i + 1, HI.out, by first | rfl | (simp; omega), HT, HS, HLS⟩
          case measure => have := HI.out; simp [intOf]; omega
    · obtain rfl : i = n := by omega
      have i1 : ¬ (i : Int) < (i : Int) := by omega
      have hf : dif18 l = true := by
        have := HD.out
        rwa [List.take_of_length_le (by rw [HR.out.1]; exact Nat.le_refl _)] at this
      have HF := Lib.hid hf
      clear hin hi hf
      go_wp2_with fail
      go_ret
      exact ⟨by rw [HF.out]; rfl, HL.out⟩
end Go.Proofs.Ytogijfebfffobaa
