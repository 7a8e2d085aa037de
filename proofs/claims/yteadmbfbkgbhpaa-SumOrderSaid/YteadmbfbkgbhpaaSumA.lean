/-
  Contracts of package sum: Add, even, Of, Right. Conditions: the bytes that come in read as a list of at most 2^46 bytes.
-/
import Derived.Test.YteadmbfbkgbhpaaSumM
import Derived.Test.YteadmbfbkgbhpaaOctF
import Derived.Test.YteadmbfbkgbhpaaAcc
import Derived.ArgAppend
namespace Go.Proofs.Yteadmbfbkgbhpaa
open Go.RowKit

theorem add_calls (a b : Nat) (w : World) (ha : a ≤ 65535) (hb : b ≤ 65535) :
    Calls Try.prog 10 #[.int .u16 (a : Int), .int .u16 (b : Int)] w fun e w' => e = .returned (.int .u16 ((oadd a b : Nat) : Int)) ∧ w = w' := by
  by_cases h : 65535 < a + b
  · have HO := Lib.hid (show oadd a b = a + b - 65535 by unfold oadd; rw [if_pos h])
    go_enter Try.func10, Try.ntmps10
    go_wp2
    go_ret
    refine ⟨?_, rfl⟩
    rw [HO.out]
    congr 2
    go_num
  · have HO := Lib.hid (show oadd a b = a + b by unfold oadd; rw [if_neg h])
    go_enter Try.func10, Try.ntmps10
    go_wp2
    go_ret
    refine ⟨?_, rfl⟩
    rw [HO.out]
    congr 2

theorem add_i (a b : Int) (w : World) (ha0 : 0 ≤ a) (ha : a ≤ 65535) (hb0 : 0 ≤ b) (hb : b ≤ 65535) :
    Calls Try.prog 10 #[.int .u16 a, .int .u16 b] w fun e w' => e = .returned (.int .u16 ((oadd a.toNat b.toNat : Nat) : Int)) ∧ w = w' := by
  have := add_calls a.toNat b.toNat w (by omega) (by omega)
  rwa [Int.toNat_of_nonneg ha0, Int.toNat_of_nonneg hb0] at this

/-- An append of one byte to bytes without spare room: the new bytes lie in a block of their own. -/
theorem full_push {w : World} {a : Option Addr} {n : Nat} {l : List UInt8} (h : Bts w w.heap.size a n l) (h0 : 0 < n) (x : UInt8) (hlen : n + 1 ≤ 140737488355328) (ty : TypeId) :
    ∃ A' c' w', (Builtin.append_ #[22, 22] ty #[.slice a n n, .slice (some ⟨w.heap.size, 0, none⟩) 1 1]).run Try.prog (w.alloc (.cells #[.int .u8 (x.toNat : Int)] 5)) = .ok (.slice A' (n + 1) c') w' ∧
      Acc w' w.heap.size A' c' (l ++ [x]) ∧ Below w.heap.size w w' := by
  have hn := h.1
  subst hn
  obtain ⟨i, hi, hzz⟩ := Option.map_eq_some_iff.1 (show (Try.prog.info? 5).map (fun i => (i.zero, i.size, i.bytes)) = some (some (.int .u8 0), 1, 1) by kernel_rfl)
  simp only [Prod.mk.injEq] at hzz
  obtain ⟨hz, hsz, hby⟩ := hzz
  obtain ⟨b, o, rfl, _, hc⟩ := (h.keep (w' := w.alloc (.cells #[.int .u8 (x.toNat : Int)] 5)) fun b hb => Below.heap_alloc _ _ _ hb).2 h0
  have ho : Own (w.alloc (.cells #[.int .u8 (x.toNat : Int)] 5)) w.heap.size [x] := heap_alloc_new w _
  obtain ⟨v', w', hrun, h2, h3⟩ := run_append_arg_grows (P := Try.prog) (w.alloc (.cells #[.int .u8 (x.toNat : Int)] 5)) 22 ty 5 i (.int .u8 0) 1 1 Try.underlying22 hi hz hsz hby rfl (by omega)
    ⟨b, o, none⟩ l.length l.length (l.map bv) (by simp)
    (fun j u hu => by
      have hj : j < l.length := by
        rcases Nat.lt_or_ge j l.length with h | h
        · exact h
        · rw [List.getElem?_eq_none (by simpa using h)] at hu; cases hu
      rw [add_plain, hc j hj]
      simpa [hj] using hu)
    ⟨w.heap.size, 0, none⟩ 1 1 [bv x] (by simp)
    (fun j u hu => by
      have hj : j = 0 := by
        rcases Nat.eq_zero_or_pos j with h | h
        · exact h
        · rw [List.getElem?_eq_none (by simp; omega)] at hu; cases hu
      subst hj
      rw [add_plain, ho.cell 0 (by simp)]
      simpa using hu)
    (by omega) (by unfold maxLen; omega) (by omega)
  have ho' : w'.ownsRow (w.alloc (.cells #[.int .u8 (x.toNat : Int)] 5)).heap.size 5 1 v' (l ++ [x]).length ((l ++ [x]).map bv) := by
    rw [List.map_append, List.length_append]; exact h2
  rcases h2.2 with ⟨_, h0'⟩ | ⟨g, cap, cur, rfl, _⟩
  · omega
  · refine ⟨_, cap, w', hrun, ?_, ⟨h3.os, h3.tape, h3.output, Nat.le_trans (by simp) h3.size, fun i hi => (h3.block i (by simp; omega) (by simp)).trans (Below.heap_alloc _ _ _ hi)⟩⟩
    refine Acc.lower (base := (w.alloc (.cells #[.int .u8 (x.toNat : Int)] 5)).heap.size) ?_ (by simp)
    unfold Acc
    rw [List.length_append]; rw [List.length_append] at ho'; exact ho'

def EvenPost (w : World) (l : List UInt8) (e : Ending) (w' : World) : Prop :=
  ∃ a c, e = .returned (.slice a (ev l).length c) ∧ Bts w' w'.heap.size a (ev l).length (ev l) ∧ Below w.heap.size w w'

theorem even_calls (a : Option Addr) (n c : Nat) (l : List UInt8) (w : World) (h : Bts w w.heap.size a n l) (hlen : n ≤ 70368744177664) (hc : n ≤ c) :
    Calls Try.prog 18 #[.slice a n c] w (EvenPost w l) := by
  have hn := h.1
  have HB := Lib.hid h
  by_cases he : n % 2 = 0
  · have HE := Lib.hid (show ev l = l by unfold ev; rw [if_pos (by omega)])
    have hm : ((n : Int) % 2 == 0) = true := by simp; omega
    clear h hn
    go_enter Try.func18, Try.ntmps18
    go_wp2
    go_ret
    refine ⟨a, c, ?_, ?_, Below.refl _ _⟩
    · rw [HE.out, HB.out.1]; rfl
    · rw [HE.out, HB.out.1]; exact HB.out
  · have HE := Lib.hid (show ev l = l ++ [0] by unfold ev; rw [if_neg (by omega)])
    have hm : ((n : Int) % 2 == 0) = false := by simp; omega
    obtain ⟨A, c', w', hr, hacc, hb⟩ := full_push h (by omega) 0 (by omega) 22
    have HR := Lib.hid hr
    have HA := Lib.hid hacc
    have HBL := Lib.hid hb
    clear h hn hr hacc hb
    go_enter Try.func18, Try.ntmps18
    go_wp2_with (at_builtin; refine step_append rfl rfl rfl rfl HR.out ?_)
    go_ret
    have hl : (l ++ [(0 : UInt8)]).length = n + 1 := by rw [List.length_append, HB.out.1]; rfl
    refine ⟨A, c', ?_, ?_, HBL.out⟩
    · rw [HE.out, hl]; rfl
    · rw [HE.out]; exact HA.out.bts
end Go.Proofs.Yteadmbfbkgbhpaa
