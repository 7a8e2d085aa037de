/-
  Contracts of object.Size and object.Encode. Condition: the objects that come in, and their bodies, read as lists.
-/
import Derived.Test.YtnmcfgoikffopaaObjA
namespace Go.Proofs.Ytnmcfgoikffopaa
open Go.RowKit

def SizePost (w : World) (os : List (Int × Int × List UInt8)) (e : Ending) (w' : World) : Prop :=
  e = .returned (.tuple #[.int .i64 ((oEnc os).length : Nat), .int .i64 (oErr os)]) ∧ Below w.heap.size w w'
theorem sizePost_no {w w' : World} {os : List (Int × Int × List UInt8)} {e : Ending} {err : Int} (h : oErr os = err) (h0 : err ≠ 0) (he : e = .returned (.tuple #[.int .i64 0, .int .i64 err])) (hb : Below w.heap.size w w') : SizePost w os e w' := by
  have hr : oEnc os = [] := oEnc_no (by rw [h]; exact h0)
  exact ⟨by rw [hr, h, he]; rfl, hb⟩

theorem size_big (a : Option Addr) (n c : Nat) (os : List (Int × Int × List UInt8)) (w : World) (hl : os.length = n) (hn : 32 < n) (hm : n ≤ maxLen) :
    Calls Try.prog 11 #[.slice a n c] w (SizePost w os) := by
  unfold maxLen at hm
  have HL := Lib.hid hl
  clear hl
  go_enter Try.func11, Try.ntmps11
  go_wp2
  go_ret2
  exact sizePost_no (oErr_big (by rw [HL.out]; exact hn)) (by omega) rfl (Below.refl _ _)

set_option maxHeartbeats 800000 in
theorem size_ok (a : Option Addr) (n c : Nat) (qs : List Ob) (w : World) (h : Objs w w.heap.size a n qs) (hn : n ≤ 32) :
    Calls Try.prog 11 #[.slice a n c] w (SizePost w (vals qs)) := by
  have HR := Lib.hid h
  have HL := Lib.hid h.len
  clear h
  go_enter Try.func11, Try.ntmps11
  go_wp2
  go_loopw [4, 12] (fun t i W => ∃ j s : Nat, j ≤ n ∧ i = .int .i64 (j : Int) ∧ t = .int .i64 (s : Int) ∧ s ≤ 4100 * j ∧ Hid (s = (obsL (vals (qs.take j))).length) ∧ (∀ o ∈ vals (qs.take j), mayO o = true) ∧ Below w.heap.size w W) (fun _ i _ => n - (intOf i).toNat)
  case atStart => exact ⟨0, 0, Nat.zero_le _, rfl, rfl, by omega, by exact rfl, by simp [vals], Below.refl _ _⟩
  case round =>
    obtain ⟨j, s, hj, rfl, rfl, hs, HS, hM, hbel⟩ := hrel
    have HM := Lib.hid hM
    have HBel := Lib.hid hbel
    clear hM hbel
    by_cases hlt : j < n
    · obtain ⟨b, o, q, rfl, hb, hq, hqi, hat, hbt, hmx⟩ := (HR.out.below HBel.out).at hlt
      have HQ := Lib.hid hq
      have HT := Lib.hid (show vals (qs.take (j + 1)) = vals (qs.take j) ++ [q.val] by rw [take_next qs j q hqi, vals_append]; rfl)
      have HO := Lib.hid (show mayO q.val = vld q.cl q.ty q.n by unfold mayO Ob.val; rw [hbt.1])
      have HLn := Lib.hid (show (obL q.val).length = 4 + q.n by rw [obL_length]; unfold Ob.val; rw [hbt.1])
      have HI := Lib.hid (show q.val ∈ vals qs from List.mem_map_of_mem hq)
      obtain ⟨c0, c1, c2⟩ := hat
      clear hqi hbt hb hq
      obtain ⟨x, y, qa, qn, qc, ql⟩ := q
      simp only at c0 c1 c2 HO HLn hmx
      go_wp2_with fail
      ((with_reducible refine (obvalid_calls x y qa qn qc _ hmx).mono ?_))
      rintro e w1 ⟨rfl, rfl⟩
      cases hv : vld x y qn
      · go_wp2
        go_ret2
        exact sizePost_no (oErr_arg (by rw [vals_length, HL.out]; exact hn) HI.out (by rw [HO.out]; exact hv)) (by omega) rfl (bel_new (bel_new HBel.out _) _)
      · have hv4 := (vld_yes hv).2.2.2.2.2
        unfold maxLen at hmx
        have HV := Lib.hid hv
        clear hv
        go_wp2
        refine ⟨⟨j + 1, s + (4 + qn), by omega, by go_num, by go_num, by omega, ?_, ?_, bel_new (bel_new HBel.out _) _⟩, by simp [intOf]; omega⟩
        · exact (by rw [HT.out, obsL_snoc, List.length_append, HLn.out, HS.out] : s + (4 + qn) = (obsL (vals (qs.take (j + 1)))).length)
        · rw [HT.out]
          intro o ho
          rcases List.mem_append.1 ho with ho | ho
          · exact HM.out o ho
          · obtain rfl := List.mem_singleton.1 ho
            rw [HO.out]; exact HV.out
    · have hjn : j = n := by omega
      subst hjn
      have e1 : qs.take j = qs := List.take_of_length_le (by rw [HL.out]; exact Nat.le_refl _)
      rw [e1] at HS HM
      by_cases hbig : 4096 < s
      · have h0 := Lib.hid (oErr_long (by rw [vals_length, HL.out]; exact hn) HM.out (by rw [← HS.out]; exact hbig))
        go_wp2
        go_ret2
        exact sizePost_no h0.out (by omega) rfl HBel.out
      · have h0 := Lib.hid (oErr_ok (by rw [vals_length, HL.out]; exact hn) HM.out (by rw [← HS.out]; omega))
        go_wp2
        go_ret2
        exact ⟨by rw [h0.out, oEnc_ok h0.out, HS.out]; rfl, HBel.out⟩

theorem size_calls (a : Option Addr) (n c : Nat) (qs : List Ob) (w : World) (h : Objs w w.heap.size a n qs) (hm : n ≤ maxLen) :
    Calls Try.prog 11 #[.slice a n c] w (SizePost w (vals qs)) := by
  by_cases hn : n ≤ 32
  · exact size_ok a n c qs w h hn
  · exact size_big a n c _ w (by rw [vals_length]; exact h.len) (by omega) hm

/-- Room for bytes, of which none is there. -/
theorem make_room (n : Nat) (hn : n ≤ 140737488355328) (W : World) : (Instr.makeSlice 25 (.int .i64 0) (.int .i64 (n : Int))).run Try.prog W =
      .ok (.slice (some ⟨W.heap.size, 0, none⟩) 0 n) (W.alloc (.cells (Array.replicate n (bv 0)) 5)) := by
  obtain ⟨i, hi, hzz⟩ := Option.map_eq_some_iff.1 Try.infoByte
  simp only [Prod.mk.injEq] at hzz
  obtain ⟨hz, hs, hb⟩ := hzz
  have h := run_make (P := Try.prog) W 25 5 i (.int .u8 0) Try.underlying25 hi hz .i64 .i64 0 (n : Int) (by omega) (by omega) (by rw [hb]; omega) (by omega)
  simp only [hs, Nat.mul_one, Int.toNat_natCast] at h
  rw [h]
  have e : (Value.int .u8 0).cells = #[.int .u8 0] := rfl
  rw [e, made_zero]; rfl
theorem acc_room (w : World) (n : Nat) (hn : n ≤ 140737488355328) : Acc (w.alloc (.cells (Array.replicate n (bv 0)) 5)) w.heap.size (some ⟨w.heap.size, 0, none⟩) n [] :=
  ⟨rfl, .inr ⟨w.heap.size, n, Array.replicate n (bv 0), rfl, Nat.le_refl _, heap_alloc_new w _, Nat.zero_le _, by unfold maxLen; omega, by simp, by simp⟩⟩

/-- What Encode answers: bytes in memory of the call's own. -/
def ObEncPost (w : World) (os : List (Int × Int × List UInt8)) (e : Ending) (w' : World) : Prop :=
  ∃ A c, e = .returned (.tuple #[.slice A (oEnc os).length c, .int .i64 (oErr os)]) ∧ Acc w' w.heap.size A c (oEnc os) ∧ Below w.heap.size w w'
theorem obEncPost_no {w w' : World} {os : List (Int × Int × List UInt8)} {e : Ending} {err : Int} (h : oErr os = err) (h0 : err ≠ 0) (he : e = .returned (.tuple #[.slice none 0 0, .int .i64 err])) (hb : Below w.heap.size w w') : ObEncPost w os e w' := by
  have hr : oEnc os = [] := oEnc_no (by rw [h]; exact h0)
  refine ⟨none, 0, ?_, ?_, hb⟩
  · rw [hr, h, he]; rfl
  · rw [hr]; exact Acc.nil _ _

set_option maxHeartbeats 1000000 in
theorem obencode_calls (a : Option Addr) (n c : Nat) (qs : List Ob) (w : World) (h : Objs w w.heap.size a n qs) (hm : n ≤ maxLen) :
    Calls Try.prog 9 #[.slice a n c] w (ObEncPost w (vals qs)) := by
  have HR := Lib.hid h
  have HL := Lib.hid h.len
  clear h
  go_enter Try.func9, Try.ntmps9
  go_wp2_with fail
  ((with_reducible refine (size_calls a n c qs _ HR.out hm).mono ?_))
  rintro e w1 ⟨rfl, b1⟩
  have B1 := Lib.hid b1
  clear b1
  by_cases h0 : oErr (vals qs) = 0
  · obtain ⟨z1, z2, z3⟩ := oErr_zero h0
    have hn : n ≤ 32 := by rw [← HL.out, ← vals_length]; exact z1
    have HE := Lib.hid (oEnc_ok h0)
    have H0 := Lib.hid h0
    have HZ := Lib.hid z2
    rw [h0, oEnc_ok h0]
    have hsz : (obsL (vals qs)).length ≤ 4096 := z3
    have hmk := make_room (obsL (vals qs)).length (by omega)
    have A1 := Lib.hid ((acc_room w1 (obsL (vals qs)).length (by omega)).lower B1.out.size)
    have K1 := Lib.hid (bel_new B1.out (.cells (Array.replicate (obsL (vals qs)).length (bv 0)) 5))
    clear h0 z1 z2 z3 hm
    generalize hN : (obsL (vals qs)).length = N at *
    have HN := Lib.hid hN
    clear hN
    go_wp2
    go_loopw [6, 21] (fun s i W => ∃ j m cc : Nat, ∃ A : Option Addr, j ≤ n ∧ i = .int .i64 (j : Int) ∧ s = .slice A m cc ∧ m ≤ 4100 * j ∧ Hid (m = (obsL (vals (qs.take j))).length) ∧ Acc W w.heap.size A cc (obsL (vals (qs.take j))) ∧ Below w.heap.size w W) (fun _ i _ => n - (intOf i).toNat)
    case atStart => exact ⟨0, 0, N, _, Nat.zero_le _, rfl, rfl, by omega, by exact rfl, A1.out, K1.out⟩
    case round =>
      obtain ⟨j, m, cc, A, hj, rfl, rfl, hm4, HMl, hacc, hbel⟩ := hrel
      have HA := Lib.hid hacc
      have HBel := Lib.hid hbel
      clear hacc hbel
      by_cases hlt : j < n
      · obtain ⟨b, o, q, rfl, hb, hq, hqi, hat, hbt, hmx⟩ := (HR.out.below HBel.out).at hlt
        have HT := Lib.hid (show vals (qs.take (j + 1)) = vals (qs.take j) ++ [q.val] by rw [take_next qs j q hqi, vals_append]; rfl)
        have hv : vld q.cl q.ty q.n = true := by
          have := HZ.out q.val (List.mem_map_of_mem hq)
          unfold mayO Ob.val at this
          rwa [hbt.1] at this
        have HOb := Lib.hid (show obL q.val = hdL q.cl q.ty q.n ++ q.l by unfold obL Ob.val; rw [hbt.1])
        have hv4 := (vld_yes hv).2.2.2.2.2
        have HV := Lib.hid hv
        have HBt := Lib.hid hbt
        obtain ⟨c0, c1, c2⟩ := hat
        clear hqi hbt hq hv hmx
        obtain ⟨x, y, qa, qn, qc, ql⟩ := q
        simp only at c0 c1 c2 HOb hv4 HV HBt
        have K2 := Lib.hid (bel_new HBel.out (.cells #[.int .i64 x, .int .i64 y, .slice qa qn qc] 44))
        have A2 := Lib.hid (HA.out.alloc (.cells #[.int .i64 x, .int .i64 y, .slice qa qn qc] 44))
        have C2 : Hid (AtO (wr.alloc (.cells #[.int .i64 x, .int .i64 y, .slice qa qn qc] 44)) wr.heap.size 0 ⟨x, y, qa, qn, qc, ql⟩) :=
          ⟨cell_of_row _ _ _ _ _ _ (heap_alloc_new wr _), cell_of_row _ _ _ _ _ _ (heap_alloc_new wr _), cell_of_row _ _ _ _ _ _ (heap_alloc_new wr _)⟩
        have Z2 := Lib.hid (show wr.heap.size < (wr.alloc (.cells #[.int .i64 x, .int .i64 y, .slice qa qn qc] 44)).heap.size by simp)
        have U2 := Lib.hid (show Below w.heap.size wr (wr.alloc (.cells #[.int .i64 x, .int .i64 y, .slice qa qn qc] 44)) from (Below.refl _ _).alloc HBel.out.size _)
        have G2 := Lib.hid (show ∀ k, blk A = some k → k < wr.heap.size from fun k hk => (HA.out.ge hk).2)
        go_wp2_with fail
        generalize (wr.alloc (.cells #[.int .i64 x, .int .i64 y, .slice qa qn qc] 44)) = w2 at *
        ((with_reducible refine (head_calls x y qa qn qc _ HV.out).mono ?_))
        rintro e w3 ⟨g, rfl, hg, ho, b3⟩
        have K3 := Lib.hid (bel_more K2.out (Nat.le_refl _) b3)
        have a3 := A2.out.bel b3
        have C3 := C2.out.below b3 Z2.out
        have Z3 := Nat.lt_of_lt_of_le Z2.out b3.size
        have o3 := ho.bts ho.lt
        rw [hdL_length] at o3
        obtain ⟨A4, c4, w4, r4, a4, g4, e4⟩ := acc_append a3 (cc := 4) o3 K3.out.size (by rw [← HMl.out]; omega) 25
        rw [← HMl.out] at r4
        have K4 := bel_acc K3.out a3 g4
        have C4 : AtO w4 wr.heap.size 0 ⟨x, y, qa, qn, qc, ql⟩ := by
          have hcell : ∀ k, w4.cell? ⟨wr.heap.size, k, none⟩ = w3.cell? ⟨wr.heap.size, k, none⟩ := fun k => World.cell?_of_block (w := w3) (g4.block _ Z3 (fun hk => absurd (G2.out wr.heap.size hk.symm) (Nat.lt_irrefl _)))
          exact ⟨(hcell _).trans C3.1, (hcell _).trans C3.2.1, (hcell _).trans C3.2.2⟩
        have U3 : Below w.heap.size wr w3 := U2.out.trans (b3.mono K2.out.size)
        have U4 : Below w.heap.size wr w4 := U3.grown g4 K3.out.size (fun k hk => (a3.ge hk).1)
        have bt4 := HBt.out.below U4
        obtain ⟨A5, c5, w5, r5, a5, g5, e5⟩ := acc_append a4 (cc := qc) bt4 K4.size (by rw [List.length_append, ← HMl.out, hdL_length]; omega) 25
        rw [List.length_append, ← HMl.out, hdL_length] at r5
        have K5 := Lib.hid (bel_acc K4 a4 g5)
        have R4 := Lib.hid r4
        have R5 := Lib.hid r5
        have A5' := Lib.hid a5
        have c42 := C4.2.2
        clear a3 C3 Z3 o3 r4 a4 g4 e4 K4 C4 bt4 r5 a5 g5 e5 b3 ho U3 U4
        go_wp2_with (at_builtin; first | refine step_append (o := ⟨some 28, _, _, _, _, _⟩) rfl rfl rfl rfl R4.out ?_ | refine step_append (o := ⟨some 32, _, _, _, _, _⟩) rfl rfl rfl rfl R5.out ?_)
        refine ⟨⟨j + 1, m + 4 + qn, c5, A5, by omega, by go_num, rfl, by omega, ?_, ?_, K5.out⟩, by simp [intOf]; omega⟩
        · exact (by rw [HT.out, obsL_snoc, HOb.out, List.length_append, List.length_append, hdL_length, HMl.out, HBt.out.1]; omega : m + 4 + qn = (obsL (vals (qs.take (j + 1)))).length)
        · rw [HT.out, obsL_snoc, HOb.out, ← List.append_assoc]; exact A5'.out
      · have hjn : j = n := by omega
        subst hjn
        have e1 : qs.take j = qs := List.take_of_length_le (by rw [HL.out]; exact Nat.le_refl _)
        rw [e1] at HA HMl
        go_wp2
        go_ret2
        refine ⟨A, cc, ?_, ?_, HBel.out⟩
        · rw [H0.out, HE.out, ← HMl.out]; rfl
        · rw [HE.out]; exact HA.out
  · have hb : (oErr (vals qs) != 0) = true := by simpa using h0
    have HE := Lib.hid (show oErr (vals qs) = oErr (vals qs) from rfl)
    generalize hN : oErr (vals qs) = N at *
    have HN := Lib.hid hN
    clear hN HE
    generalize (oEnc (vals qs)).length = M
    go_wp2
    go_ret2
    exact obEncPost_no HN.out h0 rfl B1.out
end Go.Proofs.Ytnmcfgoikffopaa
