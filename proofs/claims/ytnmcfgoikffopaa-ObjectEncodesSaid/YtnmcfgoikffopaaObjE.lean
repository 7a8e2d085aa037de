/-
  Contracts of the document's own answers for layer 6: May, Bytes, Encode. Conditions: the objects that come in, and their bodies, read as lists; Bytes takes an object that may be.
-/
import Derived.Test.YtnmcfgoikffopaaObjB
namespace Go.Proofs.Ytnmcfgoikffopaa
open Go.RowKit

theorem refmay6_calls (x y : Int) (a : Option Addr) (n c : Nat) (w : World) (hn : n ≤ maxLen) :
    Calls Try.prog 19 #[.agg #[.int .i64 x, .int .i64 y, .slice a n c]] w fun e w' => e = .returned (.bool (vld x y n)) ∧ w' = w.alloc (.cells #[.int .i64 x, .int .i64 y, .slice a n c] 45) := by
  unfold maxLen at hn
  by_cases h1 : 0 ≤ x
  · by_cases h2 : x ≤ 255
    · by_cases h3 : 0 ≤ y
      · by_cases h4 : y ≤ 255
        · by_cases h5 : n ≤ 4096
          · have hm : vld x y n = decide (n % 4 = 0) := by simp [vld, isb, h1, h2, h3, h4, h5]
            by_cases h6 : n % 4 = 0
            · have q1 : ((n : Int) % 4 == 0) = true := by rw [beq_iff_eq]; omega
              have hm2 : vld x y n = true := by rw [hm, decide_eq_true h6]
              clear hm
              go_enter Try.func19, Try.ntmps19
              go_wp2
              go_ret
              exact ⟨by first | rfl | (rw [hm2]; rfl), rfl⟩
            · have q1 : ((n : Int) % 4 == 0) = false := by rw [beq_eq_false_iff_ne]; omega
              have hm2 : vld x y n = false := by rw [hm, decide_eq_false h6]
              clear hm
              go_enter Try.func19, Try.ntmps19
              go_wp2
              go_ret
              exact ⟨by first | rfl | (rw [hm2]; rfl), rfl⟩
          · have hm : vld x y n = false := by simp [vld, isb, h5]
            go_enter Try.func19, Try.ntmps19
            go_wp2
            go_ret
            exact ⟨by first | rfl | (rw [hm]; rfl), rfl⟩
        · have hm : vld x y n = false := by simp [vld, isb, h4]
          go_enter Try.func19, Try.ntmps19
          go_wp2
          go_ret
          exact ⟨by first | rfl | (rw [hm]; rfl), rfl⟩
      · have hm : vld x y n = false := by simp [vld, isb, h3]
        go_enter Try.func19, Try.ntmps19
        go_wp2
        go_ret
        exact ⟨by first | rfl | (rw [hm]; rfl), rfl⟩
    · have hm : vld x y n = false := by simp [vld, isb, h2]
      go_enter Try.func19, Try.ntmps19
      go_wp2
      go_ret
      exact ⟨by first | rfl | (rw [hm]; rfl), rfl⟩
  · have hm : vld x y n = false := by simp [vld, isb, h1]
    go_enter Try.func19, Try.ntmps19
    go_wp2
    go_ret
    exact ⟨by first | rfl | (rw [hm]; rfl), rfl⟩

theorem digits_two (u : Int) (w : World) (h0 : 0 ≤ u) (h1 : u < 65536) :
    Calls Try.prog 27 #[.int .i64 2, .int .u64 u] w (DigitsPost w 2 u.toNat) := by
  have h := digits_calls 2 u.toNat w (by omega) (by omega)
  rwa [Int.toNat_of_nonneg h0] at h

/-- An append of two bytes, which the program lays into a block of its own first. -/
theorem acc_two {w : World} {base c : Nat} {A : Option Addr} {l : List UInt8} (h : Acc w base A c l) (x y : UInt8) (hbase : base ≤ w.heap.size) (hlen : l.length + 2 ≤ 140737488355328) (ty : TypeId) :
    ∃ A' c' w', (Builtin.append_ #[25, 25] ty #[.slice A l.length c, .slice (some ⟨w.heap.size, 0, none⟩) 2 2]).run Try.prog (w.alloc (.cells #[.int .u8 (x.toNat : Int), .int .u8 (y.toNat : Int)] 5)) = .ok (.slice A' (l.length + 2) c') w' ∧
      Acc w' base A' c' (l ++ [x, y]) ∧ w.grownBy w' (blk A) := by
  have hs : Bts (w.alloc (.cells #[.int .u8 (x.toNat : Int), .int .u8 (y.toNat : Int)] 5)) (w.heap.size + 1) (some ⟨w.heap.size, 0, none⟩) 2 [x, y] := by
    have ho : Own (w.alloc (.cells #[.int .u8 (x.toNat : Int), .int .u8 (y.toNat : Int)] 5)) w.heap.size [x, y] := heap_alloc_new w _
    exact ho.bts (by omega)
  obtain ⟨A', c', w', h1, h2, h3, _⟩ := acc_append (h.alloc _) (cc := 2) hs (by simp; omega) hlen ty
  refine ⟨A', c', w', h1, h2, ⟨h3.os, h3.tape, h3.output, Nat.le_trans (by simp) h3.size, fun i hi hne => (h3.block i (by simp; omega) hne).trans (Below.heap_alloc _ _ _ hi)⟩⟩

def ObBytesPost (w : World) (o : (Int × Int × List UInt8)) (e : Ending) (w' : World) : Prop :=
  ∃ A c, e = .returned (.slice A (obL o).length c) ∧ Acc w' w.heap.size A c (obL o) ∧ Below w.heap.size w w'

theorem refbytes6_calls (x y : Int) (a : Option Addr) (n c : Nat) (l : List UInt8) (w : World) (hb : Bts w w.heap.size a n l) (hv : vld x y n = true) :
    Calls Try.prog 20 #[.agg #[.int .i64 x, .int .i64 y, .slice a n c]] w (ObBytesPost w (x, y, l)) := by
  obtain ⟨x0, x1, y0, y1, _, n1⟩ := vld_yes hv
  have c0 : AtO (w.alloc (.cells #[.int .i64 x, .int .i64 y, .slice a n c] 45)) w.heap.size 0 ⟨x, y, a, n, c, l⟩ :=
    ⟨cell_of_row _ _ _ _ _ _ (heap_alloc_new w _), cell_of_row _ _ _ _ _ _ (heap_alloc_new w _), cell_of_row _ _ _ _ _ _ (heap_alloc_new w _)⟩
  have C0 := Lib.hid c0
  have K0 := Lib.hid (bel_new (Below.refl w.heap.size w) (.cells #[.int .i64 x, .int .i64 y, .slice a n c] 45))
  have Z0 := Lib.hid (show w.heap.size < (w.alloc (.cells #[.int .i64 x, .int .i64 y, .slice a n c] 45)).heap.size by simp)
  have HB := Lib.hid hb
  have HL := Lib.hid hb.1
  clear c0 hv hb
  go_enter Try.func20, Try.ntmps20
  go_wp2_with fail
  generalize (w.alloc (.cells #[.int .i64 x, .int .i64 y, .slice a n c] 45)) = w1 at *
  ((with_reducible refine (digits_two ((n : Int) + 4) _ (by omega) (by omega)).mono ?_))
  rintro e w2 ⟨A2, c2, rfl, a2, b2⟩
  have k2 := bel_more K0.out (Nat.le_refl _) b2
  have z2 := Nat.lt_of_lt_of_le Z0.out b2.size
  have C2 := C0.out.below b2 Z0.out
  have ge2 : ∀ k, blk A2 = some k → w1.heap.size ≤ k := fun k hk => (a2.ge hk).1
  have ex : ((UInt8.ofNat x.toNat).toNat : Int) = x := by rw [UInt8.toNat_ofNat']; omega
  have ey : ((UInt8.ofNat y.toNat).toNat : Int) = y := by rw [UInt8.toNat_ofNat']; omega
  obtain ⟨A3, c3, w3, r3, a3, g3⟩ := acc_two (a2.lower (Nat.le_of_lt Z0.out)) (UInt8.ofNat x.toNat) (UInt8.ofNat y.toNat) k2.size (by rw [dig_length]; omega) 25
  rw [ex, ey, dig_length] at r3
  have k3 : Below w.heap.size w w3 := k2.grown g3 k2.size (fun k hk => Nat.le_trans (Nat.le_of_lt Z0.out) (ge2 k hk))
  have C3 : AtO w3 w.heap.size 0 ⟨x, y, a, n, c, l⟩ := by
    have hcell : ∀ k, w3.cell? ⟨w.heap.size, k, none⟩ = w2.cell? ⟨w.heap.size, k, none⟩ := fun k => World.cell?_of_block (w := w2) (g3.block _ z2 (fun hk => absurd (Nat.lt_of_lt_of_le Z0.out (ge2 w.heap.size hk.symm)) (Nat.lt_irrefl _)))
    exact ⟨(hcell _).trans C2.1, (hcell _).trans C2.2.1, (hcell _).trans C2.2.2⟩
  have bt3 := HB.out.below k3
  have hl3 : (dig 2 ((n : Int) + 4).toNat ++ [UInt8.ofNat x.toNat, UInt8.ofNat y.toNat]).length = 4 := by simp [dig_length]
  obtain ⟨A4, c4, w4, r4, a4, g4, _⟩ := acc_append a3 (cc := c) bt3 k3.size (by rw [hl3]; omega) 25
  rw [hl3] at r4
  have k4 := bel_acc k3 a3 g4
  have K4 := Lib.hid k4
  have R3 := Lib.hid r3
  have R4 := Lib.hid r4
  have A4' := Lib.hid a4
  obtain ⟨c20, c21, _⟩ := C2
  have c32 := C3.2.2
  clear a2 b2 k2 z2 ge2 ex ey r3 a3 g3 k3 C3 bt3 hl3 r4 a4 g4 k4
  go_wp2_with (at_builtin; first | refine step_append (o := ⟨some 18, _, _, _, _, _⟩) rfl rfl rfl rfl R3.out ?_ | refine step_append (o := ⟨some 22, _, _, _, _, _⟩) rfl rfl rfl rfl R4.out ?_)
  go_ret
  have e1 : dig 2 ((n : Int) + 4).toNat ++ [UInt8.ofNat x.toNat, UInt8.ofNat y.toNat] ++ l = obL (x, y, l) := by
    have e2 : ((n : Int) + 4).toNat = 4 + l.length := by rw [HL.out]; omega
    simp [obL, hdL, dig_one, e2]
  have e3 : (obL (x, y, l)).length = 4 + n := by rw [obL_length]; simp only [HL.out]
  refine ⟨A4, c4, ?_, ?_, K4.out⟩
  · rw [e3]; rfl
  · rw [← e1]; exact A4'.out

theorem refencode6_big (a : Option Addr) (n c : Nat) (os : List (Int × Int × List UInt8)) (w : World) (hl : os.length = n) (hn : 32 < n) (hm : n ≤ maxLen) :
    Calls Try.prog 12 #[.slice a n c] w (ObEncPost w os) := by
  unfold maxLen at hm
  have HL := Lib.hid hl
  clear hl
  go_enter Try.func12, Try.ntmps12
  go_wp2
  go_ret2
  exact obEncPost_no (oErr_big (by rw [HL.out]; exact hn)) (by omega) rfl (Below.refl _ _)

set_option maxHeartbeats 1000000 in
theorem refencode6_ok (a : Option Addr) (n c : Nat) (qs : List Ob) (w : World) (h : Objs w w.heap.size a n qs) (hn : n ≤ 32) :
    Calls Try.prog 12 #[.slice a n c] w (ObEncPost w (vals qs)) := by
  have HR := Lib.hid h
  have HL := Lib.hid h.len
  clear h
  go_enter Try.func12, Try.ntmps12
  go_wp2
  go_loopw [4, 5] (fun s i W => ∃ j m cc : Nat, ∃ A : Option Addr, j ≤ n ∧ i = .int .i64 (j : Int) ∧ s = .slice A m cc ∧ m ≤ 4100 * j ∧ Hid (m = (obsL (vals (qs.take j))).length) ∧ Acc W w.heap.size A cc (obsL (vals (qs.take j))) ∧ (∀ o ∈ vals (qs.take j), mayO o = true) ∧ Below w.heap.size w W) (fun _ i _ => n - (intOf i).toNat)
  case atStart => exact ⟨0, 0, 0, none, Nat.zero_le _, rfl, rfl, by omega, by exact rfl, Acc.nil _ _, by simp [vals], Below.refl _ _⟩
  case round =>
    obtain ⟨j, m, cc, A, hj, rfl, rfl, hm4, HMl, hacc, hM, hbel⟩ := hrel
    have HA := Lib.hid hacc
    have HBel := Lib.hid hbel
    have HM := Lib.hid hM
    clear hacc hbel hM
    by_cases hlt : j < n
    · obtain ⟨b, o, q, rfl, hb, hq, hqi, hat, hbt, hmx⟩ := (HR.out.below HBel.out).at hlt
      have HT := Lib.hid (show vals (qs.take (j + 1)) = vals (qs.take j) ++ [q.val] by rw [take_next qs j q hqi, vals_append]; rfl)
      have HO := Lib.hid (show mayO q.val = vld q.cl q.ty q.n by unfold mayO Ob.val; rw [hbt.1])
      have HI := Lib.hid (show q.val ∈ vals qs from List.mem_map_of_mem hq)
      have HLn := Lib.hid (show (obL q.val).length = 4 + q.n by rw [obL_length]; unfold Ob.val; rw [hbt.1])
      have HBt := Lib.hid hbt
      have HAt := Lib.hid hat
      have hbw : b < wr.heap.size := Nat.lt_of_lt_of_le hb HBel.out.size
      obtain ⟨c0, c1, c2⟩ := hat
      clear hqi hbt hq hb
      obtain ⟨x, y, qa, qn, qc, ql⟩ := q
      simp only at c0 c1 c2 HO HLn HBt hmx
      have HVal := Lib.hid (show (Ob.val ⟨x, y, qa, qn, qc, ql⟩) = (x, y, ql) from rfl)
      go_wp2_with fail
      ((with_reducible refine (refmay6_calls x y qa qn qc _ hmx).mono ?_))
      rintro e w1 ⟨rfl, rfl⟩
      cases hv : vld x y qn
      · go_wp2
        go_ret2
        exact obEncPost_no (oErr_arg (by rw [vals_length, HL.out]; exact hn) HI.out (by rw [HO.out]; exact hv)) (by omega) rfl (bel_new HBel.out _)
      · have hv4 := (vld_yes hv).2.2.2.2.2
        have HV := Lib.hid hv
        have up := bel_new (Below.refl wr.heap.size wr) (.cells #[.int .i64 x, .int .i64 y, .slice qa qn qc] 45)
        have A1 := Lib.hid (HA.out.bel up)
        have K1 := Lib.hid (bel_new HBel.out (.cells #[.int .i64 x, .int .i64 y, .slice qa qn qc] 45))
        have U1 := Lib.hid (show Below w.heap.size wr (wr.alloc (.cells #[.int .i64 x, .int .i64 y, .slice qa qn qc] 45)) from (Below.refl _ _).alloc HBel.out.size _)
        have hat1 := HAt.out.below up hbw
        obtain ⟨d0, d1, d2⟩ := hat1
        simp only at d0 d1 d2
        clear c0 c1 c2 up hv
        generalize (wr.alloc (.cells #[.int .i64 x, .int .i64 y, .slice qa qn qc] 45)) = w1 at *
        have HB2 := Lib.hid (refbytes6_calls x y qa qn qc ql w1 ((HBt.out.below U1.out).more K1.out.size) HV.out)
        go_wp2_with fail
        ((with_reducible refine HB2.out.mono ?_))
        rintro e w2 ⟨A2, c2, rfl, a2, b2⟩
        rw [← HVal.out] at a2 ⊢
        rw [HLn.out]
        have k2 := bel_more K1.out (Nat.le_refl _) b2
        have a1 := A1.out.bel b2
        have s2 := a2.bts
        rw [HLn.out] at s2
        obtain ⟨A3, c3, w3, r3, a3, g3, _⟩ := acc_append a1 (cc := c2) s2 k2.size (by rw [← HMl.out]; omega) 25
        rw [← HMl.out] at r3
        have k3 := bel_acc k2 a1 g3
        have R3 := Lib.hid r3
        have A3' := Lib.hid a3
        have K3 := Lib.hid k3
        clear a2 b2 k2 a1 s2 r3 a3 g3 k3 HB2
        go_wp2_with (at_builtin; refine step_append rfl rfl rfl rfl R3.out ?_)
        refine ⟨⟨j + 1, m + (4 + qn), c3, A3, by omega, by go_num, rfl, by omega, ?_, ?_, ?_, K3.out⟩, by simp [intOf]; omega⟩
        · exact (by rw [HT.out, obsL_snoc, List.length_append, HLn.out, HMl.out] : m + (4 + qn) = (obsL (vals (qs.take (j + 1)))).length)
        · rw [HT.out, obsL_snoc]; exact A3'.out
        · rw [HT.out]
          intro o ho
          rcases List.mem_append.1 ho with ho | ho
          · exact HM.out o ho
          · obtain rfl := List.mem_singleton.1 ho
            rw [HO.out]; exact HV.out
    · have hjn : j = n := by omega
      subst hjn
      have e1 : qs.take j = qs := List.take_of_length_le (by rw [HL.out]; exact Nat.le_refl _)
      rw [e1] at HMl HM HA
      by_cases hbig : 4096 < m
      · have h0 := Lib.hid (oErr_long (by rw [vals_length, HL.out]; exact hn) HM.out (by rw [← HMl.out]; exact hbig))
        go_wp2
        go_ret2
        exact obEncPost_no h0.out (by omega) rfl HBel.out
      · have h0 := Lib.hid (oErr_ok (by rw [vals_length, HL.out]; exact hn) HM.out (by rw [← HMl.out]; omega))
        go_wp2
        go_ret2
        refine ⟨A, cc, ?_, ?_, HBel.out⟩
        · rw [h0.out, oEnc_ok h0.out, ← HMl.out]; rfl
        · rw [oEnc_ok h0.out]; exact HA.out

theorem refencode6_calls (a : Option Addr) (n c : Nat) (qs : List Ob) (w : World) (h : Objs w w.heap.size a n qs) (hm : n ≤ maxLen) :
    Calls Try.prog 12 #[.slice a n c] w (ObEncPost w (vals qs)) := by
  by_cases hn : n ≤ 32
  · exact refencode6_ok a n c qs w h hn
  · exact refencode6_big a n c _ w (by rw [vals_length]; exact h.len) (by omega) hm
end Go.Proofs.Ytnmcfgoikffopaa
