/-
  Contracts of the document's own answers for layer 2: Add, Of, Seal. Conditions: the bytes that come in read as a list of at most 2^46 bytes.
-/
import Derived.Test.YteadmbfbkgbhpaaSumC
namespace Go.Proofs.Yteadmbfbkgbhpaa
open Go.RowKit

theorem refadd_calls (a b : Nat) (w : World) (ha : a ≤ 65535) (hb : b ≤ 65535) :
    Calls Try.prog 11 #[.int .i64 (a : Int), .int .i64 (b : Int)] w fun e w' => e = .returned (.int .i64 ((oadd a b : Nat) : Int)) ∧ w = w' := by
  by_cases h : 65535 < a + b
  · have HO := Lib.hid (show oadd a b = a + b - 65535 by unfold oadd; rw [if_pos h])
    go_enter Try.func11, Try.ntmps11
    go_wp2
    go_ret
    refine ⟨?_, rfl⟩
    rw [HO.out]
    congr 2
    go_num
  · have HO := Lib.hid (show oadd a b = a + b by unfold oadd; rw [if_neg h])
    go_enter Try.func11, Try.ntmps11
    go_wp2
    go_ret
    refine ⟨?_, rfl⟩
    rw [HO.out]
    congr 2

theorem refadd_z (a b : Nat) (x y : Int) (w : World) (hx : x = (a : Int)) (hy : y = (b : Int)) (ha : a ≤ 65535) (hb : b ≤ 65535) :
    Calls Try.prog 11 #[.int .i64 x, .int .i64 y] w fun e w' => e = .returned (.int .i64 ((oadd a b : Nat) : Int)) ∧ w = w' := by
  subst hx; subst hy; exact refadd_calls a b w ha hb

set_option maxHeartbeats 400000 in
theorem refof_calls (a : Option Addr) (n c : Nat) (l : List UInt8) (w : World) (B : Nat) (h : Bts w B a n l) (hlen : n ≤ 70368744177664) :
    Calls Try.prog 13 #[.slice a n c] w fun e w' => e = .returned (.int .i64 ((ofL l : Nat) : Int)) ∧ w = w' := by
  have HB := Lib.hid h
  have HN := Lib.hid h.1
  clear h
  go_enter Try.func13, Try.ntmps13
  go_wp2
  go_loop [3, 4] (fun s t => ∃ j x : Nat, j ≤ n + 1 ∧ t = .int .i64 (j : Int) ∧ s = .int .i64 (x : Int) ∧ Hid (j % 2 = 0) ∧ Hid (x = red (tot (l.take j)))) (fun _ t => n + 1 - (intOf t).toNat)
  case atStart => exact ⟨0, 0, by omega, rfl, rfl, Lib.hid rfl, Lib.hid rfl⟩
  case round =>
    obtain ⟨j, x, hj, rfl, rfl, HJ, HX⟩ := hrel
    have hx : x ≤ 65535 := by rw [HX.out]; exact red_le _
    by_cases hlt : j < n
    · obtain ⟨b, o, rfl, _, hc⟩ := HB.out.2 (by omega)
      have hjl : j < l.length := by rw [HN.out]; exact hlt
      have c0 := hc j hjl
      unfold bv at c0
      have b0 : l[j].toNat < 256 := l[j].toNat_lt
      by_cases hl2 : j + 1 < n
      · have hjl2 : j + 1 < l.length := by rw [HN.out]; exact hl2
        have c1 := hc (j + 1) hjl2
        unfold bv at c1
        have b1 : l[j + 1].toNat < 256 := l[j + 1].toNat_lt
        have HS := Lib.hid (show oadd x (l[j].toNat * 256 + l[j + 1].toNat) = red (tot (l.take (j + 2))) by
          rw [HX.out, ← red_step l j HJ.out (by omega)]; unfold word; rw [take_two l j (by omega), num_two])
        clear hc
        generalize l[j].toNat = y at *
        generalize l[j + 1].toNat = z at *
        go_wp2_with fail
        ((with_reducible refine (refadd_z x (y * 256 + z) _ _ w rfl (by omega) hx (by omega)).mono ?_))
        rintro e w' ⟨rfl, rfl⟩
        go_wp2
        exact ⟨⟨j + 2, _, by omega, by go_num, rfl, Lib.hid (by have := HJ.out; omega), HS⟩, by simp [intOf]; omega⟩
      · have hjn : j + 1 = n := by omega
        have HS := Lib.hid (show oadd x (l[j].toNat * 256) = red (tot (l.take (j + 2))) by
          rw [HX.out, List.take_of_length_le (i := j + 2) (by rw [HN.out]; omega)]; exact red_last l j HJ.out (by rw [HN.out]; exact hjn))
        clear hc
        generalize l[j].toNat = y at *
        go_wp2_with fail
        ((with_reducible refine (refadd_z x (y * 256) _ _ w rfl (by omega) hx (by omega)).mono ?_))
        rintro e w' ⟨rfl, rfl⟩
        go_wp2
        exact ⟨⟨j + 2, _, by omega, by go_num, rfl, Lib.hid (by have := HJ.out; omega), HS⟩, by simp [intOf]; omega⟩
    · have HE := Lib.hid (show l.take j = l from List.take_of_length_le (by rw [HN.out]; omega))
      go_wp2
      go_ret
      refine ⟨?_, rfl⟩
      have e2 := HX.out
      rw [HE.out] at e2
      unfold ofL
      rw [← e2]
      congr 2
      go_num

theorem refseal_no (a : Option Addr) (n c : Nat) (i : Int) (w : World) (hlen : n ≤ 70368744177664) (hi : i < 9223372036854775808) (hbad : i < 0 ∨ i % 2 ≠ 0 ∨ (n : Int) - i < 2) :
    Calls Try.prog 16 #[.slice a n c, .int .i64 i] w fun e w' => e = .returned (.tuple #[.slice none 0 0, .int .i64 2]) ∧ w = w' := by
  by_cases h1 : i < 0
  · clear hbad
    go_enter Try.func16, Try.ntmps16
    go_wp2
    go_ret2
    exact ⟨rfl, rfl⟩
  · by_cases h2 : i % 2 = 0
    · have h3 : (n : Int) - i < 2 := by omega
      have hm : (i % 2 == 1) = false := by simp; omega
      clear hbad
      go_enter Try.func16, Try.ntmps16
      go_wp2
      go_ret2
      exact ⟨rfl, rfl⟩
    · have hm : (i % 2 == 1) = true := by simp; omega
      clear hbad
      go_enter Try.func16, Try.ntmps16
      go_wp2
      go_ret2
      exact ⟨rfl, rfl⟩

set_option maxHeartbeats 800000 in
theorem refseal_ok (a : Option Addr) (n c : Nat) (l : List UInt8) (i : Nat) (w : World) (h : Bts w w.heap.size a n l) (hlen : n ≤ 70368744177664) (he : i % 2 = 0) (hat : i + 2 ≤ n) :
    Calls Try.prog 16 #[.slice a n c, .int .i64 (i : Int)] w (SealPost w n (sealL l i)) := by
  have hn := h.1
  subst hn
  have ac0 : Acc (w.alloc (.cells #[] 5)) w.heap.size (some ⟨w.heap.size, 0, none⟩) 0 [] := ⟨rfl, .inr ⟨w.heap.size, 0, #[], rfl, Nat.le_refl _, heap_alloc_new w _, Nat.le_refl _, Nat.zero_le _, rfl, rfl⟩⟩
  have b1 : Below w.heap.size w (w.alloc (.cells #[] 5)) := (Below.refl _ _).alloc (Nat.le_refl _) _
  obtain ⟨A2, c2, w2, r2, ac2, g2, e2⟩ := acc_append ac0 (cc := c) (h.below b1) b1.size (by simp; omega) 22
  have b2 := bel_acc b1 ac0 g2
  simp only [List.nil_append, List.length_nil, Nat.zero_add] at r2 ac2
  obtain ⟨g, rfl, hg⟩ := ac2.some (by omega)
  have s1 := ac2.set_ i 0
  have b3 := bel_acc b2 ac2 s1.2
  have s2 := s1.1.set_ (i + 1) 0
  have b4 := bel_acc b3 (by simpa using s1.1) s2.2
  have hm0 : (i : Int) % 2 = 0 := by omega
  have hm : ((i : Int) % 2 == 1) = false := by simp; omega
  have R2 := Lib.hid r2
  have C2 := Lib.hid ac2.cap
  have f1 := ac2.free i
  have f2 := ac2.free (i + 1)
  obtain ⟨y1, k1⟩ : ∃ y : Int, w2.cell? ⟨g, i, none⟩ = some (.int .u8 y) := ⟨_, ac2.cell i (by omega)⟩
  obtain ⟨y2, k2⟩ : ∃ y : Int, (w2.setCell ⟨g, i, none⟩ (.int .u8 0)).cell? ⟨g, i + 1, none⟩ = some (.int .u8 y) := ⟨_, s1.1.cell (i + 1) (by simp; omega)⟩
  have L0 : (l.set i 0).set (i + 1) 0 = lay l i 0 := lay_set l i 0 hat
  rw [L0] at s2
  have hl0 := lay_length l i 0 hat
  obtain ⟨m, hmm⟩ : ∃ m, m = lay l i 0 := ⟨_, rfl⟩
  rw [← hmm] at s2 hl0
  have HM := Lib.hid hmm
  have S2 := Lib.hid (show Acc ((w2.setCell ⟨g, i, none⟩ (.int .u8 0)).setCell ⟨g, i + 1, none⟩ (.int .u8 0)) w.heap.size (some ⟨g, 0, none⟩) c2 m from s2.1)
  have B4 := Lib.hid (show Below w.heap.size w ((w2.setCell ⟨g, i, none⟩ (.int .u8 0)).setCell ⟨g, i + 1, none⟩ (.int .u8 0)) from b4)
  have HL0 := Lib.hid hl0
  clear ac0 b1 r2 ac2 g2 e2 b2 s1 b3 s2 b4 h hm0 hmm hl0 L0
  go_enter Try.func16, Try.ntmps16
  go_wp2_with (at_builtin; refine step_append rfl rfl rfl rfl R2.out ?_)
  obtain ⟨w4, h4⟩ : ∃ w4, w4 = (w2.setCell ⟨g, i, none⟩ (.int .u8 0)).setCell ⟨g, i + 1, none⟩ (.int .u8 0) := ⟨_, rfl⟩
  rw [← h4] at S2 B4 ⊢
  have HB2 := Lib.hid S2.out.bts
  rw [HL0.out] at HB2
  clear f1 f2 k1 k2 h4
  ((with_reducible refine (refof_calls _ _ c2 m w4 _ HB2.out hlen).mono ?_))
  rintro e w5 ⟨rfl, rfl⟩
  have hv := ofL_le m
  obtain ⟨v, hv0⟩ : ∃ v, v = ofL m := ⟨_, rfl⟩
  rw [← hv0] at hv ⊢
  have HV := Lib.hid hv0
  have s1 := S2.out.set_ i (UInt8.ofNat (v / 256))
  have b5 := bel_acc B4.out S2.out s1.2
  have s2 := s1.1.set_ (i + 1) (UInt8.ofNat v)
  have b6 := bel_acc b5 (by simpa using s1.1) s2.2
  have f1 := S2.out.free i
  have f2 := S2.out.free (i + 1)
  obtain ⟨y1, k1⟩ : ∃ y : Int, w4.cell? ⟨g, i, none⟩ = some (.int .u8 y) := ⟨_, S2.out.cell i (by have := HL0.out; omega)⟩
  obtain ⟨y2, k2⟩ : ∃ y : Int, w4.cell? ⟨g, i + 1, none⟩ = some (.int .u8 y) := ⟨_, S2.out.cell (i + 1) (by have := HL0.out; omega)⟩
  have z1 : ((UInt8.ofNat (v / 256)).toNat : Int) = (v : Int) / 256 := by rw [UInt8.toNat_ofNat']; omega
  have z2 : ((UInt8.ofNat v).toNat : Int) = (v : Int) % 256 := by rw [UInt8.toNat_ofNat']; omega
  rw [z1] at s2 b6
  rw [z2] at s2 b6
  have S3 := Lib.hid s2.1
  have B6 := Lib.hid b6
  clear s1 b5 s2 b6 hv0 z1 z2
  go_wp2
  go_ret2
  refine ⟨_, c2, rfl, ?_, B6.out⟩
  have e1 : sealL l i = (m.set i (UInt8.ofNat (v / 256))).set (i + 1) (UInt8.ofNat v) := by
    rw [lay_set m i v (by rw [HL0.out]; exact hat), HV.out, HM.out, lay_lay l i 0 _ hat]; rfl
  rw [e1]
  exact S3.out
end Go.Proofs.Yteadmbfbkgbhpaa
