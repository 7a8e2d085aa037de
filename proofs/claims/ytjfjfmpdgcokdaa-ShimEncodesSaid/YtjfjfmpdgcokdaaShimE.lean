/-
  Contract of the document's own Encode for layer 3. Condition: the entries that come in read as a list.
-/
import Derived.Test.YtjfjfmpdgcokdaaShimD
namespace Go.Proofs.Ytjfjfmpdgcokdaa
open Go.RowKit

theorem digits4 (u : Int) (w : World) (h0 : 0 ≤ u) (h1 : u < 4294967296) :
    Calls Try.prog 22 #[.int .i64 4, .int .u64 u] w (DigitsPost w 4 u.toNat) := by
  have := digits_calls 4 u.toNat w (by omega) (by omega)
  rwa [Int.toNat_of_nonneg h0] at this

theorem refencode_big (a : Option Addr) (n c : Nat) (es : List (Int × Int × Int)) (w : World) (hl : es.length = n) (hn : 8 < n) (hm : n ≤ 4611686018427387904) :
    Calls Try.prog 11 #[.slice a n c] w (EncPost w es) := by
  have HL := Lib.hid hl
  clear hl
  go_enter Try.func11, Try.ntmps11
  go_wp2
  go_ret2
  exact encPost_no (encErr_big (by rw [HL.out]; exact hn)) (by omega) rfl (Below.refl _ _)

set_option maxHeartbeats 1000000 in
theorem refencode_ok (a : Option Addr) (n c : Nat) (es : List (Int × Int × Int)) (w : World) (h : Row ec w w.heap.size a n es) (hn : n ≤ 8) :
    Calls Try.prog 11 #[.slice a n c] w (EncPost w es) := by
  have HR := Lib.hid h
  have HL := Lib.hid h.1
  clear h
  go_enter Try.func11, Try.ntmps11
  go_wp2
  go_loopw [4, 5] (fun s t W => ∃ j cc : Nat, ∃ A : Option Addr, j ≤ n ∧ t = .int .i64 (j : Int) ∧ s = .slice A (4 * j) cc ∧ Acc W w.heap.size A cc (encs n 0 (es.take j)) ∧ (∀ e ∈ es.take j, mE e = true) ∧ Below w.heap.size w W) (fun _ t _ => n - (intOf t).toNat)
  case atStart => exact ⟨0, 0, none, Nat.zero_le _, rfl, rfl, Acc.nil _ _, by simp, Below.refl _ _⟩
  case round =>
    obtain ⟨j, cc, A, hj, rfl, rfl, hB, hM, hbel⟩ := hrel
    by_cases hlt : j < n
    · have hjl : j < es.length := by rw [HL.out]; exact hlt
      obtain ⟨b, o, rfl, hb, hc⟩ := row_at3 (HR.out.below hbel) (by omega)
      have hat := hc j hjl
      have HAT := Lib.hid hat
      obtain ⟨c0, c1, c2⟩ := hat
      have HM := Lib.hid (show mE es[j] = may es[j].1 es[j].2.1 es[j].2.2 from rfl)
      have HN := Lib.hid (show ∀ b, nE es[j] b = (encI es[j].1 es[j].2.1 es[j].2.2 b).toNat from fun _ => rfl)
      have HT := Lib.hid (show es.take (j + 1) = es.take j ++ [es[j]] from List.take_succ_eq_append_getElem hjl)
      have HI := Lib.hid (show es[j] ∈ es from List.getElem_mem hjl)
      have HB := Lib.hid hB
      have HA := Lib.hid hM
      have HBel := Lib.hid hbel
      clear hc hB hM hbel
      generalize es[j] = q at *
      obtain ⟨x, y, z⟩ := q
      simp only at c0 c1 c2 HM HN HAT
      go_wp2_with fail
      ((with_reducible refine (refmay_calls x y z _).mono ?_))
      rintro e w1 ⟨rfl, rfl⟩
      cases hmay : may x y z
      · go_wp2
        go_ret2
        exact encPost_no (encErr_arg (by rw [HL.out]; exact hn) HI.out (by rw [HM.out]; exact hmay)) (by omega) rfl (bel_new HBel.out _)
      · obtain ⟨x0, x1, y0, y1, z0, z1⟩ := may_yes hmay
        have hbw : b < wr.heap.size := Nat.lt_of_lt_of_le hb HBel.out.size
        have up : Below wr.heap.size wr (wr.alloc (.cells #[.int .i64 x, .int .i64 y, .int .i64 z] 24)) := bel_new (Below.refl _ _) _
        have AC1 := Lib.hid (HB.out.bel up)
        have BEL1 := Lib.hid (bel_new HBel.out (.cells #[.int .i64 x, .int .i64 y, .int .i64 z] 24))
        have d0 := (up.cell (p := ⟨b, o + j * 3, none⟩) hbw).trans c0
        have d1 := (up.cell (p := ⟨b, o + j * 3 + 1, none⟩) hbw).trans c1
        have d2 := (up.cell (p := ⟨b, o + j * 3 + 2, none⟩) hbw).trans c2
        clear c0 c1 c2 up HAT HBel HB
        generalize (wr.alloc (.cells #[.int .i64 x, .int .i64 y, .int .i64 z] 24)) = w1 at *
        by_cases hjn : j + 1 = n
        · have hl : ((j : Int) == (n : Int) - 1) = true := by rw [beq_iff_eq]; omega
          have hd : decide (j + 1 = n) = true := decide_eq_true hjn
          have HD := Lib.hid hd
          clear hd
          have HE := Lib.hid (show dig 4 (x * 4096 + y * 512 + z + 256 : Int).toNat = eAt n j (x, y, z) by unfold eAt; rw [HN.out, HD.out]; simp [encI])
          go_wp2
          go_quiet (fail)
          go_wp2_with fail
          ((with_reducible refine (digits4 (x * 4096 + y * 512 + z + 256) _ (by omega) (by omega)).mono ?_))
          rintro e w2 ⟨A2, c2, rfl, h2, b2⟩
          rw [HE.out] at h2
          have a2 := (AC1.out.drewN nq).bel b2
          have bel2 := bel_more (bel_drewN BEL1.out nq) (Nat.le_refl _) b2
          have s2 := h2.bts
          rw [eAt_length] at s2
          obtain ⟨A3, c3, w3, r3, a3, g3, _⟩ := acc_append a2 (cc := c2) s2 bel2.size (by rw [encs_length]; simp; omega) 26
          have bel3 := bel_acc bel2 a2 g3
          have hl3 : (encs n 0 (es.take j)).length = 4 * j := by rw [encs_length, List.length_take]; omega
          have hl4 : 4 * j + 4 = 4 * (j + 1) := by omega
          rw [hl3, hl4] at r3
          have R3 := Lib.hid r3
          have A3' := Lib.hid (show Acc w3 w.heap.size A3 c3 (encs n 0 (es.take (j + 1))) by
            have htl : (es.take j).length = j := by simp; omega
            rw [HT.out, encs_snoc, htl, Nat.zero_add]; exact a3)
          have BEL3 := Lib.hid bel3
          have HA2 := Lib.hid (show ∀ e ∈ es.take (j + 1), mE e = true by
            rw [HT.out]
            intro e he
            rcases List.mem_append.1 he with he | he
            · exact HA.out e he
            · obtain rfl : e = (x, y, z) := by simpa using he
              rw [HM.out]; exact hmay)
          clear h2 b2 a2 bel2 s2 r3 a3 g3 bel3 hl3 hl4
          go_wp2_with (at_builtin; refine step_append rfl rfl rfl rfl R3.out ?_)
          exact ⟨⟨j + 1, c3, A3, by omega, by go_num, by first | rfl | rw [hjn], A3'.out, HA2.out, BEL3.out⟩, by simp [intOf]; omega⟩
        · have hl : ((j : Int) == (n : Int) - 1) = false := by rw [beq_eq_false_iff_ne]; omega
          have hd : decide (j + 1 = n) = false := decide_eq_false hjn
          have HD := Lib.hid hd
          clear hd
          have HE := Lib.hid (show dig 4 (x * 4096 + y * 512 + z : Int).toNat = eAt n j (x, y, z) by unfold eAt; rw [HN.out, HD.out]; simp [encI])
          go_wp2
          go_quiet (fail)
          go_wp2_with fail
          ((with_reducible refine (digits4 (x * 4096 + y * 512 + z) _ (by omega) (by omega)).mono ?_))
          rintro e w2 ⟨A2, c2, rfl, h2, b2⟩
          rw [HE.out] at h2
          have a2 := (AC1.out.drewN nq).bel b2
          have bel2 := bel_more (bel_drewN BEL1.out nq) (Nat.le_refl _) b2
          have s2 := h2.bts
          rw [eAt_length] at s2
          obtain ⟨A3, c3, w3, r3, a3, g3, _⟩ := acc_append a2 (cc := c2) s2 bel2.size (by rw [encs_length]; simp; omega) 26
          have bel3 := bel_acc bel2 a2 g3
          have hl3 : (encs n 0 (es.take j)).length = 4 * j := by rw [encs_length, List.length_take]; omega
          have hl4 : 4 * j + 4 = 4 * (j + 1) := by omega
          rw [hl3, hl4] at r3
          have R3 := Lib.hid r3
          have A3' := Lib.hid (show Acc w3 w.heap.size A3 c3 (encs n 0 (es.take (j + 1))) by
            have htl : (es.take j).length = j := by simp; omega
            rw [HT.out, encs_snoc, htl, Nat.zero_add]; exact a3)
          have BEL3 := Lib.hid bel3
          have HA2 := Lib.hid (show ∀ e ∈ es.take (j + 1), mE e = true by
            rw [HT.out]
            intro e he
            rcases List.mem_append.1 he with he | he
            · exact HA.out e he
            · obtain rfl : e = (x, y, z) := by simpa using he
              rw [HM.out]; exact hmay)
          clear h2 b2 a2 bel2 s2 r3 a3 g3 bel3 hl3 hl4
          go_wp2_with (at_builtin; refine step_append rfl rfl rfl rfl R3.out ?_)
          exact ⟨⟨j + 1, c3, A3, by omega, by go_num, by first | rfl | rw [hjn], A3'.out, HA2.out, BEL3.out⟩, by simp [intOf]; omega⟩
    · have hjn : j = n := by omega
      subst hjn
      have e1 : es.take j = es := List.take_of_length_le (by rw [HL.out]; exact Nat.le_refl _)
      rw [e1] at hB hM
      have h0 := Lib.hid (encErr_ok (by rw [HL.out]; exact hn) hM)
      have HB := Lib.hid hB
      have HBel := Lib.hid hbel
      clear hB hM hbel
      go_wp2
      go_ret2
      have e2 : encR es = encs j 0 es := by rw [encR_ok h0.out, encL, HL.out]
      have e3 : (encR es).length = 4 * j := by rw [e2, encs_length, HL.out]
      refine ⟨A, cc, ?_, ?_, HBel.out⟩
      · rw [h0.out, e3]; rfl
      · rw [e2]; exact HB.out.bts

theorem refencode_calls (a : Option Addr) (n c : Nat) (es : List (Int × Int × Int)) (w : World) (h : Row ec w w.heap.size a n es) (hm : n ≤ 4611686018427387904) :
    Calls Try.prog 11 #[.slice a n c] w (EncPost w es) := by
  by_cases hn : n ≤ 8
  · exact refencode_ok a n c es w h hn
  · exact refencode_big a n c es w h.1 (by omega) hm
end Go.Proofs.Ytjfjfmpdgcokdaa
