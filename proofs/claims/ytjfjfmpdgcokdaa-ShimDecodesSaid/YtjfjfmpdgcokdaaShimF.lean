/-
  Contract of the document's own Decode for layer 3. Condition: the bytes that come in read as a list, of at most 2^40.
-/
import Derived.Test.YtjfjfmpdgcokdaaShimD
namespace Go.Proofs.Ytjfjfmpdgcokdaa
open Go.RowKit

theorem number4 (a : Option Addr) (c : Nat) (l : List UInt8) (w : World) (B : Nat) (h : Bts w B a 4 l) :
    Calls Try.prog 30 #[.slice a 4 c] w fun e w' => e = .returned (.int .u64 ((num l : Nat) : Int)) ∧ w = w' := number_calls a 4 c l w B h (by omega)

theorem entI_cells2 (u : Nat) : ec (entI u) = [.int .i64 ((u : Int) / 4096), .int .i64 ((u : Int) / 512 % 8), .int .i64 ((u : Int) % 256)] := by
  have h : ((u % 4096 / 512 : Nat) : Int) = (u : Int) / 512 % 8 := by omega
  unfold ec entI
  simp only [h]
  simp
theorem lastI_int2 (u : Nat) : ((u : Int) / 256 % 2 == 1) = lastI u := by
  unfold lastI
  rw [Bool.beq_eq_decide_eq]
  exact decide_eq_decide.2 (by omega)

set_option maxHeartbeats 1000000 in
theorem refdecode_calls (a : Option Addr) (n c : Nat) (b : List UInt8) (w : World) (h : Bts w w.heap.size a n b) (hn : n ≤ 1099511627776) (hnc : n ≤ c) (hcm : c ≤ maxLen) :
    Calls Try.prog 15 #[.slice a n c] w (DecPost w b) := by
  unfold maxLen at hcm
  have HL := Lib.hid h.1
  have HB := Lib.hid h
  clear h
  go_enter Try.func15, Try.ntmps15
  go_wp2
  go_loopw [5, 6] (fun s t W => ∃ j p cc : Nat, ∃ A : Option Addr, j ≤ 8 ∧ Hid (p = 4 * j) ∧ t = .int .i64 (p : Int) ∧ s = .slice A j cc ∧ AccE W w.heap.size A cc (stk b j) ∧ dec b 8 0 = dec b (8 - j) j ∧ Below w.heap.size w W) (fun s _ _ => 8 - lenOf s)
  case atStart => exact ⟨0, 0, 0, none, Nat.zero_le _, rfl, rfl, rfl, AccR.nil _ _ _, rfl, Below.refl _ _⟩
  case round =>
    obtain ⟨j, p, cc, A, hj, HP, rfl, rfl, hA, hD, hbel⟩ := hrel
    have hp32 : p ≤ 32 := by rw [HP.out]; omega
    have HA := Lib.hid hA
    have HBel := Lib.hid hbel
    clear hA hbel
    by_cases hlt : j < 8
    · have hj8 : ((j : Int) == 8) = false := by rw [beq_eq_false_iff_ne]; omega
      have HS := Lib.hid (dec_step b j hlt hD)
      clear hD
      by_cases hsh : n < p + 4
      · have hD : dec b 8 0 = (0, 4) := by rw [HS.out, if_pos (by rw [HL.out, ← HP.out]; exact hsh)]
        have HD := Lib.hid hD
        clear hD
        go_wp2
        exact bodyPost_ret (v := .tuple #[.slice none 0 0, .slice none 0 0, .int .i64 4]) (by simp [results, Try.results15, go_sem]) rfl (decPost_no HD.out (by omega) rfl HBel.out)
      · have hU := wordAt_lt b j
        have HE := Lib.hid (entI_cells2 (wordAt b j))
        have HLa := Lib.hid (lastI_int2 (wordAt b j))
        have HST := Lib.hid (stk_snoc b j)
        have HD := Lib.hid (show dec b 8 0 = if lastI (wordAt b j) = true then (j + 1, 0) else dec b (8 - (j + 1)) (j + 1) by rw [HS.out, if_neg (by rw [HL.out, ← HP.out]; exact hsh)])
        clear HS
        obtain ⟨b0, o, rfl, hb0, _⟩ := HB.out.2 (by omega)
        have hq : Bts wr w.heap.size (some ⟨b0, o + p, none⟩) 4 ((b.drop (4 * j)).take 4) := by
          have h1 := (HB.out.below HBel.out).rest p (by omega)
          have h2 := h1.front 4 (by omega)
          rwa [HP.out] at h2 ⊢
        have HQ := Lib.hid hq
        have HW := Lib.hid (show wordAt b j = num ((b.drop (4 * j)).take 4) from rfl)
        clear hq
        go_wp2_with fail
        ((with_reducible refine (number4 _ _ _ _ _ HQ.out).mono ?_))
        rintro e w2 ⟨rfl, rfl⟩
        rw [← HW.out]
        obtain ⟨A5, c5, w5, r5, a5, g5⟩ := acce_push HA.out (entI (wordAt b j)) HBel.out.size (by rw [stk_length]; omega) 22
        rw [stk_length, HE.out] at r5
        rw [← HST.out] at a5
        have bel5 : Below w.heap.size w w5 := belr_acc HBel.out HA.out g5
        have R5 := Lib.hid r5
        have A5' := Lib.hid a5
        have BEL5 := Lib.hid bel5
        clear r5 a5 g5 bel5 HA HBel HQ HE HW HST
        generalize wordAt b j = U at *
        cases hl : lastI U
        · rw [hl] at HD HLa
          have hla := HLa.out
          go_wp2_with (at_builtin; refine step_append rfl rfl rfl rfl R5.out ?_)
          exact ⟨⟨j + 1, p + 4, c5, A5, by omega, by have := HP.out; exact (by omega : p + 4 = 4 * (j + 1)), by go_num, rfl, A5'.out, HD.out, BEL5.out⟩, by simp [lenOf]; omega⟩
        · rw [hl] at HD HLa
          have hla := HLa.out
          have hd : dec b 8 0 = (j + 1, 0) := HD.out
          have HD2 := Lib.hid hd
          clear hd HD
          have hrst : rst b = b.drop (p + 4) := by unfold rst; rw [HD2.out, if_pos rfl, HP.out]; congr 1
          have hrl : (rst b).length = n - (p + 4) := by rw [hrst, List.length_drop, HL.out]
          have HRL := Lib.hid hrl
          have HRST := Lib.hid hrst
          clear hrl hrst
          by_cases hcp : c = p + 4
          · obtain rfl : n = p + 4 := by omega
            subst hcp
            have hr0 : rst b = [] := List.eq_nil_of_length_eq_zero (by rw [HRL.out]; omega)
            have HR0 := Lib.hid hr0
            clear hr0 hnc
            go_wp2_with (at_builtin; refine step_append rfl rfl rfl rfl R5.out ?_)
            go_quiet (fail)
            go_wp2
            have hrow := A5'.out.row
            rw [stk_length] at hrow
            refine bodyPost_ret (v := .tuple #[.slice A5 (j + 1) c5, .slice (some ⟨b0, o, none⟩) (p + 4 - (p + 4)) (p + 4 - (p + 4)), .int .i64 0]) (by simp [results, Try.results15, go_sem]) rfl ⟨A5, c5, some ⟨b0, o, none⟩, p + 4 - (p + 4), ?_, ?_, ?_, bel_drewN BEL5.out _⟩
            · rw [HRL.out, HD2.out]
            · rw [HD2.out]; exact hrow.drewN _
            · rw [HR0.out]; exact Bts.nil
          · have hbt : Bts w5 w5.heap.size (some ⟨b0, o + (p + 4), none⟩) (n - (p + 4)) (rst b) := by
              rw [HRST.out]
              exact ((HB.out.below BEL5.out).rest (p + 4) (by omega)).more BEL5.out.size
            have HBT := Lib.hid hbt
            clear hbt
            go_wp2_with (at_builtin; refine step_append rfl rfl rfl rfl R5.out ?_)
            go_quiet (fail)
            go_wp2
            have hrow := A5'.out.row
            rw [stk_length] at hrow
            refine bodyPost_ret (v := .tuple #[.slice A5 (j + 1) c5, .slice (some ⟨b0, o + (p + 4), none⟩) (n - (p + 4)) (c - (p + 4)), .int .i64 0]) (by simp [results, Try.results15, go_sem]) rfl ⟨A5, c5, some ⟨b0, o + (p + 4), none⟩, c - (p + 4), ?_, ?_, ?_, bel_drewN BEL5.out _⟩
            · rw [HRL.out, HD2.out]
            · rw [HD2.out]; exact hrow.drewN _
            · rw [HRL.out]; exact HBT.out
    · have h8 : j = 8 := by omega
      subst h8
      have HD := Lib.hid (show dec b 8 0 = (0, 3) from hD)
      clear hD
      go_wp2
      exact bodyPost_ret (v := .tuple #[.slice none 0 0, .slice none 0 0, .int .i64 3]) (by simp [results, Try.results15, go_sem]) rfl (decPost_no HD.out (by omega) rfl HBel.out)
end Go.Proofs.Ytjfjfmpdgcokdaa
