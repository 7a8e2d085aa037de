/-
  The walk of the statement ShimLast: for any entries it answers true, and nothing that was there has turned. No condition.
-/
import Derived.Test.YtjfjfmpdgcokdaaShimAlive
import Derived.Test.YtjfjfmpdgcokdaaSeq
namespace Go.Proofs.Ytjfjfmpdgcokdaa
open Go.RowKit

/-- The third and the fourth byte of an entry. -/
theorem encL_get (es : List (Int × Int × Int)) (j k : Nat) (hj : j < es.length) (hk : k < 4) (h : 4 * j + k < (encL es).length) : (encL es)[4 * j + k] = UInt8.ofNat (nE es[j] (decide (j + 1 = es.length)) / 256 ^ (3 - k)) := by
  have h1 := encs_at es.length [] es 0 j hj
  rw [List.append_nil, Nat.zero_add] at h1
  have h2 : ((encL es).drop (4 * j)).take 4 = eAt es.length j es[j] := h1
  have h3 : (((encL es).drop (4 * j)).take 4)[k]? = some (encL es)[4 * j + k] := by
    rw [List.getElem?_take_of_lt hk, List.getElem?_drop, List.getElem?_eq_getElem h]
  rw [h2] at h3
  have h4 : k < (eAt es.length j es[j]).length := by rw [eAt_length]; exact hk
  rw [List.getElem?_eq_getElem h4] at h3
  have h5 := dig_get 4 (nE es[j] (decide (j + 1 = es.length))) k h4
  injection h3 with h3
  rw [← h3]; exact h5

theorem last_long (a : Option Addr) (n c : Nat) (w : World) (hn : 4096 < n) (hm : n ≤ maxLen) :
    Calls Try.prog 7 #[.slice a n c] w fun e w' => e = .returned (.bool true) ∧ Below w.heap.size w w' := by
  unfold maxLen at hm
  go_enter Try.func7, Try.ntmps7
  go_wp2_with fail
  ((with_reducible refine (alive_calls _).mono ?_))
  rintro e w1 ⟨rfl, b1⟩
  go_wp2
  go_ret
  exact ⟨rfl, b1⟩

set_option maxHeartbeats 1000000 in
theorem last_ok (a : Option Addr) (n c : Nat) (es : List (Int × Int × Int)) (w : World) (h : Row ec w w.heap.size a n es) (hn : n ≤ 4096) :
    Calls Try.prog 7 #[.slice a n c] w fun e w' => e = .returned (.bool true) ∧ Below w.heap.size w w' := by
  have HR := Lib.hid h
  have HL := Lib.hid h.1
  clear h
  go_enter Try.func7, Try.ntmps7
  go_wp2_with fail
  ((with_reducible refine (alive_calls _).mono ?_))
  rintro e w1 ⟨rfl, b1⟩
  have B1 := Lib.hid b1
  have HR1 := Lib.hid ((HR.out.below b1).more b1.size)
  clear b1
  go_wp2_with fail
  ((with_reducible refine (encode_calls a n c es w1 HR1.out (by omega)).mono ?_))
  rintro e w2 ⟨A2, c2, rfl, h2, b2⟩
  have B2 := Lib.hid (bel_more B1.out (Nat.le_refl _) b2)
  have HR2 := Lib.hid (HR1.out.below b2)
  have H2 := Lib.hid h2
  clear h2 b2
  by_cases hE : encErr es = 0
  · obtain ⟨h8, hall⟩ := encErr_zero hE
    have hRl : (encR es).length = 4 * n := by rw [encR_ok hE, encL_length, HL.out]
    have H2' := Lib.hid (show Bts w2 w2.heap.size A2 (4 * n) (encL es) by have := H2.out; rwa [hRl, encR_ok hE] at this)
    have HALL := Lib.hid hall
    rw [hRl, hE]
    have h8' : n ≤ 8 := by rw [← HL.out]; exact h8
    clear h8 hall hRl hE H2
    go_wp2
    go_loopw [29] (fun t W => ∃ j m : Nat, j ≤ n ∧ t = .int .i64 (j : Int) ∧ W = w2.drewN m) (fun t _ => n - (intOf t).toNat)
    case atStart => exact ⟨0, 0, Nat.zero_le _, rfl, rfl⟩
    case round =>
      obtain ⟨j, m, hj, rfl, rfl⟩ := hrel
      by_cases hlt : j < n
      · have hjl : j < es.length := by rw [HL.out]; exact hlt
        obtain ⟨b, o, rfl, _, hc⟩ := row_at3 HR2.out (by omega)
        obtain ⟨b2, o2, rfl, _, hc2⟩ := H2'.out.2 (by omega)
        have hlen : (encL es).length = 4 * n := by rw [encL_length, HL.out]
        have c2 : w2.cell? ⟨b, o + j * 3 + 2, none⟩ = some (.int .i64 es[j].2.2) := (hc j hjl).2.2
        have d2 := hc2 (4 * j + 2) (by omega)
        have d3 := hc2 (4 * j + 3) (by omega)
        rw [encL_get es j 2 hjl (by omega)] at d2
        rw [encL_get es j 3 hjl (by omega)] at d3
        have hmay := may_yes (show may es[j].1 es[j].2.1 es[j].2.2 = true from HALL.out es[j] (List.getElem_mem hjl))
        have hN := (nE_eq (HALL.out es[j] (List.getElem_mem hjl)) (decide (j + 1 = es.length))).1
        rw [HL.out] at hN d2 d3
        clear hc hc2 hlen
        generalize nE es[j] (decide (j + 1 = n)) = N at *
        generalize es[j].1 = x at *
        generalize es[j].2.1 = y at *
        generalize es[j].2.2 = z at *
        unfold bv at d2 d3
        rw [UInt8.toNat_ofNat'] at d2 d3
        have d3' : w2.cell? ⟨b2, o2 + (4 * j + 3), none⟩ = some (.int .u8 z) := by
          refine Eq.trans d3 ?_
          have : ((N / 256 ^ (3 - 3) % 2 ^ 8 : Nat) : Int) = z := by unfold encI at hN; split at hN <;> omega
          rw [this]
        have hX : N / 256 ^ (3 - 2) % 2 ^ 8 < 256 := by omega
        have hX2 : N / 256 ^ (3 - 2) % 2 ^ 8 % 2 = if j + 1 = n then 1 else 0 := by
          unfold encI at hN
          by_cases hjn : j + 1 = n
          · simp only [hjn, decide_true, if_true] at hN ⊢; omega
          · simp only [hjn, decide_false, Bool.false_eq_true, if_false] at hN ⊢; omega
        have d2' : w2.cell? ⟨b2, o2 + (4 * j + 2), none⟩ = some (.int .u8 ((N / 256 ^ (3 - 2) % 2 ^ 8 : Nat) : Int)) := d2
        obtain ⟨_, _, _, _, z0, z1⟩ := hmay
        clear d2 d3 hN
        generalize N / 256 ^ (3 - 2) % 2 ^ 8 = X at *
        have k1 : IntKind.i64.wrap (4 * (j : Int)) = 4 * (j : Int) := IntWalk.i64_in _ (by omega)
        have k2 : IntKind.i64.wrap (4 * (j : Int) + 2) = ((4 * j + 2 : Nat) : Int) := (IntWalk.i64_in _ (by omega)).trans (by omega)
        have k3 : IntKind.i64.wrap (4 * (j : Int) + 3) = ((4 * j + 3 : Nat) : Int) := (IntWalk.i64_in _ (by omega)).trans (by omega)
        have k4 : 4 * j + 2 < 4 * n := by omega
        have k5 : 4 * j + 3 < 4 * n := by omega
        have k6 : ((4 * j + 2 : Nat) : Int) < 4 * (n : Int) := by omega
        have k7 : ((4 * j + 3 : Nat) : Int) < 4 * (n : Int) := by omega
        generalize 4 * j + 2 = p2 at *
        generalize 4 * j + 3 = p3 at *
        by_cases hjn : j + 1 = n
        · rw [if_pos hjn] at hX2
          have hx1 : bits .and .u8 ((X : Nat) : Int) 1 = 1 := by
            have h := u8_and_nat X 1 (by omega) (by omega)
            rw [Nat.and_one_is_mod, hX2] at h; exact h
          have hl : ((j : Int) == (n : Int) - 1) = true := by rw [beq_iff_eq]; omega
          clear hX2
          go_wp2
          go_quiet (fail)
          go_wp2
          exact ⟨⟨j + 1, m + nq, by omega, by go_num, rfl⟩, by simp [intOf]; omega⟩
        · rw [if_neg hjn] at hX2
          have hx1 : bits .and .u8 ((X : Nat) : Int) 1 = 0 := by
            have h := u8_and_nat X 1 (by omega) (by omega)
            rw [Nat.and_one_is_mod, hX2] at h; exact h
          have hl : ((j : Int) == (n : Int) - 1) = false := by rw [beq_eq_false_iff_ne]; omega
          clear hX2
          go_wp2
          go_quiet (fail)
          go_wp2
          exact ⟨⟨j + 1, m + nq, by omega, by go_num, rfl⟩, by simp [intOf]; omega⟩
      · go_wp2
        go_ret
        exact ⟨rfl, bel_drewN B2.out m⟩
  · have hr : encR es = [] := encR_no hE
    have hEb : (encErr es != 0) = true := by simpa using hE
    rw [hr]
    generalize encErr es = E at *
    clear hE
    go_wp2
    go_ret
    exact ⟨rfl, B2.out⟩

theorem last_walk (a : Option Addr) (n c : Nat) (w : World) (h : n ≤ c ∧ c ≤ maxLen ∧ ∃ es, Row ec w w.heap.size a n es) :
    Calls Try.prog 7 #[.slice a n c] w fun e w' => e = .returned (.bool true) ∧ Below w.heap.size w w' := by
  obtain ⟨h1, h2, es, hr⟩ := h
  by_cases hn : n ≤ 4096
  · exact last_ok a n c es w hr hn
  · exact last_long a n c w (by omega) (Nat.le_trans h1 h2)
end Go.Proofs.Ytjfjfmpdgcokdaa
