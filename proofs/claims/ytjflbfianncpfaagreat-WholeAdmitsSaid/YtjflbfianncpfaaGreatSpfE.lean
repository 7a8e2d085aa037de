/-
  Contracts of slices.Compare of whole numbers, and of spf.Better. Condition: the lists read as whole numbers, at most 2^40 of them.
-/
import Derived.Test.YtjflbfianncpfaaGreatSpfC
import Derived.Test.YtjflbfianncpfaaGreatHeapQ
namespace Go.Proofs.YtjflbfianncpfaaGreat
set_option maxRecDepth 100000
open Go.RowKit

/-- What a comparison of two lists answers. -/
def cmpL : List Int → List Int → Int
  | [], [] => 0
  | [], _ :: _ => -1
  | _ :: _, [] => 1
  | x :: r, y :: s => if x = y then cmpL r s else cmpI x y
theorem cmpI_cases (x y : Int) : (x < y ∧ cmpI x y = -1) ∨ (y < x ∧ cmpI x y = 1) ∨ (x = y ∧ cmpI x y = 0) := by
  unfold cmpI
  split
  · exact .inl ⟨by assumption, rfl⟩
  · split
    · exact .inr (.inl ⟨by assumption, rfl⟩)
    · exact .inr (.inr ⟨by omega, rfl⟩)
theorem cmpL_lt : ∀ {r s : List Int}, r.length = s.length → (cmpL r s < 0 ↔ lxl r s)
  | [], [], _ => by simp [cmpL, lxl]
  | [], _ :: _, h => by simp at h
  | _ :: _, [], h => by simp at h
  | x :: r, y :: s, h => by
    have ih := cmpL_lt (r := r) (s := s) (by simpa using h)
    unfold cmpL lxl
    rcases cmpI_cases x y with ⟨h1, e⟩ | ⟨h1, e⟩ | ⟨h1, e⟩
    · rw [if_neg (by omega), e]
      exact ⟨fun _ => .inl h1, fun _ => by omega⟩
    · rw [if_neg (by omega), e]
      exact ⟨fun h => absurd h (by omega), fun h => by omega⟩
    · rw [if_pos h1, ih]
      exact ⟨fun h => .inr ⟨h1, h⟩, fun h => by rcases h with h | h; · omega
                                                · exact h.2⟩
theorem or3_bet (c o : Int) (r s : List Int) : decide (or3 (cmpI c o) (cmpI (r.length : Int) (s.length : Int)) (cmpL r s) < 0) = decide (bet (c, r) (o, s)) := by
  refine decide_eq_decide.2 ?_
  unfold or3 bet
  simp only
  rcases cmpI_cases c o with ⟨h1, e1⟩ | ⟨h1, e1⟩ | ⟨h1, e1⟩
  · rw [e1, if_neg (by omega)]
    exact ⟨fun _ => .inl h1, fun _ => by omega⟩
  · rw [e1, if_neg (by omega)]
    exact ⟨fun h => absurd h (by omega), fun h => by omega⟩
  · rw [e1, if_pos rfl]
    rcases cmpI_cases (r.length : Int) (s.length : Int) with ⟨h2, e2⟩ | ⟨h2, e2⟩ | ⟨h2, e2⟩
    · rw [e2, if_neg (by omega)]
      exact ⟨fun _ => .inr ⟨h1, .inl (by omega)⟩, fun _ => by omega⟩
    · rw [e2, if_neg (by omega)]
      exact ⟨fun h => absurd h (by omega), fun h => by omega⟩
    · rw [e2, if_pos rfl, cmpL_lt (by omega)]
      constructor
      · exact fun h => .inr ⟨h1, .inr ⟨by omega, h⟩⟩
      · rintro (h | ⟨_, h | ⟨_, h⟩⟩)
        · omega
        · omega
        · exact h

set_option maxHeartbeats 1600000 in
theorem cmps_calls (a b : Option Addr) (n m ca cb B B' : Nat) (r s : List Int) (w : World) (h : Row ei w B a n r) (k : Row ei w B' b m s) (hn : n ≤ 1099511627776) (hm : m ≤ 1099511627776) :
    Calls Tryz.prog 77 #[.slice a n ca, .slice b m cb] w fun e w' => e = .returned (.int .i64 (cmpL r s)) ∧ w' = w := by
  have HRL := Lib.hid h.1
  have HSL := Lib.hid k.1
  have HA := Lib.hid h
  have HB := Lib.hid k
  clear h k
  go_enter Tryz.func77, Tryz.ntmps77
  go_wp2_with fail
  go_loopw [11] (fun t wr => ∃ i : Nat, i ≤ n ∧ i ≤ m ∧ t = .int .i64 (i : Int) ∧ cmpL (r.drop i) (s.drop i) = cmpL r s ∧ wr = w) (fun t wr => n - (intOf t).toNat)
  case atStart => exact ⟨0, Nat.zero_le _, Nat.zero_le _, rfl, rfl, by first | rfl | trivial⟩
  case round =>
    obtain ⟨i, hi, hj, rfl, hd, rfl⟩ := hrel
    have HD := Lib.hid hd
    clear hd
    by_cases hlt : i < n
    · obtain ⟨b1, o1, rfl, _, hc1⟩ := row_int HA.out (by omega)
      have l1 : i < r.length := by rw [HRL.out]; exact hlt
      have d1 := hc1 i l1
      have i1 : (i : Int) < (n : Int) := by omega
      by_cases hlm : i < m
      · obtain ⟨b2, o2, rfl, _, hc2⟩ := row_int HB.out (by omega)
        have l2 : i < s.length := by rw [HSL.out]; exact hlm
        have d2 := hc2 i l2
        have j1 : (i : Int) < (m : Int) := by omega
        have j2 : ¬ (m : Int) ≤ (i : Int) := by omega
        have e1 : r.drop i = r[i] :: r.drop (i + 1) := List.drop_eq_getElem_cons l1
        have e2 : s.drop i = s[i] :: s.drop (i + 1) := List.drop_eq_getElem_cons l2
        generalize r[i] = x at d1 e1
        generalize s[i] = y at d2 e2
        have hcp := compare_calls x y wr
        have hstep : cmpL r s = if x = y then cmpL (r.drop (i + 1)) (s.drop (i + 1)) else cmpI x y := by
          rw [← HD.out, e1, e2]; rfl
        have HS := Lib.hid hstep
        clear hc1 hc2 l1 l2 e1 e2 hstep
        by_cases hxy : x = y
        · have h0 : cmpI x y = 0 := by unfold cmpI; rw [if_neg (by omega), if_neg (by omega)]
          rw [h0] at hcp
          have hs := HS.out
          rw [if_pos hxy] at hs
          have HS2 := Lib.hid hs
          have HXY := Lib.hid hxy
          clear h0 hs hxy HS
          go_wp2_with fail
          ((with_reducible refine hcp.mono ?_))
          rintro e w' ⟨rfl, rfl⟩
          go_wp2_with fail
          go_roundw
          case rel => exact ⟨i + 1, by omega, by omega, rfl, HS2.out.symm, by first | rfl | trivial⟩
          case measure => simp [intOf]; omega
        · have h0 : ¬ cmpI x y = 0 := by rcases cmpI_cases x y with ⟨_, e⟩ | ⟨_, e⟩ | ⟨e, _⟩ <;> omega
          have hs := HS.out
          rw [if_neg hxy] at hs
          obtain ⟨z, hz⟩ : ∃ z, z = cmpI x y := ⟨_, rfl⟩
          rw [← hz] at hcp h0 hs
          have HZ := Lib.hid hs
          clear hs hxy HS hz
          go_wp2_with fail
          ((with_reducible refine hcp.mono ?_))
          rintro e w' ⟨rfl, rfl⟩
          go_wp2
          go_ret
          exact ⟨by rw [HZ.out]; rfl, rfl⟩
      · obtain rfl : i = m := by omega
        have j2 : (i : Int) ≤ (i : Int) := by omega
        have e1 : r.drop i = r[i] :: r.drop (i + 1) := List.drop_eq_getElem_cons l1
        have e2 : s.drop i = [] := List.drop_of_length_le (by rw [HSL.out]; exact Nat.le_refl _)
        have hv : cmpL r s = 1 := by
          rw [← HD.out, e1, e2]; rfl
        have HV := Lib.hid hv
        clear hc1 hv e1 e2
        generalize r[i] = x at d1
        go_wp2
        go_ret
        exact ⟨by rw [HV.out]; rfl, rfl⟩
    · obtain rfl : i = n := by omega
      have i1 : ¬ (i : Int) < (i : Int) := by omega
      have e1 : r.drop i = [] := List.drop_of_length_le (by rw [HRL.out]; exact Nat.le_refl _)
      by_cases hlm : i < m
      · have j1 : (i : Int) < (m : Int) := by omega
        have hv : cmpL r s = -1 := by
          rw [← HD.out, e1, List.drop_eq_getElem_cons (by rw [HSL.out]; exact hlm)]; rfl
        have HV := Lib.hid hv
        clear hv e1
        go_wp2
        go_ret
        exact ⟨by rw [HV.out]; rfl, rfl⟩
      · obtain rfl : i = m := by omega
        have hv : cmpL r s = 0 := by
          have e2 : s.drop i = [] := List.drop_of_length_le (by rw [HSL.out]; exact Nat.le_refl _)
          rw [← HD.out, e1, e2]; rfl
        have HV := Lib.hid hv
        clear hv e1
        go_wp2
        go_ret
        exact ⟨by rw [HV.out]; rfl, rfl⟩

set_option maxHeartbeats 1600000 in
theorem better_ok : BetterOk := by
  intro c o a b n m ca cb r s w h k hn hm
  have hd := or3_bet c o r s
  rw [h.1, k.1] at hd
  rw [← hd]
  have h1 := fun W => compare_calls c o W
  have h2 := fun W => compare_calls (n : Int) (m : Int) W
  have h3 := cmps_calls a b n m ca cb w.heap.size w.heap.size r s w h k hn hm
  clear hd h k
  generalize cmpI c o = k1 at *
  generalize cmpI (n : Int) (m : Int) = k2 at *
  generalize cmpL r s = k3 at *
  have H1 := Lib.hid h1
  have H2 := Lib.hid h2
  have H3 := Lib.hid h3
  clear h1 h2 h3
  go_enter Tryz.func46, Tryz.ntmps46
  go_wp2_with fail
  ((with_reducible refine (H1.out _).mono ?_))
  rintro e w1 ⟨rfl, rfl⟩
  go_wp2_with fail
  ((with_reducible refine (H2.out _).mono ?_))
  rintro e w2 ⟨rfl, rfl⟩
  go_wp2_with fail
  ((with_reducible refine H3.out.mono ?_))
  rintro e w3 ⟨rfl, rfl⟩
  have B4 := Lib.hid (bel_new (Below.refl w3.heap.size w3) (.cells #[.int .i64 k1, .int .i64 k2, .int .i64 k3] 3))
  have X4 := Lib.hid (Blk.new w3 3 [.int .i64 k1, .int .i64 k2, .int .i64 k3])
  have ho := or_calls k1 k2 k3 w3.heap.size _ (X4.out.cell 0) (X4.out.cell 1) (X4.out.cell 2)
  go_wp2_with fail
  ((with_reducible refine ho.mono ?_))
  rintro e w5 ⟨rfl, rfl⟩
  go_wp2
  go_ret
  exact ⟨rfl, B4.out⟩
end Go.Proofs.YtjflbfianncpfaaGreat
