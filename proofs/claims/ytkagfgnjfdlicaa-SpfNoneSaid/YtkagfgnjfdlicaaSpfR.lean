/-
  The document's routes (viaductref11): Better. Condition: the lists read as whole numbers, at most 2^40 of them.
-/
import Derived.Test.YtkagfgnjfdlicaaSpfMO
import Derived.Test.YtkagfgnjfdlicaaGraphH
namespace Go.Proofs.Ytkagfgnjfdlicaa
set_option maxRecDepth 100000
open Go.RowKit

theorem lxl_at : ∀ (i : Nat) {r s : List Int} {x y : Int}, r.take i = s.take i → r[i]? = some x → s[i]? = some y → x ≠ y → (lxl r s ↔ x < y)
  | 0, [], _, _, _, _, h, _, _ => by simp at h
  | 0, _ :: _, [], _, _, _, _, h, _ => by simp at h
  | 0, u :: r, v :: s, x, y, _, h1, h2, hne => by
    simp at h1 h2
    subst h1
    subst h2
    unfold lxl
    constructor
    · rintro (h | ⟨h, _⟩)
      · exact h
      · exact absurd h hne
    · exact fun h => .inl h
  | i + 1, [], _, _, _, _, h, _, _ => by simp at h
  | i + 1, _ :: _, [], _, _, _, _, h, _ => by simp at h
  | i + 1, u :: r, v :: s, x, y, ht, h1, h2, hne => by
    simp at ht h1 h2
    obtain ⟨rfl, ht⟩ := ht
    have ih := lxl_at i ht h1 h2 hne
    unfold lxl
    rw [ih]
    constructor
    · rintro (h | ⟨_, h⟩)
      · omega
      · exact h
    · exact fun h => .inr ⟨rfl, h⟩

def BetPost (p q : Int × List Int) (w : World) (e : Ending) (w' : World) : Prop := e = .returned (.bool (decide (bet p q))) ∧ ∃ k, w' = w.drewN k
set_option maxHeartbeats 1600000 in
theorem rbetter_calls (c o : Int) (a b : Option Addr) (n m ca cb B B' : Nat) (r s : List Int) (w : World) (h : Row ei w B a n r) (k : Row ei w B' b m s) (hn : n ≤ 1099511627776) (hm : m ≤ 1099511627776) :
    Calls Try.prog 12 #[.int .i64 c, .slice a n ca, .int .i64 o, .slice b m cb] w (BetPost (c, r) (o, s) w) := by
  have hr := h.1
  have hs := k.1
  have HA := Lib.hid h
  have HB := Lib.hid k
  have HRL := Lib.hid hr
  have HSL := Lib.hid hs
  by_cases hc : c = o
  case neg =>
    have hd : decide (bet (c, r) (o, s)) = decide (c < o) := decide_eq_decide.2 (by
      unfold bet
      simp only
      constructor
      · rintro (h | ⟨h, _⟩)
        · exact h
        · exact absurd h hc
      · exact fun h => .inl h)
    unfold BetPost
    rw [hd]
    clear h k hr hs hd
    go_enter Try.func12, Try.ntmps12
    go_wp2
    go_ret
    exact ⟨rfl, 0, rfl⟩
  subst hc
  by_cases hnm : n = m
  case neg =>
    have hd : decide (bet (c, r) (c, s)) = decide (n < m) := decide_eq_decide.2 (by
      unfold bet
      simp only
      constructor
      · rintro (h | ⟨_, h | ⟨h, _⟩⟩) <;> omega
      · exact fun h => .inr ⟨by first | rfl | trivial, .inl (by omega)⟩)
    have hne : ¬ (n : Int) = (m : Int) := by omega
    unfold BetPost
    rw [hd]
    clear h k hr hs hd
    go_enter Try.func12, Try.ntmps12
    go_wp2
    go_ret
    exact ⟨by simp, 0, rfl⟩
  subst hnm
  clear h k hr hs
  go_enter Try.func12, Try.ntmps12
  go_wp2_with fail
  go_loopw [9] (fun t wr => ∃ i j : Nat, i ≤ n ∧ t = .int .i64 (i : Int) ∧ r.take i = s.take i ∧ wr = w.drewN j) (fun t wr => n - (intOf t).toNat)
  case atStart => exact ⟨0, 0, Nat.zero_le _, rfl, by simp, by first | rfl | trivial⟩
  case round =>
    obtain ⟨i, j, hi, rfl, ht, rfl⟩ := hrel
    have HT := Lib.hid ht
    clear ht
    by_cases hlt : i < n
    · obtain ⟨b1, o1, rfl, _, hc1⟩ := row_int HA.out (by omega)
      obtain ⟨b2, o2, rfl, _, hc2⟩ := row_int HB.out (by omega)
      have l1 : i < r.length := by rw [HRL.out]; exact hlt
      have l2 : i < s.length := by rw [HSL.out]; exact hlt
      have d1 := hc1 i l1
      have d2 := hc2 i l2
      have g1 : r[i]? = some r[i] := List.getElem?_eq_getElem l1
      have g2 : s[i]? = some s[i] := List.getElem?_eq_getElem l2
      generalize r[i] = x at d1 g1
      generalize s[i] = y at d2 g2
      have D := Lib.hid (show ∀ W : World, (∃ q, W = w.drewN q) → W.cell? ⟨b1, o1 + i, none⟩ = some (.int .i64 x) ∧ W.cell? ⟨b2, o2 + i, none⟩ = some (.int .i64 y) from by rintro W ⟨q, rfl⟩; exact ⟨d1, d2⟩)
      have G := Lib.hid (And.intro g1 g2)
      have i1 : (i : Int) < (n : Int) := by omega
      clear hc1 hc2 l1 l2 d1 d2 g1 g2
      by_cases hxy : x = y
      · subst hxy
        go_wp2_with fail
        refine region_seq (fun W => ∃ q, W = w.drewN q) [(0, true), (1, true), (2, true), (3, true), (4, true), (5, true), (6, true), (7, true), (8, true)]
          (by kernel_rfl) (by kernel_rfl) (by kernel_rfl) (by kernel_rfl) (fun _ _ _ _ _ h => h) ⟨j + 1, rfl⟩ ?_
        repeat
          refine seq_pure (v := ?_) rfl (by rfl) (fun W hW => ?_) ?_
          rotate_left
          · have e1 := (D.out W hW).1
            have e2 := (D.out W hW).2
            clear hW
            go_simp
            with_reducible rfl
          simp only [Act.put, List.setIfInBounds_toArray, List.set_cons_zero, List.set_cons_succ]
        refine seq_done ?_
        go_wp2_with fail
        go_roundw
        case rel =>
          refine ⟨i + 1, j + 1, by omega, rfl, ?_, rfl⟩
          rw [List.take_add_one, List.take_add_one, HT.out, G.out.1, G.out.2]
        case measure => simp [intOf]; omega
      · have hd : decide (bet (c, r) (c, s)) = decide (x < y) := decide_eq_decide.2 (by
          have := lxl_at i HT.out G.out.1 G.out.2 hxy
          have h1 := HRL.out
          have h2 := HSL.out
          unfold bet
          simp only
          rw [this]
          constructor
          · rintro (h | ⟨_, h | ⟨_, h⟩⟩)
            · omega
            · omega
            · exact h
          · exact fun h => .inr ⟨by first | rfl | trivial, .inr ⟨by omega, h⟩⟩)
        have HD := Lib.hid hd
        clear hd
        go_wp2_with fail
        refine region_seq (fun W => ∃ q, W = w.drewN q) [(0, true), (1, true), (2, true), (3, true), (4, true), (5, true), (6, true), (7, true), (8, true)]
          (by kernel_rfl) (by kernel_rfl) (by kernel_rfl) (by kernel_rfl) (fun _ _ _ _ _ h => h) ⟨j + 1, rfl⟩ ?_
        repeat
          refine seq_pure (v := ?_) rfl (by rfl) (fun W hW => ?_) ?_
          rotate_left
          · have e1 := (D.out W hW).1
            have e2 := (D.out W hW).2
            clear hW
            go_simp
            with_reducible rfl
          simp only [Act.put, List.setIfInBounds_toArray, List.set_cons_zero, List.set_cons_succ]
        refine seq_done ?_
        go_wp2_with fail
        refine region_seq (fun W => ∃ q, W = w.drewN q) [(0, true), (1, true), (2, true), (3, true), (4, true), (5, true), (6, true), (7, true), (8, true), (9, true)]
          (by kernel_rfl) (by kernel_rfl) (by kernel_rfl) (by kernel_rfl) (fun _ _ _ _ _ h => h) ⟨j + 2, rfl⟩ ?_
        repeat
          refine seq_pure (v := ?_) rfl (by rfl) (fun W hW => ?_) ?_
          rotate_left
          · have e1 := (D.out W hW).1
            have e2 := (D.out W hW).2
            clear hW
            go_simp
            with_reducible rfl
          simp only [Act.put, List.setIfInBounds_toArray, List.set_cons_zero, List.set_cons_succ]
        refine seq_done ?_
        go_wp2
        go_ret
        refine ⟨?_, j + 2, rfl⟩
        rw [HD.out]; rfl
    · obtain rfl : i = n := by omega
      have i1 : ¬ (i : Int) < (i : Int) := by omega
      have hd : decide (bet (c, r) (c, s)) = false := by
        have e : r = s := by
          have := HT.out
          rwa [List.take_of_length_le (by rw [HRL.out]; exact Nat.le_refl _), List.take_of_length_le (by rw [HSL.out]; exact Nat.le_refl _)] at this
        rw [e]
        simpa using bet_irrefl (c, s)
      have HD := Lib.hid hd
      clear hd
      go_wp2
      go_ret
      refine ⟨?_, j, rfl⟩
      rw [HD.out]; rfl
end Go.Proofs.Ytkagfgnjfdlicaa
