/-
  The document's Has, and whether two lists of numbers are the same; a node's links are fixed by what they must be. Condition: at most 2^40 numbers.
-/
import Derived.Test.YtkagfgnjfdlicaaGraphD
namespace Go.Proofs.Ytkagfgnjfdlicaa
set_option maxRecDepth 100000
open Go.RowKit

theorem row_int {w : World} {B n : Nat} {a : Option Addr} {l : List Int} (h : Row ei w B a n l) (hn : 0 < n) : ∃ b o : Nat, a = some ⟨b, o, none⟩ ∧ b < B ∧ ∀ (i : Nat) (hi : i < l.length), w.cell? ⟨b, o + i, none⟩ = some (.int .i64 l[i]) := by
  obtain ⟨b, o, e, hb, hc⟩ := h.cells ei_length hn
  refine ⟨b, o, e, hb, fun i hi => ?_⟩
  have := hc i hi 0 (by omega)
  rw [Nat.mul_one, Nat.add_zero] at this
  exact this
theorem rhas_calls (x : Int) (a : Option Addr) (n c B : Nat) (l : List Int) (w : World) (h : Row ei w B a n l) (hn : n ≤ 1099511627776) :
    Calls Try.prog 29 #[.slice a n c, .int .i64 x] w fun e w' => e = .returned (.bool (decide (x ∈ l))) ∧ w' = w := by
  have HLEN := Lib.hid h.1
  have HR := Lib.hid h
  clear h
  go_enter Try.func29, Try.ntmps29
  go_wp2_with fail
  go_loopw [5] (fun t' wr => ∃ i : Nat, i ≤ n ∧ t' = .int .i64 (i : Int) ∧ x ∉ l.take i ∧ wr = w) (fun t' wr => n - (intOf t').toNat)
  case atStart => exact ⟨0, Nat.zero_le _, rfl, by simp, rfl⟩
  case round =>
    obtain ⟨i, hi, rfl, hF, rfl⟩ := hrel
    have HF := Lib.hid hF
    clear hF
    by_cases hlt : i < n
    · obtain ⟨b, o, rfl, hbw, hcell⟩ := row_int HR.out (by omega)
      have hil : i < l.length := by have := HLEN.out; omega
      have hat := hcell i hil
      clear hcell
      by_cases hx : l[i] = x
      · have hb : (l[i] == x) = true := by simp [hx]
        have hm : decide (x ∈ l) = true := by rw [← hx]; simp
        have HMM := Lib.hid hm
        clear hx hm
        go_wp2_with fail
        go_ret
        exact ⟨by rw [HMM.out]; rfl, rfl⟩
      · have hb : (l[i] == x) = false := by simp [hx]
        have F2 := Lib.hid (show x ∉ l.take (i + 1) by
          rw [List.take_succ_eq_append_getElem hil]
          intro hm
          rcases List.mem_append.1 hm with hm | hm
          · exact HF.out hm
          · simp at hm; exact hx hm.symm)
        clear hx
        go_wp2_with fail
        go_roundw
        case rel => exact ⟨i + 1, by omega, rfl, F2.out, trivial⟩
        case measure => simp [intOf]; omega
    · have hm : decide (x ∈ l) = false := by
        have := HF.out
        rw [List.take_of_length_le (by have := HLEN.out; omega)] at this
        simpa using this
      have HMM := Lib.hid hm
      clear hm
      go_wp2_with fail
      go_ret
      exact ⟨by rw [HMM.out]; rfl, rfl⟩

set_option maxHeartbeats 1600000 in
theorem sameints_calls (a b : Option Addr) (n m c d B B' : Nat) (l k : List Int) (w : World) (h : Row ei w B a n l) (hk : Row ei w B' b m k) (hn : n ≤ 1099511627776) (hm : m ≤ 1099511627776) :
    Calls Try.prog 11 #[.slice a n c, .slice b m d] w fun e w' => e = .returned (.bool (decide (l = k))) ∧ ∃ j, w' = w.drewN j := by
  have HLEN := Lib.hid h.1
  have HLEK := Lib.hid hk.1
  have HR := Lib.hid h
  have HK := Lib.hid hk
  clear h hk
  by_cases hnm : n = m
  case neg =>
    have hd : decide (l = k) = false := by
      have h1 := HLEN.out
      have h2 := HLEK.out
      simp only [decide_eq_false_iff_not]
      intro e
      rw [e] at h1; omega
    have hb : ((n : Int) != (m : Int)) = true := by simp; omega
    rw [hd]
    clear hd hnm
    go_enter Try.func11, Try.ntmps11
    go_wp2_with fail
    go_ret
    exact ⟨rfl, 0, rfl⟩
  subst hnm
  have hb : ((n : Int) != (n : Int)) = false := by simp
  go_enter Try.func11, Try.ntmps11
  go_wp2_with fail
  clear hb
  go_loopw [5] (fun t' wr => ∃ i : Nat, i ≤ n ∧ t' = .int .i64 (i : Int) ∧ l.take i = k.take i ∧ ∃ j, wr = w.drewN j) (fun t' wr => n - (intOf t').toNat)
  case atStart => exact ⟨0, Nat.zero_le _, rfl, rfl, 0, rfl⟩
  case round =>
    obtain ⟨i, hi, rfl, hF, j0, rfl⟩ := hrel
    have HF := Lib.hid hF
    clear hF
    by_cases hlt : i < n
    · obtain ⟨b1, o1, rfl, hbw1, hcell1⟩ := row_int HR.out (by omega)
      obtain ⟨b2, o2, rfl, hbw2, hcell2⟩ := row_int HK.out (by omega)
      have hil : i < l.length := by have := HLEN.out; omega
      have hik : i < k.length := by have := HLEK.out; omega
      have hat : w.cell? ⟨b1, o1 + i, none⟩ = some (.int .i64 l[i]) ∧ w.cell? ⟨b2, o2 + i, none⟩ = some (.int .i64 k[i]) := ⟨hcell1 i hil, hcell2 i hik⟩
      have HAT := Lib.hid hat
      obtain ⟨x, hx⟩ : ∃ x, x = l[i] := ⟨_, rfl⟩
      obtain ⟨y, hy⟩ : ∃ y, y = k[i] := ⟨_, rfl⟩
      rw [← hx, ← hy] at HAT
      have HXY := Lib.hid (And.intro hx hy)
      clear hcell1 hcell2 hat hx hy
      go_wp2_with fail
      refine region_seq (fun W => W.cell? ⟨b1, o1 + i, none⟩ = some (.int .i64 x) ∧ W.cell? ⟨b2, o2 + i, none⟩ = some (.int .i64 y)) [(0, true), (1, true), (2, true), (3, true), (4, true), (5, true), (6, true), (7, true), (8, true)]
        (by kernel_rfl) (by kernel_rfl) (by kernel_rfl) (by kernel_rfl) (fun _ _ _ _ _ h => h) HAT.out ?_
      repeat
        refine seq_pure (v := ?_) rfl (by rfl) (fun W hW => ?_) ?_
        rotate_left
        · have t1 := hW.1
          have t2 := hW.2
          clear hW
          go_simp
          try with_reducible rfl
        simp only [Act.put, List.setIfInBounds_toArray, List.set_cons_zero, List.set_cons_succ]
      refine seq_done ?_
      by_cases hxy : x = y
      · have hb : (x != y) = false := by simp [hxy]
        have F2 := Lib.hid (show l.take (i + 1) = k.take (i + 1) by
          rw [List.take_succ_eq_append_getElem hil, List.take_succ_eq_append_getElem hik, HF.out, ← HXY.out.1, ← HXY.out.2, hxy])
        rw [hb]
        clear hb hxy
        go_wp2_with fail
        go_roundw
        case rel => exact ⟨i + 1, by omega, rfl, F2.out, j0 + 1, rfl⟩
        case measure => simp [intOf]; omega
      · have hb : (x != y) = true := by simp [hxy]
        have hd : decide (l = k) = false := by
          simp only [decide_eq_false_iff_not]
          intro e
          subst e
          exact hxy (by rw [HXY.out.1, HXY.out.2])
        have HDD := Lib.hid hd
        rw [hb]
        clear hb hd hxy
        go_wp2_with fail
        go_ret
        exact ⟨by rw [HDD.out]; rfl, j0 + 1, rfl⟩
    · have hd : decide (l = k) = true := by
        have := HF.out
        rw [List.take_of_length_le (by have := HLEN.out; omega), List.take_of_length_le (by have := HLEK.out; omega)] at this
        simpa using this
      have HDD := Lib.hid hd
      clear hd
      go_wp2_with fail
      go_ret
      exact ⟨by rw [HDD.out]; rfl, j0, rfl⟩

/-- Two lists in one strict order that have the same members are the same. -/
theorem ordered_unique {R : Int → Int → Prop} (hirr : ∀ x, ¬ R x x) (hasym : ∀ x y, R x y → ¬ R y x) : ∀ {l k : List Int}, l.Pairwise R → k.Pairwise R → (∀ x, x ∈ l ↔ x ∈ k) → l = k
  | [], [], _, _, _ => rfl
  | [], y :: k, _, _, h => absurd ((h y).2 (by simp)) (by simp)
  | x :: l, [], _, _, h => absurd ((h x).1 (by simp)) (by simp)
  | x :: l, y :: k, hl, hk, h => by
    have h1 := List.pairwise_cons.1 hl
    have h2 := List.pairwise_cons.1 hk
    have hxy : x = y := by
      rcases List.mem_cons.1 ((h x).1 (by simp)) with e | e
      · exact e
      · rcases List.mem_cons.1 ((h y).2 (by simp)) with e2 | e2
        · exact e2.symm
        · exact absurd (h1.1 y e2) (hasym _ _ (h2.1 x e))
    subst hxy
    rw [ordered_unique hirr hasym h1.2 h2.2 (fun z => ?_)]
    constructor
    · intro hz
      rcases List.mem_cons.1 ((h z).1 (by simp [hz])) with e | e
      · subst e; exact absurd (h1.1 z hz) (hirr z)
      · exact e
    · intro hz
      rcases List.mem_cons.1 ((h z).2 (by simp [hz])) with e | e
      · subst e; exact absurd (h2.1 z hz) (hirr z)
      · exact e
theorem outs_unique {L : List Lk} {node : Int} {o o' : List Int} (h : OutsOk L node o) (h' : OutsOk L node o') : o = o' :=
  ordered_unique (R := fun x y => keyT L x < keyT L y ∨ keyT L x = keyT L y ∧ x < y) (fun x => by omega) (fun x y => by omega) h.order h'.order (fun x => (h.mem x).trans (h'.mem x).symm)
end Go.Proofs.Ytkagfgnjfdlicaa
