/-
  The document's Check. Condition: at most 2^30 links.
-/
import Derived.Test.YtmfmjdkeoiebpaaGraphB
import Derived.Test.YtmfmjdkeoiebpaaGraphI
namespace Go.Proofs.Ytmfmjdkeoiebpaa
set_option maxRecDepth 100000
open Go.RowKit

/-- A link is as it may be, and none ahead of it has the same ends: as the document's answer asks it. -/
def rok (n : Int) (L : List Lk) (i : Nat) : Bool := vld n (L.getD i default) && (fndL L (L.getD i default).f (L.getD i default).t == (i : Int))
theorem fndL_own {L : List Lk} {i : Nat} (hi : i < L.length) : (fndL L L[i].f L[i].t == (i : Int)) = !((L.take i).any (sameE L[i])) := by
  have hself : isE L[i].f L[i].t L[i] = true := by simp [isE]
  cases hs : (L.take i).any (sameE L[i]) with
  | false =>
    have hno : ∀ k (hk : k < L.length), k < i → isE L[i].f L[i].t L[k] = false := fun k hk hlt => by
      have hm : L[k] ∈ L.take i := List.mem_take_iff_getElem.2 ⟨k, by omega, rfl⟩
      have := List.any_eq_false.1 hs _ hm
      cases he : isE L[i].f L[i].t L[k] with
      | false => rfl
      | true =>
        simp only [isE, Bool.and_eq_true, beq_iff_eq] at he
        exact absurd ((sameE_iff _ _).2 ⟨he.1.symm, he.2.symm⟩) this
    rw [fndL_hit hi hno hself]
    simp
  | true =>
    obtain ⟨x, hx, hs2⟩ := List.any_eq_true.1 hs
    obtain ⟨k, hk, rfl⟩ := List.mem_take_iff_getElem.1 hx
    have hkl : k < L.length := by omega
    have he : isE L[i].f L[i].t L[k] = true := by
      have := (sameE_iff _ _).1 hs2
      simp only [isE, Bool.and_eq_true, beq_iff_eq]
      exact ⟨this.1.symm, this.2.symm⟩
    rcases fndL_cases L L[i].f L[i].t with ⟨_, hno⟩ | ⟨j, hj, hf, _⟩
    · have := hno _ (List.getElem_mem hkl)
      rw [he] at this; cases this
    · rw [hf]
      have hji : j ≠ i := by
        intro e
        subst e
        unfold fndL at hf
        cases hq : L.findIdx? (isE L[j].f L[j].t) with
        | none => rw [hq] at hf; simp at hf
        | some q =>
          rw [hq] at hf
          have hqj2 : (q : Int) = (j : Int) := by simpa using hf
          have hqj : q = j := by omega
          subst hqj
          obtain ⟨_, _, h3⟩ := List.findIdx?_eq_some_iff_getElem.1 hq
          have := h3 k (by omega)
          simp [he] at this
      have hb : ((j : Int) == (i : Int)) = false := by rw [beq_eq_false_iff_ne]; omega
      rw [hb]; rfl
theorem rok_eq {n : Int} {L : List Lk} {i : Nat} (hi : i < L.length) : rok n L i = (vld n L[i] && !((L.take i).any (sameE L[i]))) := by
  have hx : L.getD i default = L[i] := by simp [List.getD_eq_getElem?_getD, List.getElem?_eq_getElem hi]
  unfold rok
  rw [hx, fndL_own hi]
theorem vld_false {n : Int} {x : Lk} (h : ¬ (0 ≤ x.f ∧ x.f < n ∧ 0 ≤ x.t ∧ x.t < n ∧ x.f ≠ x.t ∧ 1 ≤ x.m ∧ x.m ≤ 65535)) : vld n x = false := by
  rw [Bool.eq_false_iff]
  intro hc
  simp only [vld, gwn, Bool.and_eq_true, decide_eq_true_eq, Bool.not_eq_true', beq_eq_false_iff_ne] at hc
  omega
theorem vld_true {n : Int} {x : Lk} (h : 0 ≤ x.f ∧ x.f < n ∧ 0 ≤ x.t ∧ x.t < n ∧ x.f ≠ x.t ∧ 1 ≤ x.m ∧ x.m ≤ 65535) : vld n x = true := by
  simp only [vld, gwn, Bool.and_eq_true, decide_eq_true_eq, Bool.not_eq_true', beq_eq_false_iff_ne]
  omega
theorem net_at {n : Int} {L : List Lk} : ∀ i, i ≤ L.length → ((∀ j, j < i → rok n L j = true) ↔ netB n (L.take i) = true)
  | 0, _ => by simp [netB]
  | i + 1, hi => by
    have ih := net_at (n := n) (L := L) i (by omega)
    constructor
    · intro h
      have h1 := ih.1 (fun j hj => h j (by omega))
      have h2 := h i (by omega)
      rw [rok_eq (by omega), Bool.and_eq_true] at h2
      exact net_take (by omega) h1 h2.1 (by simpa using h2.2)
    · intro h j hj
      have h0 : netB n (L.take i) = true := by
        simp only [netB, Bool.and_eq_true, List.all_eq_true, decide_eq_true_eq] at h ⊢
        rw [List.take_succ_eq_append_getElem (by omega)] at h
        exact ⟨fun x hx => h.1 x (List.mem_append_left _ hx), (List.pairwise_append.1 h.2).1⟩
      by_cases hji : j < i
      · exact ih.2 h0 j hji
      · obtain rfl : j = i := by omega
        rw [rok_eq (by omega), Bool.and_eq_true]
        refine ⟨?_, ?_⟩
        · simp only [netB, Bool.and_eq_true, List.all_eq_true] at h
          exact h.1 _ (List.mem_take_iff_getElem.2 ⟨j, by omega, rfl⟩)
        · simp only [netB, Bool.and_eq_true, decide_eq_true_eq] at h
          rw [List.take_succ_eq_append_getElem (by omega)] at h
          have := (List.pairwise_append.1 h.2).2.2
          simp only [Bool.not_eq_true']
          rw [List.any_eq_false]
          intro x hx
          have := this x hx L[j] (by simp)
          simp [this]

set_option maxRecDepth 100000 in
set_option maxHeartbeats 3200000 in
theorem rcheck_calls (n : Int) (p : Option Addr) (m c : Nat) (L : List Lk) (w : World) (h : Row lkc w w.heap.size p m L) (hm : m ≤ 1073741824) :
    Calls Try.prog 13 #[.int .i64 n, .slice p m c] w fun e w' => e = .returned (.int .i64 (chk n L)) ∧ Below w.heap.size w w' := by
  have hlen := h.1
  by_cases q1 : 1 ≤ n
  case neg =>
    have hr : chk n L = 2 := by unfold chk; rw [if_neg (by omega)]
    have q2 : n < 1 := by omega
    rw [hr]
    clear hr h hlen q1
    go_enter Try.func13, Try.ntmps13
    go_wp2_with fail
    all_goals
      go_ret
      exact ⟨rfl, Below.refl _ _⟩
  by_cases q3 : n ≤ 16
  case neg =>
    have hr : chk n L = 2 := by unfold chk; rw [if_neg (by omega)]
    have q2 : ¬ n < 1 := by omega
    have q4 : 16 < n := by omega
    rw [hr]
    clear hr h hlen q1 q3
    go_enter Try.func13, Try.ntmps13
    go_wp2_with fail
    all_goals
      go_ret
      exact ⟨rfl, Below.refl _ _⟩
  have q2 : ¬ n < 1 := by omega
  have q4 : ¬ 16 < n := by omega
  by_cases q5 : 64 < m
  · have hr : chk n L = 3 := by unfold chk; rw [if_pos ⟨q1, q3⟩, if_pos (by omega)]
    have q6 : (64 : Int) < (m : Int) := by omega
    rw [hr]
    clear hr h hlen
    go_enter Try.func13, Try.ntmps13
    go_wp2_with fail
    all_goals
      go_ret
      exact ⟨rfl, Below.refl _ _⟩
  have hr : chk n L = if netB n L = true then 0 else 2 := by unfold chk; rw [if_pos ⟨q1, q3⟩, if_neg (by omega)]
  have q6 : ¬ (64 : Int) < (m : Int) := by omega
  obtain ⟨r, hrr⟩ : ∃ r, r = chk n L := ⟨_, rfl⟩
  rw [← hrr]
  rw [hr] at hrr
  have HRR := Lib.hid hrr
  have HR := Lib.hid h
  have HLEN := Lib.hid hlen
  have hm64 : m ≤ 64 := by omega
  have HN := Lib.hid (And.intro q1 q3)
  clear hr h hlen hrr
  go_enter Try.func13, Try.ntmps13
  go_wp2_with fail
  clear q1 q2 q3 q4 q5 q6
  go_loopw [5] (fun t wr => ∃ i : Nat, i ≤ m ∧ t = .int .i64 (i : Int) ∧ (∀ j, j < i → rok n L j = true) ∧ Below w.heap.size w wr) (fun t wr => m - (intOf t).toNat)
  case atStart => exact ⟨0, Nat.zero_le _, rfl, fun j hj => by omega, Below.refl _ _⟩
  case round =>
    obtain ⟨i, hi, rfl, hO, hB⟩ := hrel
    have HO := Lib.hid hO
    have HB := Lib.hid hB
    clear hO hB
    by_cases hlt : i < m
    · have HRr := Lib.hid ((HR.out.below HB.out).more HB.out.size)
      obtain ⟨b, o, rfl, hbw, hcell⟩ := row_link HRr.out (by omega)
      have hil : i < L.length := by have := HLEN.out; omega
      have hat2 := hcell i hil
      have hx : L[i] = L.getD i default := by simp [List.getD_eq_getElem?_getD, List.getElem?_eq_getElem hil]
      rw [hx] at hat2
      obtain ⟨x, hxx⟩ : ∃ x, x = L.getD i default := ⟨_, rfl⟩
      rw [← hxx] at hat2
      have hrok : rok n L i = (vld n x && (fndL L x.f x.t == (i : Int))) := by unfold rok; rw [← hxx]
      have HRK := Lib.hid hrok
      obtain ⟨d0, d1, d2, d3, d4⟩ := link_cells hat2
      have BA := Lib.hid (bel_alloc HB.out (Nat.le_refl _) (.cells (lkc x).toArray 37))
      have RA := Lib.hid (((HRr.out.below (bel_new (Below.refl _ _) (.cells (lkc x).toArray 37))).more (B' := (wr.alloc (.cells (lkc x).toArray 37)).heap.size) (by simp)))
      have QA := Lib.hid (Blk.new wr 37 (lkc x))
      unfold lkc at BA QA
      clear hcell hat2 hx hxx hrok
      go_upto_region 9 with fail
      have hRA2 := RA.out
      generalize hw1 : wr.alloc (.cells (lkc x).toArray 37) = w1 at hRA2
      have hw2 : wr.alloc (.cells #[.int .i64 x.f, .int .i64 x.t, .int .u64 x.c, .int .i64 x.m, .int .u32 x.g] 37) = w1 := hw1
      rw [hw2] at BA QA ⊢
      have RA3 := Lib.hid hRA2
      have c0 : w1.cell? ⟨wr.heap.size, 0, none⟩ = some (.int .i64 x.f) := Blk.cell QA.out 0
      have c1 : w1.cell? ⟨wr.heap.size, 1, none⟩ = some (.int .i64 x.t) := Blk.cell QA.out 1
      have c3 : w1.cell? ⟨wr.heap.size, 3, none⟩ = some (.int .i64 x.m) := Blk.cell QA.out 3
      clear hw1 hw2 hRA2 RA d0 d1 d2 d3 d4
      have hfind := rfind_calls x.f x.t (some ⟨b, o, none⟩) m c _ L w1 RA3.out (by omega)
      have hbad : rok n L i = false → r = 2 := fun hf => by
        have hnet : netB n L ≠ true := fun hc => by
          have := (net_at (n := n) (L := L) L.length (Nat.le_refl _)).2 (by rw [List.take_length]; exact hc) i hil
          rw [hf] at this; cases this
        rw [HRR.out, if_neg hnet]
      have HBAD := Lib.hid hbad
      clear hbad
      by_cases a306 : x.f < 0
      · have hv := Lib.hid (HBAD.out (by rw [HRK.out, vld_false (by omega)]; rfl))
        go_wp2_with fail
        all_goals
          go_ret
          exact ⟨by rw [hv.out]; rfl, BA.out⟩
      by_cases a489 : n ≤ x.f
      · have hv := Lib.hid (HBAD.out (by rw [HRK.out, vld_false (by omega)]; rfl))
        go_wp2_with fail
        all_goals
          go_ret
          exact ⟨by rw [hv.out]; rfl, BA.out⟩
      by_cases a672 : x.t < 0
      · have hv := Lib.hid (HBAD.out (by rw [HRK.out, vld_false (by omega)]; rfl))
        go_wp2_with fail
        all_goals
          go_ret
          exact ⟨by rw [hv.out]; rfl, BA.out⟩
      by_cases a855 : n ≤ x.t
      · have hv := Lib.hid (HBAD.out (by rw [HRK.out, vld_false (by omega)]; rfl))
        go_wp2_with fail
        all_goals
          go_ret
          exact ⟨by rw [hv.out]; rfl, BA.out⟩
      by_cases a5 : x.f = x.t
      · have e5 : (x.f == x.t) = true := by simp [a5]
        have A5 := Lib.hid a5
        clear a5
        have hv := Lib.hid (HBAD.out (by rw [HRK.out, vld_false (by have := A5.out; omega)]; rfl))
        go_wp2_with fail
        all_goals
          go_ret
          exact ⟨by rw [hv.out]; rfl, BA.out⟩
      have e5 : (x.f == x.t) = false := by simp [a5]
      have A5 := Lib.hid a5
      clear a5
      by_cases a1398 : x.m < 1
      · have hv := Lib.hid (HBAD.out (by rw [HRK.out, vld_false (by omega)]; rfl))
        go_wp2_with fail
        all_goals
          go_ret
          exact ⟨by rw [hv.out]; rfl, BA.out⟩
      by_cases a1582 : 65535 < x.m
      · have hv := Lib.hid (HBAD.out (by rw [HRK.out, vld_false (by omega)]; rfl))
        go_wp2_with fail
        all_goals
          go_ret
          exact ⟨by rw [hv.out]; rfl, BA.out⟩
      have hvt := vld_true (n := n) (x := x) ⟨by omega, by omega, by omega, by omega, A5.out, by omega, by omega⟩
      have HVT := Lib.hid hvt
      obtain ⟨v, hv⟩ : ∃ v, v = fndL L x.f x.t := ⟨_, rfl⟩
      rw [← hv] at hfind HRK
      clear hvt hv
      go_wp2_with fail
      refine hfind.mono ?_
      rintro e w5 ⟨rfl, rfl⟩
      by_cases a8 : v = (i : Int)
      · subst a8
        have e8 : ((i : Int) != (i : Int)) = false := by simp
        have O2 := Lib.hid (show ∀ j, j < i + 1 → rok n L j = true from fun j hj => by
          by_cases hji : j < i
          · exact HO.out j hji
          · obtain rfl : j = i := by omega
            rw [HRK.out, HVT.out]; simp)
        go_wp2_with fail
        go_roundw
        case rel => exact ⟨i + 1, by omega, rfl, O2.out, BA.out⟩
        case measure => simp [intOf]; omega
      · have e8 : (v != (i : Int)) = true := by simp [a8]
        have hv := Lib.hid (HBAD.out (by rw [HRK.out, HVT.out]; simp [a8]))
        clear a8
        go_wp2_with fail
        all_goals
          go_ret
          exact ⟨by rw [hv.out]; rfl, BA.out⟩
    · have hnet : netB n L = true := by
        have := (net_at (n := n) i (by have := HLEN.out; omega)).1 HO.out
        rwa [List.take_of_length_le (by have := HLEN.out; omega)] at this
      have hr0 : r = 0 := by rw [HRR.out, if_pos hnet]
      have HR0 := Lib.hid hr0
      clear hnet hr0
      go_wp2_with fail
      go_ret
      exact ⟨by rw [HR0.out]; rfl, HB.out⟩
end Go.Proofs.Ytmfmjdkeoiebpaa
