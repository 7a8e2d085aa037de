/-
  slices.Compact of whole numbers that a call itself gathered and that are in order: what is left of them. Condition: at most 2^40 numbers.
-/
import Derived.Test.YtpgbfjeejkeibaaGrT
import Derived.Test.YtpgbfjeejkeibaaSortI
import Derived.Lib.SliceRun
namespace Go.Proofs.Ytpgbfjeejkeibaa
open Go.RowKit

section
variable {w : World} {base g c n : Nat} {f : Nat → Int}
theorem Arr.short (h : Arr w base g c n f) (k : Nat) (hk : k ≤ n) : Arr w base g c k f := by
  rcases h.2 with ⟨hv, _⟩ | ⟨g', cap, cur, hv, hbase, hb, h1, h2, h3, h4⟩
  · cases hv
  injection hv with e1 e2 e3
  injection e1 with e1
  injection e1 with e1
  subst e1
  subst e3
  rw [lst_length] at h1
  refine ⟨by rw [ei_flat]; simp, .inr ⟨g, c, cur, rfl, hbase, hb, by rw [lst_length]; omega, h2, h3, ?_⟩⟩
  rw [ei_flat, lst_length, Nat.mul_one] at *
  have : cur.toList.take k = (cur.toList.take n).take k := by rw [List.take_take, Nat.min_eq_left hk]
  rw [this, h4, ← List.map_take]
  congr 1
  apply List.ext_getElem?
  intro i
  rcases Nat.lt_or_ge i k with hi | hi
  · rw [List.getElem?_take_of_lt hi, lst_get _ _ _ (by omega), lst_get _ _ _ hi]
  · rw [List.getElem?_eq_none (by rw [List.length_take, lst_length]; omega), List.getElem?_eq_none (by rw [lst_length]; exact hi)]
theorem Arr.cap (h : Arr w base g c n f) : n ≤ c ∧ c ≤ maxLen := by have := AccR.cap h; rwa [lst_length] at this
theorem lst_far (k i : Nat) (f : Nat → Int) (x : Int) (h : k ≤ i) : lst k (upd f i x) = lst k f := by
  apply List.ext_getElem?
  intro j
  rcases Nat.lt_or_ge j k with hj | hj
  · rw [lst_get _ _ _ hj, lst_get _ _ _ hj]; unfold upd; rw [if_neg (by omega)]
  · rw [List.getElem?_eq_none (by rw [lst_length]; exact hj), List.getElem?_eq_none (by rw [lst_length]; exact hj)]
theorem arr_clear : ∀ (m : Nat) (w : World) (o k : Nat), k ≤ o → Arr w base g c k f → Arr (w.setCells g o (List.replicate m (.int .i64 0))) base g c k f ∧ w.grownBy (w.setCells g o (List.replicate m (.int .i64 0))) (some g)
  | 0, w, o, k, _, h => ⟨h, World.grownBy.refl _ _⟩
  | m + 1, w, o, k, hk, h => by
    rw [List.replicate_succ]
    unfold World.setCells
    have h1 := h.set o 0
    have h2 : Arr (w.setCell ⟨g, o, none⟩ (.int .i64 0)) base g c k f := by
      have := h1.1
      unfold Arr at this ⊢
      rwa [lst_far k o f 0 hk] at this
    have h3 := arr_clear m _ (o + 1) k (by omega) h2
    exact ⟨h3.1, h1.2.trans h3.2⟩
end
theorem zeroI (w : World) : (zeroValue 3).run Try.prog w = .ok (.int .i64 0) w := by kernel_rfl

/-- What is kept so far: what lies below k is in order, each once, and is what lay below q. -/
structure Kept (n q k : Nat) (f f' : Nat → Int) : Prop where
  kq : k + 1 ≤ q
  qn : q ≤ n
  pos : 1 ≤ k
  rest : ∀ i, k ≤ i → f' i = f i
  order : ∀ i j, i < j → j < k → f' i < f' j
  last : f' (k - 1) = f (q - 1)
  fwd : ∀ i, i < k → ∃ j, j < q ∧ f' i = f j
  back : ∀ j, j < q → ∃ i, i < k ∧ f j = f' i
section
variable {n q k : Nat} {f f' : Nat → Int}
theorem Kept.skip (h : Kept n q k f f') (hq : q < n) (he : f q = f (q - 1)) : Kept n (q + 1) k f f' := by
  have := h.kq
  have := h.pos
  refine ⟨by omega, by omega, h.pos, h.rest, h.order, by rw [h.last, ← he]; rfl, fun i hi => ?_, fun j hj => ?_⟩
  · obtain ⟨j, hj, e⟩ := h.fwd i hi; exact ⟨j, by omega, e⟩
  · by_cases h1 : j = q
    · subst h1; exact ⟨k - 1, by omega, by rw [he, h.last]⟩
    · exact h.back j (by omega)
theorem Kept.take (h : Kept n q k f f') (hq : q < n) (hl : f (q - 1) < f q) : Kept n (q + 1) (k + 1) f (upd f' k (f q)) := by
  have h1 := h.kq
  have h2 := h.pos
  refine ⟨by omega, by omega, by omega, fun i hi => ?_, fun i j hij hj => ?_, ?_, fun i hi => ?_, fun j hj => ?_⟩
  · unfold upd; rw [if_neg (by omega)]; exact h.rest i (by omega)
  · unfold upd
    by_cases hjk : j = k
    · rw [if_neg (by omega), if_pos hjk]
      have hle : f' i ≤ f' (k - 1) := by
        rcases Nat.lt_or_ge i (k - 1) with h3 | h3
        · exact Int.le_of_lt (h.order i (k - 1) h3 (by omega))
        · obtain rfl : i = k - 1 := by omega
          exact Int.le_refl _
      have := h.last
      omega
    · rw [if_neg (by omega), if_neg hjk]; exact h.order i j hij (by omega)
  · unfold upd; rw [if_pos (by omega)]; rfl
  · unfold upd
    by_cases hik : i = k
    · rw [if_pos hik]; exact ⟨q, by omega, rfl⟩
    · rw [if_neg hik]
      obtain ⟨j, hj, e⟩ := h.fwd i (by omega)
      exact ⟨j, by omega, e⟩
  · unfold upd
    by_cases hjq : j = q
    · subst hjq; exact ⟨k, by omega, by rw [if_pos rfl]⟩
    · obtain ⟨i, hi, e⟩ := h.back j (by omega)
      exact ⟨i, by omega, by rw [if_neg (by omega)]; exact e⟩
end

def CompPost (w : World) (base : Nat) (A : Option Addr) (l : List Int) (e : Ending) (w' : World) : Prop :=
  ∃ (o : List Int) (c' : Nat), e = .returned (.slice A o.length c') ∧ AccI w' base A c' o ∧ o.Pairwise (· < ·) ∧ (∀ x, x ∈ o ↔ x ∈ l) ∧ w.grownBy w' (blk A)

set_option maxHeartbeats 1600000 in
theorem compact_some (base g c n : Nat) (f : Nat → Int) (w : World) (h : Arr w base g c n f) (h2 : 2 ≤ n) (hn : n ≤ 1099511627776) (hs : ∀ i j, i < j → j < n → f i ≤ f j) :
    Calls Try.prog 35 #[.slice (some ⟨g, 0, none⟩) n c] w fun e w' => ∃ (k : Nat) (f' : Nat → Int), e = .returned (.slice (some ⟨g, 0, none⟩) k c) ∧ Arr w' base g c k f' ∧ (∀ i j, i < j → j < k → f' i < f' j) ∧ (∀ i, i < k → ∃ j, j < n ∧ f' i = f j) ∧ (∀ j, j < n → ∃ i, i < k ∧ f j = f' i) ∧ w.grownBy w' (some g) := by
  have H := Lib.hid h
  have HS := Lib.hid hs
  have hcap := h.cap.1
  have hb1 : ¬ (n : Int) < 2 := by omega
  clear h hs
  go_enter Try.func35, Try.ntmps35
  go_wp2_with fail
  clear hb1
  go_loopw [3] (fun t wr => ∃ k : Nat, 1 ≤ k ∧ k ≤ n ∧ t = .int .i64 (k : Int) ∧ (∀ i j, i < j → j < k → f i < f j) ∧ Arr wr base g c n f ∧ w.grownBy wr (some g)) (fun t wr => n - (intOf t).toNat)
  case atStart => exact ⟨1, Nat.le_refl _, by omega, rfl, fun i j h1 h2 => by omega, H.out, World.grownBy.refl _ _⟩
  case round =>
    obtain ⟨k, hk1, hkn, rfl, hO, hA, hG⟩ := hrel
    have HO := Lib.hid hO
    have HA := Lib.hid hA
    have HG := Lib.hid hG
    clear hO hA hG
    by_cases hlt : k < n
    · obtain ⟨q, hq⟩ : ∃ q, k = q + 1 := ⟨k - 1, by omega⟩
      have HQ := Lib.hid hq
      have wq : IntKind.i64.wrap ((k : Int) - 1) = (q : Int) := by rw [IntWalk.i64_in _ (by omega)]; omega
      have i1 : (k : Int) < (n : Int) := by omega
      have i2 : (q : Int) < (n : Int) := by omega
      have i3 : q < n := by omega
      have hcell : wr.cell? ⟨g, k, none⟩ = some (.int .i64 (f k)) ∧ wr.cell? ⟨g, q, none⟩ = some (.int .i64 (f q)) := ⟨HA.out.cell k hlt, HA.out.cell q i3⟩
      have HC := Lib.hid hcell
      have hle := HS.out q k (by omega) hlt
      clear hcell hq
      go_wp2_with fail
      refine region_seq (fun W => W.cell? ⟨g, k, none⟩ = some (.int .i64 (f k)) ∧ W.cell? ⟨g, q, none⟩ = some (.int .i64 (f q))) [(0, true), (1, true), (2, true), (3, true), (4, true), (5, true), (6, true), (7, true), (8, true), (9, true)]
        (by kernel_rfl) (by kernel_rfl) (by kernel_rfl) (by kernel_rfl) (fun _ _ _ _ _ h => h) HC.out ?_
      repeat
        refine seq_pure (v := ?_) rfl (by rfl) (fun W hW => ?_) ?_
        rotate_left
        · have t1 := hW.1
          have t2 := hW.2
          clear hW
          go_simp
          try with_reducible rfl
        simp only [Act.put, List.setIfInBounds_toArray, List.set_cons_zero, List.set_cons_succ]
      refine seq_done ?_
      clear wq i2
      by_cases heq : f k = f q
      · have hb : (f k == f q) = true := by simp [heq]
        have K0 : Kept n (k + 1) k f f := ⟨Nat.le_refl _, by omega, hk1, fun _ _ => rfl, HO.out, by have := HQ.out; rw [show k - 1 = q by omega, show k + 1 - 1 = k by omega, heq], fun i hi => ⟨i, by omega, rfl⟩, fun j hj => by
          by_cases h1 : j = k
          · subst h1; exact ⟨q, by have := HQ.out; omega, heq⟩
          · exact ⟨j, by omega, rfl⟩⟩
        have HK0 := Lib.hid K0
        have A0 := Lib.hid (show Arr wr.drew base g c n f from HA.out)
        have G0 := Lib.hid (gb_drew HG.out)
        clear heq K0 HC HA HG HO hle
        generalize wr.drew = w5 at *
        go_wp2_with fail
        clear hb i1 i3 hlt
        have hkn2 : k < n := by have := HK0.out.qn; omega
        go_loopw [3, 5] (fun s t wr => ∃ (kk j : Nat) (f' : Nat → Int), 1 ≤ j ∧ k + j ≤ n ∧ s = .int .i64 (kk : Int) ∧ t = .int .i64 (j : Int) ∧ Arr wr base g c n f' ∧ Kept n (k + j) kk f f' ∧ w.grownBy wr (some g)) (fun s t wr => n - k - (intOf t).toNat)
        case atStart => exact ⟨k, 1, f, Nat.le_refl _, by omega, rfl, rfl, A0.out, HK0.out, G0.out⟩
        case round =>
          clear A0 G0
          obtain ⟨kk, j, f', hj1, hjn, rfl, rfl, hA, hK, hG⟩ := hrel
          have HA := Lib.hid hA
          have HKK := Lib.hid hK
          have HG := Lib.hid hG
          have hkk := hK.kq
          clear hA hK hG
          by_cases hlt : j < n - k
          · obtain ⟨q2, hq2⟩ : ∃ q, j = q + 1 := ⟨j - 1, by omega⟩
            have HQ2 := Lib.hid hq2
            have hjb : j < 1099511627776 := by omega
            have wq : IntKind.i64.wrap ((j : Int) - 1) = (q2 : Int) := by rw [IntWalk.i64_in _ (by omega)]; omega
            have i4 : k + j < n := by omega
            have i3 : k + q2 < n := by omega
            have i5 : q2 < n - k := by omega
            have hcell : wr.cell? ⟨g, k + j, none⟩ = some (.int .i64 (f (k + j))) ∧ wr.cell? ⟨g, k + q2, none⟩ = some (.int .i64 (f (k + q2))) := by
              have h1 := HA.out.cell (k + j) i4
              have h2 := HA.out.cell (k + q2) i3
              rw [HKK.out.rest _ (by omega)] at h1 h2
              exact ⟨h1, h2⟩
            have HC := Lib.hid hcell
            have hle := HS.out (k + q2) (k + j) (by omega) i4
            clear hcell hq2
            go_wp2_with fail
            refine region_seq (fun W => W.cell? ⟨g, k + j, none⟩ = some (.int .i64 (f (k + j))) ∧ W.cell? ⟨g, k + q2, none⟩ = some (.int .i64 (f (k + q2)))) [(0, true), (1, true), (2, true), (3, true), (4, true), (5, true), (6, true), (7, true), (8, true), (9, true)]
              (by kernel_rfl) (by kernel_rfl) (by kernel_rfl) (by kernel_rfl) (fun _ _ _ _ _ h => h) HC.out ?_
            repeat
              refine seq_pure (v := ?_) rfl (by rfl) (fun W hW => ?_) ?_
              rotate_left
              · have t1 := hW.1
                have t2 := hW.2
                clear hW
                go_simp
                try with_reducible rfl
              simp only [Act.put, List.setIfInBounds_toArray, List.set_cons_zero, List.set_cons_succ]
            refine seq_done ?_
            have HC1 := Lib.hid (show wr.drew.cell? ⟨g, k + j, none⟩ = some (.int .i64 (f (k + j))) from HC.out.1)
            have A1 := Lib.hid (show Arr wr.drew base g c n f' from HA.out)
            have G1 := Lib.hid (gb_drew HG.out)
            clear wq HA HG HC
            generalize wr.drew = w5 at *
            have hkb : kk < 1099511627776 := by omega
            by_cases heq : f (k + j) = f (k + q2)
            · have hb : (f (k + j) != f (k + q2)) = false := by simp [heq]
              have K2 := Lib.hid (HKK.out.skip i4 (by have := HQ2.out; rw [show k + j - 1 = k + q2 by omega]; exact heq))
              clear heq hle
              go_wp2_with fail
              go_roundw
              case rel => exact ⟨kk, j + 1, f', by omega, by omega, rfl, rfl, A1.out, K2.out, G1.out⟩
              case measure => simp [intOf]; omega
            · have hb : (f (k + j) != f (k + q2)) = true := by simp [heq]
              have K2 := Lib.hid (HKK.out.take i4 (by have := HQ2.out; rw [show k + j - 1 = k + q2 by omega]; omega))
              have hkkn : kk < n := by omega
              have c1 := HC1.out
              have d1 := A1.out.free kk
              have c2 := A1.out.cell kk hkkn
              clear heq hle
              go_wp2_with fail
              have A2 := A1.out.set kk (f (k + j))
              go_roundw
              case rel => exact ⟨kk + 1, j + 1, upd f' kk (f (k + j)), by omega, by omega, rfl, rfl, A2.1, K2.out, G1.out.trans A2.2⟩
              case measure => simp [intOf]; omega
          · have hjk : k + j = n := by omega
            have hkkn : kk < n := by omega
            have hkc : kk ≤ c := by omega
            have hclr := fun ty => Lib.run_clear_slice (P := Try.prog) wr 30 3 ty (.int .i64 0) Try.underlying30 zeroI rfl rfl g kk (n - kk) (c - kk) (by omega) (fun j hj => by rw [HA.out.cell (kk + j) (by omega)]; rfl) (fun j hj => HA.out.free (kk + j))
            have A2 := arr_clear (n - kk) wr kk kk (Nat.le_refl _) (HA.out.short kk (by omega))
            have HA2 := Lib.hid A2
            have KF := HKK.out
            rw [hjk] at KF
            have HKF := Lib.hid KF
            clear A2 KF
            generalize wr.setCells g kk (List.replicate (n - kk) (.int .i64 0)) = w6 at *
            go_wp2_with fail
            go_ret
            exact ⟨kk, f', rfl, HA2.out.1, HKF.out.order, HKF.out.fwd, HKF.out.back, HG.out.trans HA2.out.2⟩
      · have hb : (f k == f q) = false := by simp [heq]
        have O2 : ∀ i j, i < j → j < k + 1 → f i < f j := fun i j h1 h2 => by
          rcases Nat.lt_or_ge j k with h3 | h3
          · exact HO.out i j h1 h3
          · obtain rfl : j = k := by omega
            have := HQ.out
            have hiq : f i ≤ f q := by
              rcases Nat.lt_or_ge i q with h4 | h4
              · exact HS.out i q h4 i3
              · obtain rfl : i = q := by omega
                exact Int.le_refl _
            omega
        have HO2 := Lib.hid O2
        clear O2 heq hle
        go_wp2_with fail
        go_roundw
        case rel => exact ⟨k + 1, by omega, by omega, rfl, HO2.out, HA.out, gb_drew HG.out⟩
        case measure => simp [intOf]; omega
    · obtain rfl : k = n := by omega
      go_wp2_with fail
      go_ret
      exact ⟨k, f, rfl, HA.out, HO.out, fun i hi => ⟨i, hi, rfl⟩, fun i hi => ⟨i, hi, rfl⟩, HG.out⟩

theorem compact_calls (base c : Nat) (A : Option Addr) (l : List Int) (w : World) (h : AccI w base A c l) (hn : l.length ≤ 1099511627776) (hs : l.Pairwise (· ≤ ·)) :
    Calls Try.prog 35 #[.slice A l.length c] w (CompPost w base A l) := by
  by_cases h2 : 2 ≤ l.length
  · obtain ⟨g, rfl⟩ : ∃ g, A = some ⟨g, 0, none⟩ := by
      rcases h.2 with ⟨_, h1⟩ | ⟨g, cap, cur, hv, _⟩
      · omega
      · injection hv with e1
        exact ⟨g, e1⟩
    have H : Arr w base g c l.length (fun k => l.getD k 0) := by unfold Arr; rw [← lst_of]; exact h
    refine (compact_some base g c l.length _ w H h2 hn (fun i j hij hj => ?_)).mono ?_
    · have := List.pairwise_iff_getElem.1 hs i j (by omega) hj hij
      simp only [List.getD_eq_getElem?_getD, List.getElem?_eq_getElem hj, List.getElem?_eq_getElem (Nat.lt_trans hij hj), Option.getD_some]
      exact this
    · rintro e w' ⟨k, f', rfl, hA, hO, hF, hB, hG⟩
      refine ⟨lst k f', c, by rw [lst_length], hA, ?_, fun x => ?_, hG⟩
      · rw [List.pairwise_iff_getElem]
        intro i j hi hj hij
        rw [lst_length] at hi hj
        have e1 : (lst k f')[i] = f' i := by simp [lst]
        have e2 : (lst k f')[j] = f' j := by simp [lst]
        rw [e1, e2]; exact hO i j hij hj
      · rw [lst_mem]
        conv => rhs; rw [lst_of l, lst_mem]
        constructor
        · rintro ⟨i, hi, rfl⟩
          obtain ⟨j, hj, e⟩ := hF i hi
          exact ⟨j, hj, e.symm⟩
        · rintro ⟨j, hj, rfl⟩
          obtain ⟨i, hi, e⟩ := hB j hj
          exact ⟨i, hi, e.symm⟩
  · have hl : (l.length : Int) < 2 := by omega
    have hl2 : l.length < 2 := by omega
    have hp : l.Pairwise (· < ·) := by
      match l, hl2 with
      | [], _ => exact List.Pairwise.nil
      | [x], _ => exact List.pairwise_singleton _ _
    generalize hlen : l.length = n at *
    go_enter Try.func35, Try.ntmps35
    go_wp2_with fail
    go_ret
    subst hlen
    exact ⟨l, c, rfl, h, hp, fun _ => Iff.rfl, World.grownBy.refl _ _⟩

def SortPost (w : World) (base : Nat) (A : Option Addr) (c : Nat) (l : List Int) (e : Ending) (w' : World) : Prop :=
  e = .returned (.tuple #[]) ∧ ∃ o : List Int, o.length = l.length ∧ AccI w' base A c o ∧ o.Pairwise (· ≤ ·) ∧ (∀ x, x ∈ o ↔ x ∈ l) ∧ w.grownBy w' (blk A)
theorem sorti_calls (base c : Nat) (A : Option Addr) (l : List Int) (w : World) (h : AccI w base A c l) (hn : l.length ≤ 1099511627776) :
    Calls Try.prog 34 #[.slice A l.length c] w (SortPost w base A c l) := by
  rcases Nat.eq_zero_or_pos l.length with h0 | h0
  · obtain rfl := List.eq_nil_of_length_eq_zero h0
    refine (Try.slices_Sort_int_none A c w).mono ?_
    rintro e w2 ⟨rfl, rfl⟩
    exact ⟨rfl, [], rfl, h, List.Pairwise.nil, fun _ => Iff.rfl, World.grownBy.refl _ _⟩
  · obtain ⟨g, rfl⟩ : ∃ g, A = some ⟨g, 0, none⟩ := by
      rcases h.2 with ⟨_, h1⟩ | ⟨g, cap, cur, hv, _⟩
      · omega
      · injection hv with e1
        exact ⟨g, e1⟩
    refine (Try.slices_Sort_int g 0 c l w (acci_holds h) (AccR.ge h rfl).2 (by omega)).mono ?_
    rintro e w2 ⟨rfl, n2, os2, rfl⟩
    refine ⟨rfl, l.mergeSort fun x y => decide (x ≤ y), by simp, acci_sorted h, ?_, fun x => by simp, Go.grownBy_sortedI (n := n2) (os := os2) (g := g) (l.mergeSort fun x y => decide (x ≤ y)).toArray⟩
    have := List.pairwise_mergeSort (le := fun x y : Int => decide (x ≤ y)) (fun a b c h1 h2 => by simp at *; omega) (fun a b => by simp; omega) l
    exact this.imp (fun h => by simpa using h)
end Go.Proofs.Ytpgbfjeejkeibaa
