/-
  The law's small, the document's Find and Route. Condition: at most 2^30 links; Metrics of at most 2^40 for Route.
-/
import Derived.Test.YtkagfgnjfdlicaaGraphG
import Derived.Test.YtkagfgnjfdlicaaGraphH
namespace Go.Proofs.Ytkagfgnjfdlicaa
set_option maxRecDepth 100000
open Go.RowKit

def SmallPost (w : World) (n : Nat) (L : List Lk) (e : Ending) (w' : World) : Prop := ∃ b : Bool, e = .returned (.bool b) ∧ (b = true → SmallL L ∧ n ≤ 200) ∧ w' = w
theorem rfind_calls (f t : Int) (p : Option Addr) (n c B : Nat) (L : List Lk) (w : World) (h : Row lkc w B p n L) (hn : n ≤ 1099511627776) :
    Calls Try.prog 31 #[.slice p n c, .int .i64 f, .int .i64 t] w fun e w' => e = .returned (.int .i64 (fndL L f t)) ∧ w' = w := by
  have HLEN := Lib.hid h.1
  have HR := Lib.hid h
  clear h
  go_enter Try.func31, Try.ntmps31
  go_wp2_with fail
  go_loopw [7] (fun t' wr => ∃ i : Nat, i ≤ n ∧ t' = .int .i64 (i : Int) ∧ (∀ k (hk : k < L.length), k < i → isE f t L[k] = false) ∧ wr = w) (fun t' wr => n - (intOf t').toNat)
  case atStart => exact ⟨0, Nat.zero_le _, rfl, fun k _ hk => by omega, rfl⟩
  case round =>
    obtain ⟨i, hi, rfl, hF, rfl⟩ := hrel
    have HF := Lib.hid hF
    clear hF
    by_cases hlt : i < n
    · obtain ⟨b, o, rfl, hbw, hcell⟩ := row_link HR.out (by omega)
      have hil : i < L.length := by have := HLEN.out; omega
      have hat := link_cells (hcell i hil)
      have c0 := hat.1
      have c1 := hat.2.1
      obtain ⟨x, hx⟩ : ∃ x, x = L[i].f := ⟨_, rfl⟩
      obtain ⟨y, hy⟩ : ∃ x, x = L[i].t := ⟨_, rfl⟩
      rw [← hx] at c0
      rw [← hy] at c1
      have HX := Lib.hid (And.intro hx hy)
      clear hcell hat hx hy
      by_cases h1 : x = f
      · have g1 : (x == f) = true := by simp [h1]
        by_cases h2 : y = t
        · have g2 : (y == t) = true := by simp [h2]
          have hs : isE f t L[i] = true := by simp [isE, ← HX.out.1, ← HX.out.2, h1, h2]
          have hr := Lib.hid (fndL_hit hil HF.out hs)
          clear h1 h2 hs
          go_wp2_with fail
          go_ret
          exact ⟨by rw [hr.out]; rfl, rfl⟩
        · have g2 : (y == t) = false := by simp [h2]
          have hs : isE f t L[i] = false := by simp [isE, ← HX.out.2, h2]
          have F2 := Lib.hid (show ∀ k (hk : k < L.length), k < i + 1 → isE f t L[k] = false from fun k hk hlt => by
            rcases Nat.lt_or_ge k i with h | h
            · exact HF.out k hk h
            · obtain rfl : k = i := by omega
              exact hs)
          clear h1 h2 hs
          go_wp2_with fail
          go_roundw
          case rel => exact ⟨i + 1, by omega, rfl, F2.out, trivial⟩
          case measure => simp [intOf]; omega
      · have g1 : (x == f) = false := by simp [h1]
        have hs : isE f t L[i] = false := by simp [isE, ← HX.out.1, h1]
        have F2 := Lib.hid (show ∀ k (hk : k < L.length), k < i + 1 → isE f t L[k] = false from fun k hk hlt => by
          rcases Nat.lt_or_ge k i with h | h
          · exact HF.out k hk h
          · obtain rfl : k = i := by omega
            exact hs)
        clear h1 hs
        go_wp2_with fail
        go_roundw
        case rel => exact ⟨i + 1, by omega, rfl, F2.out, trivial⟩
        case measure => simp [intOf]; omega
    · have hr := Lib.hid (fndL_none (L := L) (f := f) (t := t) (fun k hk => HF.out k hk (by have := HLEN.out; omega)))
      go_wp2_with fail
      go_ret
      exact ⟨by rw [hr.out]; rfl, rfl⟩

theorem row_front {w : World} {B n b o : Nat} {l : List Int} (h : Row ei w B (some ⟨b, o, none⟩) n l) (i : Nat) (hi : i ≤ n) : Row ei w B (some ⟨b, o, none⟩) i (l.take i) :=
  Row.mk ei_length (by rw [List.length_take, h.1]; omega) fun h0 => by
    obtain ⟨b2, o2, e2, hb2, hc2⟩ := h.cells ei_length (by omega)
    injection e2 with e2
    injection e2 with e3 e4
    subst e3
    subst e4
    refine ⟨b, o, rfl, hb2, fun k2 hk2 j2 hj2 => ?_⟩
    have hk3 : k2 < i ∧ k2 < l.length := by rw [List.length_take] at hk2; omega
    have := hc2 k2 hk3.2 j2 hj2
    rw [this, List.getElem_take]

set_option maxRecDepth 100000 in
set_option maxHeartbeats 1600000 in
theorem rroute_calls (p q : Option Addr) (m c n d B B' : Nat) (L : List Lk) (r : List Int) (w : World) (h : Row lkc w B' p m L) (hr : Row ei w B q n r) (hm : m ≤ 1073741824) (hnd : n ≤ d) (hn63 : n ≤ 9223372036854775807) (hs : SmallL L) :
    Calls Try.prog 17 #[.slice p m c, .slice q n d] w (fun e w' => (∃ k, w' = w.drewN k) ∧ ((RouteOk L r ∧ e = .returned (.tuple #[.int .i64 (cst L r r.length), .int .i64 0])) ∨ (¬ RouteOk L r ∧ e = .returned (.tuple #[.int .i64 0, .int .i64 12])))) := by
  have HLN := Lib.hid hr.1
  by_cases h1 : 2 ≤ n ∧ n ≤ 16
  case neg =>
    have HN := Lib.hid (show ¬ RouteOk L r from fun hc => by have := HLN.out; have h2 := hc.1; have h3 := hc.2.1; omega)
    by_cases h2 : n < 2
    · have h3 : (n : Int) < 2 := by omega
      clear h hr h1
      go_enter Try.func17, Try.ntmps17
      go_wp2_with fail
      all_goals
        go_ret2
        exact ⟨⟨0, rfl⟩, .inr ⟨HN.out, rfl⟩⟩
    · have h3 : ¬ (n : Int) < 2 := by omega
      have h4 : (16 : Int) < (n : Int) := by omega
      clear h hr h1
      go_enter Try.func17, Try.ntmps17
      go_wp2_with fail
      all_goals
        go_ret2
        exact ⟨⟨0, rfl⟩, .inr ⟨HN.out, rfl⟩⟩
  have HRL := Lib.hid h
  have HRR := Lib.hid hr
  have HS := Lib.hid hs
  have hn16 : n ≤ 16 := h1.2
  have hn2 : 2 ≤ n := h1.1
  have h3 : ¬ (n : Int) < 2 := by omega
  have h4 : ¬ (16 : Int) < (n : Int) := by omega
  clear h hr h1 hs
  go_enter Try.func17, Try.ntmps17
  go_wp2_with fail
  clear h3 h4
  go_loopw [6, 7] (fun s t wr => ∃ i : Nat, i ≤ n ∧ t = .int .i64 (i : Int) ∧ s = .int .i64 (cst L r i) ∧ (∀ j, 1 ≤ j → j < i → StepOk L r j) ∧ ∃ k, wr = w.drewN k) (fun s t wr => n - (intOf t).toNat)
  case atStart => exact ⟨0, by omega, rfl, rfl, fun j h1 h2 => by omega, 0, rfl⟩
  case round =>
    obtain ⟨i, hin, rfl, rfl, hO, k0, rfl⟩ := hrel
    have HO := Lib.hid hO
    clear hO
    by_cases hlt : i < n
    · obtain ⟨b, o, rfl, hb, hc⟩ := row_int HRR.out (by omega)
      have hln := HLN.out
      have hci : w.cell? ⟨b, o + i, none⟩ = some (.int .i64 (r.getD i 0)) := by
        have := hc i (by omega)
        rw [this, List.getD_eq_getElem?_getD, List.getElem?_eq_getElem (show i < r.length by omega)]; rfl
      have hhas := rhas_calls (r.getD i 0) (some ⟨b, o, none⟩) i d _ (r.take i) (w.drewN k0).drew (row_front HRR.out i (by omega)) (by omega)
      obtain ⟨x, hx⟩ : ∃ x, x = r.getD i 0 := ⟨_, rfl⟩
      rw [← hx] at hci hhas
      have HX := Lib.hid hx
      have i1 : (i : Int) < (n : Int) := by omega
      have hid : i ≤ d := by omega
      have hid2 : (i : Int) ≤ (d : Int) := by omega
      have HC := Lib.hid hci
      have HCC := Lib.hid hc
      clear hc hci hx
      go_wp2_with fail
      refine region_seq (fun W => W.cell? ⟨b, o + i, none⟩ = some (.int .i64 x)) [(0, true), (1, true), (2, true), (3, true), (4, true), (5, true), (6, true), (7, false)]
        (by kernel_rfl) (by kernel_rfl) (by kernel_rfl) (by kernel_rfl) (fun _ _ _ _ _ h => h) HC.out ?_
      repeat
        refine seq_pure (v := ?_) rfl (by rfl) (fun W hW => ?_) ?_
        rotate_left
        · have t1 := hW
          clear hW
          go_simp
          try with_reducible rfl
        simp only [Act.put, List.setIfInBounds_toArray, List.set_cons_zero, List.set_cons_succ]
      refine seq_make rfl (by rfl) (fun K hK => ?_)
      go_simp
      refine hhas.mono ?_
      rintro e w6 ⟨rfl, rfl⟩
      go_simp
      refine hK _ _ (fun W => W.cell? ⟨b, o + i, none⟩ = some (.int .i64 x)) (fun W h => h) HC.out ?_
      clear hK K hhas
      refine seq_done ?_
      by_cases hxm : x ∈ r.take i
      · have hb1 : decide (x ∈ r.take i) = true := by simpa using hxm
        have hneg := Lib.hid (show ¬ RouteOk L r from fun hc => by
          have hi1 : 1 ≤ i := by
            rcases Nat.eq_zero_or_pos i with h0 | h0
            · subst h0; simp at hxm
            · exact h0
          have := (hc.2.2 i hi1 (by omega)).2
          rw [← HX.out] at this
          exact this hxm)
        rw [hb1]
        clear hb1 hxm
        go_wp2_with fail
        go_ret2
        exact ⟨⟨k0 + 1, rfl⟩, .inr ⟨hneg.out, rfl⟩⟩
      · have hb1 : decide (x ∈ r.take i) = false := by simpa using hxm
        have HXM := Lib.hid hxm
        rw [hb1]
        clear hb1 hxm
        by_cases hi0 : i = 0
        · subst hi0
          go_wp2_with fail
          go_roundw
          case rel => exact ⟨1, by omega, rfl, rfl, fun j h1 h2 => by omega, k0 + 1, rfl⟩
          case measure => simp [intOf]; omega
        · have hi0b : ((i : Int) == 0) = false := by rw [beq_eq_false_iff_ne]; omega
          obtain ⟨k, hk⟩ : ∃ k, i = k + 1 := ⟨i - 1, by omega⟩
          have HK := Lib.hid hk
          have hck : w.cell? ⟨b, o + k, none⟩ = some (.int .i64 (r.getD k 0)) := by
            have := HCC.out k (by omega)
            rw [this, List.getD_eq_getElem?_getD, List.getElem?_eq_getElem (show k < r.length by omega)]; rfl
          have hcst : cst L r (i + 1) = cst L r i + mtr L (r.getD k 0) (r.getD i 0) := by subst hk; rfl
          have hsb := cst_small HS.out r i
          have hmb := mtr_small HS.out (r.getD k 0) (r.getD i 0)
          have hstep : StepOk L r i ↔ 0 ≤ fndL L (r.getD k 0) (r.getD i 0) ∧ r.getD i 0 ∉ r.take i := by unfold StepOk; rw [show i - 1 = k by omega]
          have HST := Lib.hid hstep
          have HCS := Lib.hid hcst
          obtain ⟨y, hy⟩ : ∃ y, y = r.getD k 0 := ⟨_, rfl⟩
          rw [← HX.out] at HST HCS hmb
          rw [← hy] at hck HST HCS hmb
          have wq : IntKind.i64.wrap ((i : Int) - 1) = (k : Int) := by rw [IntWalk.i64_in _ (by omega)]; omega
          have i2 : (k : Int) < (n : Int) := by omega
          have i3 : k < n := by omega
          have HC2 := Lib.hid (And.intro HC.out hck)
          have hfind := rfind_calls y x p m c _ L ((w.drewN k0).drew).drew HRL.out (by omega)
          clear hck hk hcst hstep hy
          go_wp2_with fail
          refine region_seq (fun W => W.cell? ⟨b, o + i, none⟩ = some (.int .i64 x) ∧ W.cell? ⟨b, o + k, none⟩ = some (.int .i64 y)) [(0, true), (1, true), (2, true), (3, true), (4, true), (5, true), (6, true), (7, true), (8, true), (9, true), (10, false), (11, true)]
            (by kernel_rfl) (by kernel_rfl) (by kernel_rfl) (by kernel_rfl) (fun _ _ _ _ _ h => h) HC2.out ?_
          repeat
            refine seq_pure (v := ?_) rfl (by rfl) (fun W hW => ?_) ?_
            rotate_left
            · have t1 := hW.1
              have t2 := hW.2
              clear hW
              go_simp
              try with_reducible rfl
            simp only [Act.put, List.setIfInBounds_toArray, List.set_cons_zero, List.set_cons_succ]
          refine seq_make rfl (by rfl) (fun K hK => ?_)
          go_simp
          refine hfind.mono ?_
          rintro e w7 ⟨rfl, rfl⟩
          go_simp
          refine hK _ _ (fun W => W.cell? ⟨b, o + i, none⟩ = some (.int .i64 x) ∧ W.cell? ⟨b, o + k, none⟩ = some (.int .i64 y)) (fun W h => h) HC2.out ?_
          clear hK K hfind
          repeat
            refine seq_pure (v := ?_) rfl (by rfl) (fun W hW => ?_) ?_
            rotate_left
            · clear hW
              go_simp
              try with_reducible rfl
            simp only [Act.put, List.setIfInBounds_toArray, List.set_cons_zero, List.set_cons_succ]
          refine seq_done ?_
          clear wq i2 i3
          rcases fndL_cases L y x with ⟨hf, hno⟩ | ⟨j, hj, hf, hyes⟩
          · have hneg := Lib.hid (show ¬ RouteOk L r from fun hc => by
              have h2 := (HST.out.1 (hc.2.2 i (by omega) (by omega))).1
              omega)
            rw [hf]
            clear hf hno
            go_wp2_with fail
            go_ret2
            exact ⟨⟨k0 + 1 + 1, rfl⟩, .inr ⟨hneg.out, rfl⟩⟩
          · have hjm : j < m := by have := HRL.out.1; omega
            have hmt : mtr L y x = L[j].m := by unfold mtr; rw [hf, Int.toNat_natCast, List.getD_eq_getElem?_getD, List.getElem?_eq_getElem hj]; rfl
            have hst := HST.out.2 ⟨by omega, HXM.out⟩
            obtain ⟨b7, o7, rfl, hb7, hc7⟩ := row_link HRL.out (by omega)
            have d3 := (link_cells (hc7 j hj)).2.2.2.1
            rw [← hmt] at d3
            have O6' := Lib.hid (show ∀ j2, 1 ≤ j2 → j2 < i + 1 → StepOk L r j2 from fun j2 h1 h2 => by
              rcases Nat.lt_or_ge j2 i with h3 | h3
              · exact HO.out j2 h1 h3
              · obtain rfl : j2 = i := by omega
                exact hst)
            have hjn : ¬ (j : Int) < 0 := by omega
            rw [hf]
            clear hf hyes hst hc7 hmt
            generalize hcv : cst L r i = cv at *
            generalize hmv : mtr L y x = mv at *
            have hcv2 : -17592186044416 ≤ cv ∧ cv ≤ 17592186044416 := by omega
            clear hsb
            have hsum : -9223372036854775808 ≤ cv + mv ∧ cv + mv ≤ 9223372036854775807 := by omega
            go_wp2_with fail
            go_roundw
            case rel => exact ⟨i + 1, by omega, rfl, by rw [HCS.out], O6'.out, k0 + 1 + 1, rfl⟩
            case measure => simp [intOf]; omega
    · obtain rfl : i = n := by omega
      have hl := HLN.out
      have hok := Lib.hid (show RouteOk L r from ⟨by omega, by omega, fun j h1 h2 => HO.out j h1 (by omega)⟩)
      rw [← hl]
      clear hl
      go_wp2_with fail
      go_ret2
      exact ⟨⟨k0, rfl⟩, .inl ⟨hok.out, rfl⟩⟩
end Go.Proofs.Ytkagfgnjfdlicaa
