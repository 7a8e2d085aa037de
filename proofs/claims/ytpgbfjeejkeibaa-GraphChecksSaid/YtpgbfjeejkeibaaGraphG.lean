/-
  Contracts of package graph: Route. Conditions: at most 2^30 links and nodes; Metrics of at most 2^40.
-/
import Derived.Test.YtpgbfjeejkeibaaGraphC
import Derived.Test.YtpgbfjeejkeibaaGrU
namespace Go.Proofs.Ytpgbfjeejkeibaa
open Go.RowKit

/-- The Metric of the link from a node to another one. -/
def mtr (L : List Lk) (a b : Int) : Int := (L.getD (fndL L a b).toNat default).m
/-- What the first nodes of a route cost. -/
def cst (L : List Lk) (r : List Int) : Nat → Int
  | 0 => 0
  | 1 => 0
  | i + 2 => cst L r (i + 1) + mtr L (r.getD i 0) (r.getD (i + 1) 0)
/-- A node is new, and a link leads to it from the one ahead of it. -/
def StepOk (L : List Lk) (r : List Int) (j : Nat) : Prop := 0 ≤ fndL L (r.getD (j - 1) 0) (r.getD j 0) ∧ r.getD j 0 ∉ r.take j
def RouteOk (L : List Lk) (r : List Int) : Prop := 2 ≤ r.length ∧ r.length ≤ 16 ∧ ∀ j, 1 ≤ j → j < r.length → StepOk L r j
def SmallL (L : List Lk) : Prop := ∀ x ∈ L, -1099511627776 ≤ x.m ∧ x.m ≤ 1099511627776
theorem mtr_small {L : List Lk} (h : SmallL L) (a b : Int) : -1099511627776 ≤ mtr L a b ∧ mtr L a b ≤ 1099511627776 := by
  unfold mtr
  rcases Nat.lt_or_ge (fndL L a b).toNat L.length with hl | hl
  · rw [List.getD_eq_getElem?_getD, List.getElem?_eq_getElem hl]
    exact h _ (List.getElem_mem hl)
  · rw [List.getD_eq_getElem?_getD, List.getElem?_eq_none hl]
    exact ⟨by decide, by decide⟩
theorem cst_small {L : List Lk} (h : SmallL L) (r : List Int) : ∀ i : Nat, -((i : Int) * 1099511627776) ≤ cst L r i ∧ cst L r i ≤ (i : Int) * 1099511627776
  | 0 => by simp [cst]
  | 1 => by simp [cst]
  | i + 2 => by
    have h1 := cst_small h r (i + 1)
    have h2 := mtr_small h (r.getD i 0) (r.getD (i + 1) 0)
    simp only [cst]
    omega
def RoutePost (w : World) (L : List Lk) (r : List Int) (e : Ending) (w' : World) : Prop :=
  Below w.heap.size w w' ∧ ((RouteOk L r ∧ e = .returned (.tuple #[.int .i64 (cst L r r.length), .int .i64 0])) ∨ (¬ RouteOk L r ∧ e = .returned (.tuple #[.int .i64 0, .int .i64 12])))

set_option maxRecDepth 100000 in
set_option maxHeartbeats 1600000 in
theorem route_calls (p q : Option Addr) (m c n d B : Nat) (L : List Lk) (r : List Int) (w : World) (h : Row lkc w w.heap.size p m L) (hr : Row ei w B q n r) (hB : B ≤ w.heap.size) (hm : m ≤ 1073741824) (hnd : n ≤ d) (hs : SmallL L) :
    Calls Try.prog 20 #[.slice p m c, .slice q n d] w (RoutePost w L r) := by
  have hwi := gwithin_calls (n : Int) 2 16
  have HLN := Lib.hid hr.1
  by_cases h1 : 2 ≤ n ∧ n ≤ 16
  case neg =>
    have hg : gwn (n : Int) 2 16 = false := by simp [gwn]; omega
    rw [hg] at hwi
    have HN := Lib.hid (show ¬ RouteOk L r from fun hc => by have := HLN.out; have h2 := hc.1; have h3 := hc.2.1; omega)
    clear h hr h1 hg
    go_enter Try.func20, Try.ntmps20
    go_wp2_with fail
    ((with_reducible refine (hwi _).mono ?_))
    rintro e w1 ⟨rfl, rfl⟩
    go_wp2_with fail
    go_ret2
    exact ⟨Below.refl _ _, .inr ⟨HN.out, rfl⟩⟩
  have hg : gwn (n : Int) 2 16 = true := by simp [gwn]; omega
  rw [hg] at hwi
  have HRL := Lib.hid h
  have HRR := Lib.hid hr
  have HS := Lib.hid hs
  have HN := Lib.hid h1
  have hn16 : n ≤ 16 := h1.2
  have hn2 : 2 ≤ n := h1.1
  clear h hr h1 hg hs
  go_enter Try.func20, Try.ntmps20
  go_wp2_with fail
  ((with_reducible refine (hwi _).mono ?_))
  rintro e w1 ⟨rfl, rfl⟩
  clear hwi
  go_wp2_with fail
  go_loopw [6, 7] (fun s t wr => ∃ i : Nat, 1 ≤ i ∧ i ≤ n ∧ t = .int .i64 (i : Int) ∧ s = .int .i64 (cst L r i) ∧ (∀ j, 1 ≤ j → j < i → StepOk L r j) ∧ Below w1.heap.size w1 wr) (fun s t wr => n - (intOf t).toNat)
  case atStart => exact ⟨1, Nat.le_refl _, by omega, rfl, rfl, fun j h1 h2 => by omega, Below.refl _ _⟩
  case round =>
    obtain ⟨i, hi1, hin, rfl, rfl, hO, hB2⟩ := hrel
    have HO := Lib.hid hO
    have HB := Lib.hid hB2
    clear hO hB2
    by_cases hlt : i < n
    · obtain ⟨k, hk⟩ : ∃ k, i = k + 1 := ⟨i - 1, by omega⟩
      have HK := Lib.hid hk
      have HRR2 := Lib.hid (((HRR.out.more hB).below HB.out).more HB.out.size)
      obtain ⟨b, o, rfl, hb, hc⟩ := HRR2.out.cells ei_length (by omega)
      have hln := HLN.out
      have hci : wr.cell? ⟨b, o + i, none⟩ = some (.int .i64 (r.getD i 0)) := by
        have := hc i (by omega) 0 (by omega)
        rw [Nat.mul_one, Nat.add_zero] at this
        rw [this, List.getD_eq_getElem?_getD, List.getElem?_eq_getElem (show i < r.length by omega)]; rfl
      have hck : wr.cell? ⟨b, o + k, none⟩ = some (.int .i64 (r.getD k 0)) := by
        have := hc k (by omega) 0 (by omega)
        rw [Nat.mul_one, Nat.add_zero] at this
        rw [this, List.getD_eq_getElem?_getD, List.getElem?_eq_getElem (show k < r.length by omega)]; rfl
      have hcst : cst L r (i + 1) = cst L r i + mtr L (r.getD k 0) (r.getD i 0) := by subst hk; rfl
      have hsb := cst_small HS.out r i
      have hmb := mtr_small HS.out (r.getD k 0) (r.getD i 0)
      have hstep : StepOk L r i ↔ 0 ≤ fndL L (r.getD k 0) (r.getD i 0) ∧ r.getD i 0 ∉ r.take i := by unfold StepOk; rw [show i - 1 = k by omega]
      have HST := Lib.hid hstep
      have HCS := Lib.hid hcst
      obtain ⟨x, hx⟩ : ∃ x, x = r.getD i 0 := ⟨_, rfl⟩
      obtain ⟨y, hy⟩ : ∃ y, y = r.getD k 0 := ⟨_, rfl⟩
      rw [← hx] at hci HST HCS hmb
      rw [← hy] at hck HST HCS hmb
      have wq : IntKind.i64.wrap ((i : Int) - 1) = (k : Int) := by rw [IntWalk.i64_in _ (by omega)]; omega
      have i1 : (i : Int) < (n : Int) := by omega
      have i2 : (k : Int) < (n : Int) := by omega
      have i3 : k < n := by omega
      have HC := Lib.hid (And.intro hci hck)
      have hfind := find_calls y x p m c L wr.drew ((HRL.out.below HB.out).more HB.out.size) (by omega)
      clear hc hci hck hk hcst hstep hx hy
      go_wp2_with fail
      refine region_seq (fun W => W.cell? ⟨b, o + i, none⟩ = some (.int .i64 x) ∧ W.cell? ⟨b, o + k, none⟩ = some (.int .i64 y)) [(0, true), (1, true), (2, true), (3, true), (4, true), (5, true), (6, true), (7, true), (8, true), (9, true), (10, false), (11, true)]
        (by kernel_rfl) (by kernel_rfl) (by kernel_rfl) (by kernel_rfl) (fun _ _ _ _ _ h => h) HC.out ?_
      repeat
        refine seq_pure (v := ?_) rfl (by rfl) (fun W hW => ?_) ?_
        rotate_left
        · have t1 := hW.1
          have t2 := hW.2
          clear hW
          go_simp
          try with_reducible rfl
        simp only [Act.put, List.setIfInBounds_toArray, List.set_cons_zero, List.set_cons_succ]
      refine seq_make rfl (by rfl) (fun K hK => ?_)
      go_simp
      refine hfind.mono ?_
      rintro e w5 ⟨rfl, b5⟩
      have hb5 := below_of_drew b5
      have HC5 := Lib.hid (show w5.cell? ⟨b, o + i, none⟩ = some (.int .i64 x) ∧ w5.cell? ⟨b, o + k, none⟩ = some (.int .i64 y) from ⟨(World.cell?_of_block (hb5.block b hb)).trans HC.out.1, (World.cell?_of_block (hb5.block b hb)).trans HC.out.2⟩)
      have B5 := Lib.hid (bel_more HB.out (Nat.le_refl _) hb5)
      have R5 := Lib.hid ((HRR2.out.below hb5))
      clear b5 hb5 hfind
      go_simp
      refine hK _ w5 (fun W => W.cell? ⟨b, o + i, none⟩ = some (.int .i64 x) ∧ W.cell? ⟨b, o + k, none⟩ = some (.int .i64 y)) (fun W h => h) HC5.out ?_
      clear hK K
      repeat
        refine seq_pure (v := ?_) rfl (by rfl) (fun W hW => ?_) ?_
        rotate_left
        · clear hW
          go_simp
          try with_reducible rfl
        simp only [Act.put, List.setIfInBounds_toArray, List.set_cons_zero, List.set_cons_succ]
      refine seq_done ?_
      clear wq i2 i3
      rcases fndL_cases L y x with ⟨hf, hno⟩ | ⟨j, hj, hf, hyes⟩
      · have hneg := Lib.hid (show ¬ RouteOk L r from fun hc => by
          have h2 := (HST.out.1 (hc.2.2 i hi1 (by omega))).1
          omega)
        have HF := Lib.hid hf
        rw [hf]
        clear hf hno
        go_wp2_with fail
        refine region_seq (fun _ => True) [(0, true), (1, true), (2, true), (3, true), (4, true), (5, true), (6, true), (7, true), (8, true), (9, true), (10, false), (11, true)]
          (by kernel_rfl) (by kernel_rfl) (by kernel_rfl) (by kernel_rfl) (fun _ _ _ _ _ h => h) trivial ?_
        repeat
          first
          | (refine seq_skip rfl (by rfl) ?_)
          | (refine seq_unmake rfl (by rfl) trivial ?_)
          | (refine seq_pure (v := ?_) rfl (by rfl) (fun W _ => ?_) ?_
             rotate_left
             · go_simp
               try with_reducible rfl)
          simp only [Act.put, List.setIfInBounds_toArray, List.set_cons_zero, List.set_cons_succ]
        refine seq_done ?_
        go_wp2_with fail
        go_ret2
        exact ⟨bel_drewN B5.out 1, .inr ⟨hneg.out, rfl⟩⟩
      · have hjm : j < m := by have := HRL.out.1; omega
        have hrt : Row ei w5 wr.heap.size (some ⟨b, o, none⟩) i (r.take i) := Row.mk ei_length (by rw [List.length_take]; omega) fun _ => by
          obtain ⟨b2, o2, e2, hb2, hc2⟩ := R5.out.cells ei_length (by omega)
          injection e2 with e2
          injection e2 with e3 e4
          subst e3
          subst e4
          refine ⟨b, o, rfl, hb2, fun k2 hk2 j2 hj2 => ?_⟩
          have hk3 : k2 < i ∧ k2 < r.length := by rw [List.length_take] at hk2; omega
          have := hc2 k2 hk3.2 j2 hj2
          rw [this, List.getElem_take]
        have hcon := contains_calls x (some ⟨b, o, none⟩) i d _ (r.take i) w5.drew hrt (by omega)
        have hmt : mtr L y x = L[j].m := by unfold mtr; rw [hf, Int.toNat_natCast, List.getD_eq_getElem?_getD, List.getElem?_eq_getElem hj]; rfl
        have HMT := Lib.hid hmt
        have hstep : StepOk L r i ↔ x ∉ r.take i := by rw [HST.out, hf]; exact ⟨fun h => h.2, fun h => ⟨by omega, h⟩⟩
        have HST2 := Lib.hid hstep
        have hjn : ¬ (j : Int) < 0 := by omega
        have gd1 : decide ((j : Int) < 0) = false := by simp
        have hid : i ≤ d := by omega
        have hid2 : (i : Int) ≤ (d : Int) := by omega
        have hin2 : i < n := hlt
        rw [hf]
        clear hf hyes hrt hmt hstep
        go_wp2_with fail
        refine region_seq (fun W => W.cell? ⟨b, o + i, none⟩ = some (.int .i64 x)) [(0, true), (1, true), (2, true), (3, true), (4, true), (5, true), (6, true), (7, true), (8, true), (9, true), (10, false), (11, true)]
          (by kernel_rfl) (by kernel_rfl) (by kernel_rfl) (by kernel_rfl) (fun _ _ _ _ _ h => h) HC5.out.1 ?_
        repeat
          refine seq_pure (v := ?_) rfl (by rfl) (fun W hW => ?_) ?_
          rotate_left
          · have t1 := hW
            clear hW
            go_simp
            try with_reducible rfl
          simp only [Act.put, List.setIfInBounds_toArray, List.set_cons_zero, List.set_cons_succ]
        refine seq_make rfl (by rfl) (fun K hK => ?_)
        go_simp
        refine hcon.mono ?_
        rintro e w6 ⟨rfl, rfl⟩
        go_simp
        refine hK _ _ (fun W => W.cell? ⟨b, o + i, none⟩ = some (.int .i64 x)) (fun W h => h) HC5.out.1 ?_
        clear hK K hcon
        repeat
          refine seq_pure (v := ?_) rfl (by rfl) (fun W hW => ?_) ?_
          rotate_left
          · clear hW
            go_simp
            try with_reducible rfl
          simp only [Act.put, List.setIfInBounds_toArray, List.set_cons_zero, List.set_cons_succ]
        refine seq_done ?_
        have B6 := Lib.hid (show Below w1.heap.size w1 w5.drew from bel_drewN B5.out 1)
        by_cases hxm : x ∈ r.take i
        · have hb1 : decide (x ∈ r.take i) = true := by simpa using hxm
          have hneg := Lib.hid (show ¬ RouteOk L r from fun hc => HST2.out.1 (hc.2.2 i hi1 (by omega)) hxm)
          rw [hb1]
          clear hb1 hxm
          go_wp2_with fail
          go_ret2
          exact ⟨B6.out, .inr ⟨hneg.out, rfl⟩⟩
        · have hb1 : decide (x ∈ r.take i) = false := by simpa using hxm
          have hst := HST2.out.2 hxm
          have hRw : Row lkc w5.drew w1.heap.size p m L := HRL.out.below B6.out
          obtain ⟨b7, o7, rfl, hb7, hc7⟩ := row_link hRw (by omega)
          have d3 := (link_cells (hc7 j hj)).2.2.2.1
          rw [← HMT.out] at d3
          have O6 : ∀ j2, 1 ≤ j2 → j2 < i + 1 → StepOk L r j2 := fun j2 h1 h2 => by
            rcases Nat.lt_or_ge j2 i with h3 | h3
            · exact HO.out j2 h1 h3
            · obtain rfl : j2 = i := by omega
              exact hst
          have O6' := Lib.hid O6
          rw [hb1]
          clear hb1 hxm hst hc7 hRw O6
          generalize hcv : cst L r i = cv at *
          generalize hmv : mtr L y x = mv at *
          have HCS2 := Lib.hid HCS.out
          have hcv2 : -17592186044416 ≤ cv ∧ cv ≤ 17592186044416 := by omega
          clear hsb
          have hsum : -9223372036854775808 ≤ cv + mv ∧ cv + mv ≤ 9223372036854775807 := by omega
          go_wp2_with fail
          go_roundw
          case rel => exact ⟨i + 1, by omega, by omega, rfl, by rw [HCS.out], O6'.out, B6.out⟩
          case measure => simp [intOf]; omega
    · obtain rfl : i = n := by omega
      have hl := HLN.out
      have hok := Lib.hid (show RouteOk L r from ⟨by omega, by omega, fun j h1 h2 => HO.out j h1 (by omega)⟩)
      rw [← hl]
      clear hl
      go_wp2_with fail
      go_ret2
      exact ⟨HB.out, .inl ⟨hok.out, rfl⟩⟩
end Go.Proofs.Ytpgbfjeejkeibaa
