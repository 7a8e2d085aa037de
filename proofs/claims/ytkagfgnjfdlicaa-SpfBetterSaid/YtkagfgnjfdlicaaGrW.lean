/-
  The library's stable sort of whole numbers by a function, its parts: two neighboring ranges that are in order are merged, one on the right. Condition: at most 2^40 numbers, in memory that the call itself made; a comparison that only reads, of numbers that it may be asked for.
-/
import Derived.Test.YtkagfgnjfdlicaaGrV
namespace Go.Proofs.Ytkagfgnjfdlicaa
open Go.RowKit

section
variable {S : World → Prop} {D : Int → Prop} {key : Int → Int} {F : FuncId} {held : Array Value}

set_option maxRecDepth 100000 in
set_option maxHeartbeats 3200000 in
/-- One on the right. -/
theorem symR_calls (hC : Cmp Try.prog S D key F held) (base g c n a m b : Nat) (hS : ∀ W W', S W → W.grownBy W' (some g) → S W') (f : Nat → Int) (w : World) (h : Arr w base g c n f) (hw : S w) (hD : Dom D n f) (ham : a + 1 < m) (hmb : b = m + 1) (hb : b ≤ n) (hn : n ≤ 1099511627776) (hs : Srt key a m f) :
    Calls Try.prog 58 #[.slice (some ⟨g, 0, none⟩) n c, .int .i64 (a : Int), .int .i64 (m : Int), .int .i64 (b : Int), .func (.func F) #[] held] w (SrtPost key w base g c n a b f) := by
  have HMB := Lib.hid hmb
  have H := Lib.hid h
  have HW := Lib.hid hw
  have HD := Lib.hid hD
  have HB := Lib.hid hb
  have HN := Lib.hid hn
  have HS := Lib.hid hs
  have he := hC.enter
  have y1 : a ≤ 1099511627776 := by omega
  have y3 : m < 1099511627776 := by omega
  have g0 : (m : Int) - (a : Int) = ((m - a : Nat) : Int) := by omega
  have g1 : ((((m - a : Nat) : Int) == 1) : Bool) = false := by rw [beq_eq_false_iff_ne]; omega
  have g3 : ¬ (((m - a : Nat) : Int) = 1) := by omega
  have g2 : (b : Int) - (m : Int) = 1 := by omega
  have y4 : b ≤ 1099511627776 := by omega
  have HAM := Lib.hid ham
  clear h hw hD hb hn hs ham hmb
  go_enter Try.func58, Try.ntmps58
  go_wp2_with fail
  go_loopw [14, 15] (fun s t wr => ∃ (i j : Nat), a ≤ i ∧ i ≤ j ∧ j ≤ m ∧ s = .int .i64 (i : Int) ∧ t = .int .i64 (j : Int) ∧ Arr wr base g c n f ∧ (∀ k, a ≤ k → k < i → key (f k) ≤ key (f m)) ∧ (∀ k, j ≤ k → k < m → key (f m) < key (f k)) ∧ w.grownBy wr (some g)) (fun s t wr => (intOf t).toNat - (intOf s).toNat)
  case atStart => exact ⟨a, m, Nat.le_refl _, by have := HAM.out; omega, Nat.le_refl _, rfl, rfl, H.out, fun k h1 h2 => by omega, fun k h1 h2 => by omega, World.grownBy.refl _ _⟩
  case round =>
    obtain ⟨i, j, hmi, hij, hjb, rfl, rfl, hA, hlo, hhi, hG⟩ := hrel
    have HA := Lib.hid hA
    have HLO := Lib.hid hlo
    have HHI := Lib.hid hhi
    have HG := Lib.hid hG
    clear hA hlo hhi hG
    by_cases hlt : i < j
    · obtain ⟨q, hp⟩ : ∃ p, p = (i + j) / 2 := ⟨_, rfl⟩
      have hp2 : ((i : Int) + (j : Int)) / 2 = (q : Int) := by omega
      have hip : i ≤ q := by omega
      have hpj : q < j := by omega
      obtain ⟨p, hq⟩ : ∃ p, p = m := ⟨_, rfl⟩
      have hpn : p < n := by have := HB.out; have := HMB.out; omega
      have hqn : q < n := by have := HB.out; have := HMB.out; omega
      have i1 : (p : Int) < (n : Int) := by omega
      have i2 : (q : Int) < (n : Int) := by omega
      have hpb : q < 1099511627776 := by omega
      clear hp
      subst hq
      have hcell : wr.cell? ⟨g, p, none⟩ = some (.int .i64 (f p)) ∧ wr.cell? ⟨g, q, none⟩ = some (.int .i64 (f q)) := ⟨HA.out.cell p hpn, HA.out.cell q hqn⟩
      have HC := Lib.hid hcell
      clear hcell
      go_wp2_with fail
      refine region_seq (fun W => W.cell? ⟨g, p, none⟩ = some (.int .i64 (f p)) ∧ W.cell? ⟨g, q, none⟩ = some (.int .i64 (f q))) [(0, true), (1, true), (2, true), (3, true), (4, true), (5, true), (6, true), (7, true), (8, true), (9, false), (10, true), (11, true)]
        (by kernel_rfl) (by kernel_rfl) (by kernel_rfl) (by kernel_rfl) (fun _ _ _ _ _ h => h) HC.out ?_
      repeat
        refine seq_pure (v := ?_) rfl (by rfl) (fun W hW => ?_) ?_
        rotate_left
        · have t1 := hW.1
          have t2 := hW.2
          clear hW
          go_simp
          try with_reducible rfl
        simp only [Act.put, List.setIfInBounds_toArray, List.set_cons_zero, List.set_cons_succ]
      refine seq_make rfl (by rfl) (fun K hK => ?_)
      go_simp
      have hDp : D (f p) := HD.out p hpn
      have hDq : D (f q) := HD.out q hqn
      refine (hC.gives wr.drew _ _ (hS _ _ HW.out (gb_drew HG.out)) hDp hDq).mono ?_
      rintro e w1 ⟨rfl, md, rfl⟩
      go_simp
      refine hK _ _ (fun W => W.cell? ⟨g, p, none⟩ = some (.int .i64 (f p)) ∧ W.cell? ⟨g, q, none⟩ = some (.int .i64 (f q))) (fun W h => h) HC.out ?_
      clear hK K
      repeat
        refine seq_pure (v := ?_) rfl (by rfl) (fun W hW => ?_) ?_
        rotate_left
        · clear hW
          go_simp
          try with_reducible rfl
        simp only [Act.put, List.setIfInBounds_toArray, List.set_cons_zero, List.set_cons_succ]
      refine seq_done ?_
      have A5 := Lib.hid (show Arr (wr.drewN (1 + md)) base g c n f from HA.out)
      have G5 := Lib.hid (gb_drewN HG.out (1 + md))
      clear HC HA HG
      generalize wr.drewN (1 + md) = w5 at *
      by_cases hkl : key (f p) < key (f q)
      · have hc : cmpI (key (f p)) (key (f q)) < 0 := by have := cmpI_lt (key (f p)) (key (f q)); simpa [hkl] using this
        have hc3 : (!decide (cmpI (key (f p)) (key (f q)) < 0)) = false := by simp [hc]
        have L5 : ∀ k, q ≤ k → k < p → key (f p) < key (f k) := fun k h1 h2 => by
          rcases Nat.lt_or_ge q k with h3 | h3
          · have := HS.out q k (by omega) h3 h2
            omega
          · obtain rfl : k = q := by omega
            exact hkl
        have L5' := Lib.hid L5
        clear hkl L5
        rw [hc3]
        clear hc hc3
        go_wp2_with fail
        go_roundw
        case rel => exact ⟨i, q, hmi, hip, by omega, rfl, rfl, A5.out, HLO.out, L5'.out, G5.out⟩
        case measure => simp [intOf]; omega
      · have hc : ¬ cmpI (key (f p)) (key (f q)) < 0 := by have := cmpI_lt (key (f p)) (key (f q)); simpa [hkl] using this
        have hc3 : (!decide (cmpI (key (f p)) (key (f q)) < 0)) = true := by simpa using hc
        have L5 : ∀ k, a ≤ k → k < q + 1 → key (f k) ≤ key (f p) := fun k h1 h2 => by
          rcases Nat.lt_or_ge k q with h3 | h3
          · have := HS.out k q h1 h3 (by omega)
            omega
          · obtain rfl : k = q := by omega
            omega
        have L5' := Lib.hid L5
        clear hkl L5
        rw [hc3]
        clear hc hc3
        go_wp2_with fail
        go_roundw
        case rel => exact ⟨q + 1, j, by omega, by omega, hjb, rfl, rfl, A5.out, L5'.out, HHI.out, G5.out⟩
        case measure => simp [intOf]; omega
    · obtain rfl : i = j := by omega
      have hib : i < 1099511627776 := by omega
      clear g0 g1 g3 g2
      go_wp2_with fail
      go_loopw [17] (fun t wr => ∃ (k : Nat) (f' : Nat → Int), i ≤ k ∧ k ≤ m ∧ t = .int .i64 (k : Int) ∧ Arr wr base g c n f' ∧ Rot k m (m + 1) f f' ∧ w.grownBy wr (some g)) (fun t wr => (intOf t).toNat)
      case atStart => exact ⟨m, f, hjb, Nat.le_refl _, rfl, HA.out, Rot.none (.inl rfl) (Nat.le_refl _) (by omega), HG.out⟩
      case round =>
        clear HA HG
        obtain ⟨p, f', hik, hkm, rfl, hA, hR, hG⟩ := hrel
        have HA := Lib.hid hA
        have HR := Lib.hid hR
        have HG := Lib.hid hG
        clear hA hR hG
        by_cases hlt2 : i < p
        · obtain ⟨q, hq⟩ : ∃ q, p = q + 1 := ⟨p - 1, by omega⟩
          have HQ := Lib.hid hq
          have hpn : p < n := by have := HB.out; have := HMB.out; omega
          have hqn : q < n := by omega
          have wq : IntKind.i64.wrap ((p : Int) - 1) = (q : Int) := by rw [IntWalk.i64_in _ (by omega)]; omega
          have i1 : (p : Int) < (n : Int) := by omega
          have i2 : (q : Int) < (n : Int) := by omega
          clear hq
          go_wp2_with fail
          refine region_way (fun _ => True) (.step 0 true (.step 1 true (.step 2 true (.step 3 true (.step 4 true (.step 5 true (.step 6 true (.step 7 true (.step 8 true (.step 10 true (.step 11 true (.step 12 true (.both 9 13 (.step 13 false (.step 14 true (.step 15 false (.step 16 true (.step 17 false .done))))) (.step 9 false (.step 14 true (.step 15 false (.step 16 true (.step 17 false .done))))))))))))))))))
            (by kernel_rfl) (by kernel_rfl) (by kernel_rfl) (by kernel_rfl) (fun _ _ _ _ _ h => h) trivial ?_
          repeat
            refine way_pure (v := ?_) rfl (by rfl) (fun W _ => ?_) ?_
            rotate_left
            · go_simp
              try with_reducible rfl
            simp only [Act.put, List.setIfInBounds_toArray, List.set_cons_zero, List.set_cons_succ]
          refine way_both rfl (by rfl) rfl (by rfl) (fun K hK => ?_) (fun K hK => ?_)
          all_goals
            have c1 := HA.out.cell p hpn
            have c2 := HA.out.cell q hqn
            go_simp
            refine hK _ _ (fun _ => True) (fun _ _ => trivial) trivial ?_
            clear hK K
            refine way_make rfl (by rfl) (fun K hK => ?_)
            go_simp
            refine hK _ _ (fun _ => True) (fun _ _ => trivial) trivial ?_
            clear hK K
            refine way_pure (v := ?_) rfl (by rfl) (fun W _ => ?_) ?_
            rotate_left
            · go_simp
              try with_reducible rfl
            simp only [Act.put, List.setIfInBounds_toArray, List.set_cons_zero, List.set_cons_succ]
            refine way_make rfl (by rfl) (fun K hK => ?_)
            have d1 := HA.out.free p
            go_simp
            refine hK _ _ (fun _ => True) (fun _ _ => trivial) trivial ?_
            clear hK K c1 c2 d1
            refine way_pure (v := ?_) rfl (by rfl) (fun W _ => ?_) ?_
            rotate_left
            · go_simp
              try with_reducible rfl
            simp only [Act.put, List.setIfInBounds_toArray, List.set_cons_zero, List.set_cons_succ]
            refine way_make rfl (by rfl) (fun K hK => ?_)
            have A1 := Lib.hid (HA.out.set p (f' q))
            have e1 : (wr.setCell ⟨g, p, none⟩ (.int .i64 (f' q))).cell? ⟨g, q, none⟩ = some (.int .i64 (upd f' p (f' q) q)) := A1.out.1.cell q hqn
            have d2 := A1.out.1.free q
            generalize hw1 : wr.setCell ⟨g, p, none⟩ (.int .i64 (f' q)) = w1 at *
            go_simp
            have A2 := Lib.hid (A1.out.1.set q (f' p))
            refine hK _ _ (fun _ => True) (fun _ _ => trivial) trivial ?_
            clear hK K e1 d2 hw1
            generalize w1.setCell ⟨g, q, none⟩ (.int .i64 (f' p)) = w2 at *
            refine way_done ?_
            have G2 := Lib.hid ((HG.out.trans A1.out.2).trans A2.out.2)
            have A3 := Lib.hid (show Arr w2 base g c n (swp f' p q) from A2.out.1)
            have R3 := Lib.hid ((show Rot (q + 1) m (m + 1) f f' by rw [← HQ.out]; exact HR.out).down (by have := HQ.out; omega))
            rw [HQ.out] at A3
            have wq2 : (p : Int) - 1 = (q : Int) := by have := HQ.out; omega
            clear wq i2
            go_wp2_with fail
            go_roundw
            case rel => exact ⟨q, swp f' (q + 1) q, by have := HQ.out; omega, by have := HQ.out; omega, rfl, A3.out, R3.out, gb_drew G2.out⟩
            case measure => have := HQ.out; simp [intOf]; omega
        · obtain rfl : p = i := by omega
          have L5 := Lib.hid (HR.out.loc (key := key) (n := n) (by omega) (by omega) (by have := HB.out; have := HMB.out; omega) (fun x y h1 h2 h3 h4 => by
            obtain rfl : y = m := by omega
            exact HHI.out x h1 h2))
          have S5 := Lib.hid (down_srt (key := key) HR.out (by omega) hjb HS.out HLO.out HHI.out)
          go_wp2_with fail
          refine bodyPost_ret (results_none rfl _ _ _) rfl ?_
          have hb2 := HMB.out
          subst hb2
          exact ⟨rfl, f', HA.out, L5.out.mono hmi (Nat.le_refl _), S5.out, HG.out⟩
end
end Go.Proofs.Ytkagfgnjfdlicaa
