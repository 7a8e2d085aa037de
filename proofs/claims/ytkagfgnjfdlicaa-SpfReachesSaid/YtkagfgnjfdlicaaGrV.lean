/-
  The library's stable sort of whole numbers by a function, its parts: two neighboring ranges that are in order are merged. Condition: at most 2^40 numbers, in memory that the call itself made; a comparison that only reads, of numbers that it may be asked for.
-/
import Derived.Test.YtkagfgnjfdlicaaGrSU
namespace Go.Proofs.Ytkagfgnjfdlicaa
open Go.RowKit

section
variable {S : World → Prop} {D : Int → Prop} {key : Int → Int} {F : FuncId} {held : Array Value}

theorem up_srt {a b i : Nat} {f f' : Nat → Int} (hr : Rot a (a + 1) i f f') (hai : a + 1 ≤ i) (hib : i ≤ b) (hs : Srt key (a + 1) b f) (hlo : ∀ k, a + 1 ≤ k → k < i → key (f k) < key (f a)) (hhi : ∀ k, i ≤ k → k < b → key (f a) ≤ key (f k)) : Srt key a b f' := by
  intro x y h1 h2 h3
  rw [hr x, hr y]
  by_cases y1 : y < i
  · rw [if_pos (by omega), if_pos (by omega : a ≤ y ∧ y < i), if_pos (by omega)]
    by_cases y2 : y < a + (i - (a + 1))
    · rw [if_pos y2]; exact hs _ _ (by omega) (by omega) (by omega)
    · rw [if_neg y2, show y - (i - (a + 1)) = a by omega]
      have := hlo (x + (a + 1 - a)) (by omega) (by omega)
      omega
  · rw [if_neg (by omega : ¬ (a ≤ y ∧ y < i))]
    by_cases x1 : x < i
    · rw [if_pos (by omega)]
      by_cases x2 : x < a + (i - (a + 1))
      · rw [if_pos x2]; exact hs _ _ (by omega) (by omega) (by omega)
      · rw [if_neg x2, show x - (i - (a + 1)) = a by omega]; exact hhi y (by omega) h3
    · rw [if_neg (by omega)]; exact hs _ _ (by omega) (by omega) (by omega)
theorem down_srt {a m i : Nat} {f f' : Nat → Int} (hr : Rot i m (m + 1) f f') (hai : a ≤ i) (him : i ≤ m) (hs : Srt key a m f) (hlo : ∀ k, a ≤ k → k < i → key (f k) ≤ key (f m)) (hhi : ∀ k, i ≤ k → k < m → key (f m) < key (f k)) : Srt key a (m + 1) f' := by
  intro x y h1 h2 h3
  rw [hr x, hr y]
  by_cases x1 : i ≤ x
  · rw [if_pos (by omega), if_pos (by omega : i ≤ y ∧ y < m + 1), if_neg (by omega : ¬ y < i + (m + 1 - m))]
    by_cases x2 : x < i + (m + 1 - m)
    · rw [if_pos x2, show x + (m - i) = m by omega]
      have := hhi (y - (m + 1 - m)) (by omega) (by omega)
      omega
    · rw [if_neg x2]; exact hs _ _ (by omega) (by omega) (by omega)
  · rw [if_neg (by omega)]
    by_cases y1 : i ≤ y
    · rw [if_pos (by omega)]
      by_cases y2 : y < i + (m + 1 - m)
      · rw [if_pos y2, show y + (m - i) = m by omega]; exact hlo x h1 (by omega)
      · rw [if_neg y2]; exact hs _ _ (by omega) (by omega) (by omega)
    · rw [if_neg (by omega)]; exact hs _ _ h1 h2 (by omega)

set_option maxRecDepth 100000 in
set_option maxHeartbeats 3200000 in
/-- One on the left. -/
theorem symL_calls (hC : Cmp Try.prog S D key F held) (base g c n a m b : Nat) (hS : ∀ W W', S W → W.grownBy W' (some g) → S W') (f : Nat → Int) (w : World) (h : Arr w base g c n f) (hw : S w) (hD : Dom D n f) (ham : m = a + 1) (hmb : m < b) (hb : b ≤ n) (hn : n ≤ 1099511627776) (hs : Srt key m b f) :
    Calls Try.prog 58 #[.slice (some ⟨g, 0, none⟩) n c, .int .i64 (a : Int), .int .i64 (m : Int), .int .i64 (b : Int), .func (.func F) #[] held] w (SrtPost key w base g c n a b f) := by
  have H := Lib.hid h
  have HW := Lib.hid hw
  have HD := Lib.hid hD
  have HB := Lib.hid hb
  have HN := Lib.hid hn
  have HS := Lib.hid hs
  have he := hC.enter
  have y1 : a ≤ 1099511627776 := by omega
  have y2 : b ≤ 1099511627776 := by omega
  have y3 : m ≤ 1099511627776 := by omega
  have g0 : (m : Int) - (a : Int) = 1 := by omega
  have HAM := Lib.hid ham
  clear h hw hD hb hn hs ham
  go_enter Try.func58, Try.ntmps58
  go_wp2_with fail
  go_loopw [10, 11] (fun s t wr => ∃ (i j : Nat), m ≤ i ∧ i ≤ j ∧ j ≤ b ∧ s = .int .i64 (i : Int) ∧ t = .int .i64 (j : Int) ∧ Arr wr base g c n f ∧ (∀ k, m ≤ k → k < i → key (f k) < key (f a)) ∧ (∀ k, j ≤ k → k < b → key (f a) ≤ key (f k)) ∧ w.grownBy wr (some g)) (fun s t wr => (intOf t).toNat - (intOf s).toNat)
  case atStart => exact ⟨m, b, Nat.le_refl _, by omega, Nat.le_refl _, rfl, rfl, H.out, fun k h1 h2 => by omega, fun k h1 h2 => by omega, World.grownBy.refl _ _⟩
  case round =>
    obtain ⟨i, j, hmi, hij, hjb, rfl, rfl, hA, hlo, hhi, hG⟩ := hrel
    have HA := Lib.hid hA
    have HLO := Lib.hid hlo
    have HHI := Lib.hid hhi
    have HG := Lib.hid hG
    clear hA hlo hhi hG
    by_cases hlt : i < j
    · obtain ⟨p, hp⟩ : ∃ p, p = (i + j) / 2 := ⟨_, rfl⟩
      have hp2 : ((i : Int) + (j : Int)) / 2 = (p : Int) := by omega
      have hip : i ≤ p := by omega
      have hpj : p < j := by omega
      obtain ⟨q, hq⟩ : ∃ q, q = a := ⟨_, rfl⟩
      have HQ := Lib.hid hq
      have hpn : p < n := by have := HB.out; omega
      have hqn : q < n := by have := HB.out; have := HAM.out; omega
      have i1 : (p : Int) < (n : Int) := by omega
      have i2 : (q : Int) < (n : Int) := by omega
      have hpb : p < 1099511627776 := by omega
      clear hp
      subst hq
      have hcell : wr.cell? ⟨g, p, none⟩ = some (.int .i64 (f p)) ∧ wr.cell? ⟨g, q, none⟩ = some (.int .i64 (f q)) := ⟨HA.out.cell p hpn, HA.out.cell q hqn⟩
      have HC := Lib.hid hcell
      clear hcell
      go_wp2_with fail
      refine region_seq (fun W => W.cell? ⟨g, p, none⟩ = some (.int .i64 (f p)) ∧ W.cell? ⟨g, q, none⟩ = some (.int .i64 (f q))) [(0, true), (1, true), (2, true), (3, true), (4, true), (5, true), (6, true), (7, true), (8, true), (9, false), (10, true)]
        (by kernel_rfl) (by kernel_rfl) (by kernel_rfl) (by kernel_rfl) (fun _ _ _ _ _ h => h) HC.out ?_
      repeat
        refine seq_pure (v := ?_) rfl (by rfl) (fun W hW => ?_) ?_
        rotate_left
        · have t1 := hW.1
          have t2 := hW.2
          clear hW
          go_simp
          try with_reducible rfl
        simp only [Act.put, List.setIfInBounds_toArray, List.set_cons_zero, List.set_cons_succ]
      refine seq_make rfl (by rfl) (fun K hK => ?_)
      go_simp
      have hDp : D (f p) := HD.out p hpn
      have hDq : D (f q) := HD.out q hqn
      refine (hC.gives wr.drew _ _ (hS _ _ HW.out (gb_drew HG.out)) hDp hDq).mono ?_
      rintro e w1 ⟨rfl, md, rfl⟩
      go_simp
      refine hK _ _ (fun W => W.cell? ⟨g, p, none⟩ = some (.int .i64 (f p)) ∧ W.cell? ⟨g, q, none⟩ = some (.int .i64 (f q))) (fun W h => h) HC.out ?_
      clear hK K
      repeat
        refine seq_pure (v := ?_) rfl (by rfl) (fun W hW => ?_) ?_
        rotate_left
        · clear hW
          go_simp
          try with_reducible rfl
        simp only [Act.put, List.setIfInBounds_toArray, List.set_cons_zero, List.set_cons_succ]
      refine seq_done ?_
      have A5 := Lib.hid (show Arr (wr.drewN (1 + md)) base g c n f from HA.out)
      have G5 := Lib.hid (gb_drewN HG.out (1 + md))
      clear HC HA HG
      generalize wr.drewN (1 + md) = w5 at *
      by_cases hkl : key (f p) < key (f q)
      · have hc : cmpI (key (f p)) (key (f q)) < 0 := by have := cmpI_lt (key (f p)) (key (f q)); simpa [hkl] using this
        have L5 : ∀ k, m ≤ k → k < p + 1 → key (f k) < key (f q) := fun k h1 h2 => by
          rcases Nat.lt_or_ge k p with h3 | h3
          · have := HS.out k p h1 h3 (by omega)
            omega
          · obtain rfl : k = p := by omega
            exact hkl
        have L5' := Lib.hid L5
        clear hkl L5
        go_wp2_with fail
        go_roundw
        case rel => exact ⟨p + 1, j, by omega, by omega, hjb, rfl, rfl, A5.out, L5'.out, HHI.out, G5.out⟩
        case measure => simp [intOf]; omega
      · have hc : ¬ cmpI (key (f p)) (key (f q)) < 0 := by have := cmpI_lt (key (f p)) (key (f q)); simpa [hkl] using this
        have L5 : ∀ k, p ≤ k → k < b → key (f q) ≤ key (f k) := fun k h1 h2 => by
          rcases Nat.lt_or_ge p k with h3 | h3
          · have := HS.out p k (by omega) h3 h2
            omega
          · obtain rfl : k = p := by omega
            omega
        have L5' := Lib.hid L5
        clear hkl L5
        go_wp2_with fail
        go_roundw
        case rel => exact ⟨i, p, hmi, hip, by omega, rfl, rfl, A5.out, HLO.out, L5'.out, G5.out⟩
        case measure => simp [intOf]; omega
    · obtain rfl : i = j := by omega
      have HAM2 := HAM.out
      subst HAM2
      obtain ⟨i', rfl⟩ : ∃ i', i = i' + 1 := ⟨i - 1, by omega⟩
      have g1 : ((i' + 1 : Nat) : Int) - 1 = (i' : Int) := by omega
      have hib : i' < 1099511627776 := by omega
      go_wp2_with fail
      go_loopw [13] (fun t wr => ∃ (k : Nat) (f' : Nat → Int), a ≤ k ∧ k ≤ i' ∧ t = .int .i64 (k : Int) ∧ Arr wr base g c n f' ∧ Rot a (a + 1) (k + 1) f f' ∧ w.grownBy wr (some g)) (fun t wr => i' - (intOf t).toNat)
      case atStart => exact ⟨a, f, Nat.le_refl _, by omega, rfl, HA.out, Rot.none (.inr rfl) (by omega) (Nat.le_refl _), HG.out⟩
      case round =>
        clear HA HG
        obtain ⟨p, f', hak, hki, rfl, hA, hR, hG⟩ := hrel
        have HA := Lib.hid hA
        have HR := Lib.hid hR
        have HG := Lib.hid hG
        clear hA hR hG
        by_cases hlt2 : p < i'
        · obtain ⟨q, hq⟩ : ∃ q, q = p + 1 := ⟨_, rfl⟩
          have HQ := Lib.hid hq
          have hqn : q < n := by have := HB.out; omega
          have hpn : p < n := by omega
          have wq : IntKind.i64.wrap ((p : Int) + 1) = (q : Int) := by rw [IntWalk.i64_in _ (by omega)]; omega
          have i1 : (p : Int) < (n : Int) := by omega
          have i2 : (q : Int) < (n : Int) := by omega
          clear hq
          go_wp2_with fail
          refine region_way (fun _ => True) (.step 0 true (.step 1 true (.step 2 true (.step 3 true (.step 4 true (.step 5 true (.step 6 true (.step 7 true (.step 8 true (.step 10 true (.step 11 true (.step 12 true (.both 9 13 (.step 13 false (.step 14 true (.step 15 false (.step 16 true (.step 17 false .done))))) (.step 9 false (.step 14 true (.step 15 false (.step 16 true (.step 17 false .done))))))))))))))))))
            (by kernel_rfl) (by kernel_rfl) (by kernel_rfl) (by kernel_rfl) (fun _ _ _ _ _ h => h) trivial ?_
          repeat
            refine way_pure (v := ?_) rfl (by rfl) (fun W _ => ?_) ?_
            rotate_left
            · go_simp
              try with_reducible rfl
            simp only [Act.put, List.setIfInBounds_toArray, List.set_cons_zero, List.set_cons_succ]
          refine way_both rfl (by rfl) rfl (by rfl) (fun K hK => ?_) (fun K hK => ?_)
          all_goals
            have c1 := HA.out.cell p hpn
            have c2 := HA.out.cell q hqn
            go_simp
            refine hK _ _ (fun _ => True) (fun _ _ => trivial) trivial ?_
            clear hK K
            refine way_make rfl (by rfl) (fun K hK => ?_)
            go_simp
            refine hK _ _ (fun _ => True) (fun _ _ => trivial) trivial ?_
            clear hK K
            refine way_pure (v := ?_) rfl (by rfl) (fun W _ => ?_) ?_
            rotate_left
            · go_simp
              try with_reducible rfl
            simp only [Act.put, List.setIfInBounds_toArray, List.set_cons_zero, List.set_cons_succ]
            refine way_make rfl (by rfl) (fun K hK => ?_)
            have d1 := HA.out.free p
            go_simp
            refine hK _ _ (fun _ => True) (fun _ _ => trivial) trivial ?_
            clear hK K c1 c2 d1
            refine way_pure (v := ?_) rfl (by rfl) (fun W _ => ?_) ?_
            rotate_left
            · go_simp
              try with_reducible rfl
            simp only [Act.put, List.setIfInBounds_toArray, List.set_cons_zero, List.set_cons_succ]
            refine way_make rfl (by rfl) (fun K hK => ?_)
            have A1 := Lib.hid (HA.out.set p (f' q))
            have e1 : (wr.setCell ⟨g, p, none⟩ (.int .i64 (f' q))).cell? ⟨g, q, none⟩ = some (.int .i64 (upd f' p (f' q) q)) := A1.out.1.cell q hqn
            have d2 := A1.out.1.free q
            generalize hw1 : wr.setCell ⟨g, p, none⟩ (.int .i64 (f' q)) = w1 at *
            go_simp
            have A2 := Lib.hid (A1.out.1.set q (f' p))
            refine hK _ _ (fun _ => True) (fun _ _ => trivial) trivial ?_
            clear hK K e1 d2 hw1
            generalize w1.setCell ⟨g, q, none⟩ (.int .i64 (f' p)) = w2 at *
            refine way_done ?_
            have G2 := Lib.hid ((HG.out.trans A1.out.2).trans A2.out.2)
            have A3 := Lib.hid (show Arr w2 base g c n (swp f' p q) from A2.out.1)
            have R3 := Lib.hid (HR.out.up hak)
            rw [HQ.out] at A3
            have hpb : p < 1099511627776 := by omega
            clear wq i2
            go_wp2_with fail
            go_roundw
            case rel => exact ⟨p + 1, swp f' p (p + 1), by omega, by omega, rfl, A3.out, R3.out, gb_drew G2.out⟩
            case measure => simp [intOf]; omega
        · obtain rfl : p = i' := by omega
          have L5 := Lib.hid (HR.out.loc (key := key) (n := n) (by omega) (by omega) (by have := HB.out; omega) (fun x y h1 h2 h3 h4 => by
            obtain rfl : x = a := by omega
            exact HLO.out y h3 h4))
          have S5 := Lib.hid (up_srt (key := key) HR.out (by omega) hjb HS.out HLO.out HHI.out)
          go_wp2_with fail
          refine bodyPost_ret (results_none rfl _ _ _) rfl ?_
          exact ⟨rfl, f', HA.out, L5.out.mono (Nat.le_refl _) hjb, S5.out, HG.out⟩
end
end Go.Proofs.Ytkagfgnjfdlicaa
