/-
  The library's stable sort of whole numbers by a function, its parts: two neighboring ranges that are in order are merged. Condition: at most 2^40 numbers, in memory that the call itself made; a comparison that only reads, of numbers that it may be asked for.
  The library's stable sort of whole numbers by a function, its parts: two neighboring ranges that are in order are merged, one on the right. Condition: at most 2^40 numbers, in memory that the call itself made; a comparison that only reads, of numbers that it may be asked for.
  The library's stable sort of whole numbers by a function, its parts: two neighboring ranges that are in order are merged. Condition: at most 2^40 numbers, in memory that the call itself made; a comparison that only reads, of numbers that it may be asked for.
  The library's stable sort of whole numbers by a function. Condition: at most 2^40 numbers, in memory that the call itself made; a comparison that only reads, of numbers that it may be asked for.
-/
import Derived.Test.YtjflbfianncpfaaGreatGrSU
import Derived.Deep.DeepCutAuto
namespace Go.Proofs.YtjflbfianncpfaaGreat
open Go.RowKit

section
variable {S : World → Prop} {D : Int → Prop} {key : Int → Int} {F : FuncId} {held : Array Value}

theorem up_srt {a b i : Nat} {f f' : Nat → Int} (hr : Rot a (a + 1) i f f') (hai : a + 1 ≤ i) (hib : i ≤ b) (hs : Srt key (a + 1) b f) (hlo : ∀ k, a + 1 ≤ k → k < i → key (f k) < key (f a)) (hhi : ∀ k, i ≤ k → k < b → key (f a) ≤ key (f k)) : Srt key a b f' := by
  intro x y h1 h2 h3
  rw [hr x, hr y]
  by_cases y1 : y < i
  · rw [if_pos (by omega), if_pos (by omega : a ≤ y ∧ y < i), if_pos (by omega)]
    by_cases y2 : y < a + (i - (a + 1))
    · rw [if_pos y2]; exact hs _ _ (by omega) (by omega) (by omega)
    · rw [if_neg y2, show y - (i - (a + 1)) = a by omega]
      have := hlo (x + (a + 1 - a)) (by omega) (by omega)
      omega
  · rw [if_neg (by omega : ¬ (a ≤ y ∧ y < i))]
    by_cases x1 : x < i
    · rw [if_pos (by omega)]
      by_cases x2 : x < a + (i - (a + 1))
      · rw [if_pos x2]; exact hs _ _ (by omega) (by omega) (by omega)
      · rw [if_neg x2, show x - (i - (a + 1)) = a by omega]; exact hhi y (by omega) h3
    · rw [if_neg (by omega)]; exact hs _ _ (by omega) (by omega) (by omega)
theorem down_srt {a m i : Nat} {f f' : Nat → Int} (hr : Rot i m (m + 1) f f') (hai : a ≤ i) (him : i ≤ m) (hs : Srt key a m f) (hlo : ∀ k, a ≤ k → k < i → key (f k) ≤ key (f m)) (hhi : ∀ k, i ≤ k → k < m → key (f m) < key (f k)) : Srt key a (m + 1) f' := by
  intro x y h1 h2 h3
  rw [hr x, hr y]
  by_cases x1 : i ≤ x
  · rw [if_pos (by omega), if_pos (by omega : i ≤ y ∧ y < m + 1), if_neg (by omega : ¬ y < i + (m + 1 - m))]
    by_cases x2 : x < i + (m + 1 - m)
    · rw [if_pos x2, show x + (m - i) = m by omega]
      have := hhi (y - (m + 1 - m)) (by omega) (by omega)
      omega
    · rw [if_neg x2]; exact hs _ _ (by omega) (by omega) (by omega)
  · rw [if_neg (by omega)]
    by_cases y1 : i ≤ y
    · rw [if_pos (by omega)]
      by_cases y2 : y < i + (m + 1 - m)
      · rw [if_pos y2, show y + (m - i) = m by omega]; exact hlo x h1 (by omega)
      · rw [if_neg y2]; exact hs _ _ (by omega) (by omega) (by omega)
    · rw [if_neg (by omega)]; exact hs _ _ h1 h2 (by omega)

set_option maxRecDepth 100000 in
set_option maxHeartbeats 3200000 in
/-- One on the left. -/
theorem symL_calls (hC : Cmp Tryz.prog S D key F held) (base g c n a m b : Nat) (hS : ∀ W W', S W → W.grownBy W' (some g) → S W') (f : Nat → Int) (w : World) (h : Arr w base g c n f) (hw : S w) (hD : Dom D n f) (ham : m = a + 1) (hmb : m < b) (hb : b ≤ n) (hn : n ≤ 1099511627776) (hs : Srt key m b f) :
    Calls Tryz.prog 110 #[.slice (some ⟨g, 0, none⟩) n c, .int .i64 (a : Int), .int .i64 (m : Int), .int .i64 (b : Int), .func (.func F) #[] held] w (SrtPost key w base g c n a b f) := by
  have H := Lib.hid h
  have HW := Lib.hid hw
  have HD := Lib.hid hD
  have HB := Lib.hid hb
  have HN := Lib.hid hn
  have HS := Lib.hid hs
  have he := hC.enter
  have y1 : a ≤ 1099511627776 := by omega
  have y2 : b ≤ 1099511627776 := by omega
  have y3 : m ≤ 1099511627776 := by omega
  have g0 : (m : Int) - (a : Int) = 1 := by omega
  have HAM := Lib.hid ham
  clear h hw hD hb hn hs ham
  go_enter Tryz.func110, Tryz.ntmps110
  go_wp2_with fail
  go_loopw [10, 11] (fun s t wr => ∃ (i j : Nat), m ≤ i ∧ i ≤ j ∧ j ≤ b ∧ s = .int .i64 (i : Int) ∧ t = .int .i64 (j : Int) ∧ Arr wr base g c n f ∧ (∀ k, m ≤ k → k < i → key (f k) < key (f a)) ∧ (∀ k, j ≤ k → k < b → key (f a) ≤ key (f k)) ∧ w.grownBy wr (some g)) (fun s t wr => (intOf t).toNat - (intOf s).toNat)
  case atStart => exact ⟨m, b, Nat.le_refl _, by omega, Nat.le_refl _, rfl, rfl, H.out, fun k h1 h2 => by omega, fun k h1 h2 => by omega, World.grownBy.refl _ _⟩
  case round =>
    obtain ⟨i, j, hmi, hij, hjb, rfl, rfl, hA, hlo, hhi, hG⟩ := hrel
    have HA := Lib.hid hA
    have HLO := Lib.hid hlo
    have HHI := Lib.hid hhi
    have HG := Lib.hid hG
    clear hA hlo hhi hG
    by_cases hlt : i < j
    · obtain ⟨p, hp⟩ : ∃ p, p = (i + j) / 2 := ⟨_, rfl⟩
      have hp2 : ((i : Int) + (j : Int)) / 2 = (p : Int) := by omega
      have hip : i ≤ p := by omega
      have hpj : p < j := by omega
      obtain ⟨q, hq⟩ : ∃ q, q = a := ⟨_, rfl⟩
      have HQ := Lib.hid hq
      have hpn : p < n := by have := HB.out; omega
      have hqn : q < n := by have := HB.out; have := HAM.out; omega
      have i1 : (p : Int) < (n : Int) := by omega
      have i2 : (q : Int) < (n : Int) := by omega
      have hpb : p < 1099511627776 := by omega
      clear hp
      subst hq
      have hcell : wr.cell? ⟨g, p, none⟩ = some (.int .i64 (f p)) ∧ wr.cell? ⟨g, q, none⟩ = some (.int .i64 (f q)) := ⟨HA.out.cell p hpn, HA.out.cell q hqn⟩
      have HC := Lib.hid hcell
      clear hcell
      go_wp2_with fail
      refine region_seq (fun W => W.cell? ⟨g, p, none⟩ = some (.int .i64 (f p)) ∧ W.cell? ⟨g, q, none⟩ = some (.int .i64 (f q))) [(0, true), (1, true), (2, true), (3, true), (4, true), (5, true), (6, true), (7, true), (8, true), (9, false), (10, true)]
        (by kernel_rfl) (by kernel_rfl) (by kernel_rfl) (by kernel_rfl) (fun _ _ _ _ _ h => h) HC.out ?_
      repeat
        refine seq_pure (v := ?_) rfl (by rfl) (fun W hW => ?_) ?_
        rotate_left
        · have t1 := hW.1
          have t2 := hW.2
          clear hW
          go_simp
          try with_reducible rfl
        simp only [Act.put, List.setIfInBounds_toArray, List.set_cons_zero, List.set_cons_succ]
      refine seq_make rfl (by rfl) (fun K hK => ?_)
      go_simp
      have hDp : D (f p) := HD.out p hpn
      have hDq : D (f q) := HD.out q hqn
      refine (hC.gives wr.drew _ _ (hS _ _ HW.out (gb_drew HG.out)) hDp hDq).mono ?_
      rintro e w1 ⟨rfl, md, rfl⟩
      go_simp
      refine hK _ _ (fun W => W.cell? ⟨g, p, none⟩ = some (.int .i64 (f p)) ∧ W.cell? ⟨g, q, none⟩ = some (.int .i64 (f q))) (fun W h => h) HC.out ?_
      clear hK K
      repeat
        refine seq_pure (v := ?_) rfl (by rfl) (fun W hW => ?_) ?_
        rotate_left
        · clear hW
          go_simp
          try with_reducible rfl
        simp only [Act.put, List.setIfInBounds_toArray, List.set_cons_zero, List.set_cons_succ]
      refine seq_done ?_
      have A5 := Lib.hid (show Arr (wr.drewN (1 + md)) base g c n f from HA.out)
      have G5 := Lib.hid (gb_drewN HG.out (1 + md))
      clear HC HA HG
      generalize wr.drewN (1 + md) = w5 at *
      by_cases hkl : key (f p) < key (f q)
      · have hc : cmpI (key (f p)) (key (f q)) < 0 := by have := cmpI_lt (key (f p)) (key (f q)); simpa [hkl] using this
        have L5 : ∀ k, m ≤ k → k < p + 1 → key (f k) < key (f q) := fun k h1 h2 => by
          rcases Nat.lt_or_ge k p with h3 | h3
          · have := HS.out k p h1 h3 (by omega)
            omega
          · obtain rfl : k = p := by omega
            exact hkl
        have L5' := Lib.hid L5
        clear hkl L5
        go_wp2_with fail
        go_roundw
        case rel => exact ⟨p + 1, j, by omega, by omega, hjb, rfl, rfl, A5.out, L5'.out, HHI.out, G5.out⟩
        case measure => simp [intOf]; omega
      · have hc : ¬ cmpI (key (f p)) (key (f q)) < 0 := by have := cmpI_lt (key (f p)) (key (f q)); simpa [hkl] using this
        have L5 : ∀ k, p ≤ k → k < b → key (f q) ≤ key (f k) := fun k h1 h2 => by
          rcases Nat.lt_or_ge p k with h3 | h3
          · have := HS.out p k (by omega) h3 h2
            omega
          · obtain rfl : k = p := by omega
            omega
        have L5' := Lib.hid L5
        clear hkl L5
        go_wp2_with fail
        go_roundw
        case rel => exact ⟨i, p, hmi, hip, by omega, rfl, rfl, A5.out, HLO.out, L5'.out, G5.out⟩
        case measure => simp [intOf]; omega
    · obtain rfl : i = j := by omega
      have HAM2 := HAM.out
      subst HAM2
      obtain ⟨i', rfl⟩ : ∃ i', i = i' + 1 := ⟨i - 1, by omega⟩
      have g1 : ((i' + 1 : Nat) : Int) - 1 = (i' : Int) := by omega
      have hib : i' < 1099511627776 := by omega
      go_wp2_with fail
      go_loopw [13] (fun t wr => ∃ (k : Nat) (f' : Nat → Int), a ≤ k ∧ k ≤ i' ∧ t = .int .i64 (k : Int) ∧ Arr wr base g c n f' ∧ Rot a (a + 1) (k + 1) f f' ∧ w.grownBy wr (some g)) (fun t wr => i' - (intOf t).toNat)
      case atStart => exact ⟨a, f, Nat.le_refl _, by omega, rfl, HA.out, Rot.none (.inr rfl) (by omega) (Nat.le_refl _), HG.out⟩
      case round =>
        clear HA HG
        obtain ⟨p, f', hak, hki, rfl, hA, hR, hG⟩ := hrel
        have HA := Lib.hid hA
        have HR := Lib.hid hR
        have HG := Lib.hid hG
        clear hA hR hG
        by_cases hlt2 : p < i'
        · obtain ⟨q, hq⟩ : ∃ q, q = p + 1 := ⟨_, rfl⟩
          have HQ := Lib.hid hq
          have hqn : q < n := by have := HB.out; omega
          have hpn : p < n := by omega
          have wq : IntKind.i64.wrap ((p : Int) + 1) = (q : Int) := by rw [IntWalk.i64_in _ (by omega)]; omega
          have i1 : (p : Int) < (n : Int) := by omega
          have i2 : (q : Int) < (n : Int) := by omega
          clear hq
          go_wp2_with fail
          refine region_way (fun _ => True) (.step 0 true (.step 1 true (.step 2 true (.step 3 true (.step 4 true (.step 5 true (.step 6 true (.step 7 true (.step 8 true (.step 10 true (.step 11 true (.step 12 true (.both 9 13 (.step 13 false (.step 14 true (.step 15 false (.step 16 true (.step 17 false .done))))) (.step 9 false (.step 14 true (.step 15 false (.step 16 true (.step 17 false .done))))))))))))))))))
            (by kernel_rfl) (by kernel_rfl) (by kernel_rfl) (by kernel_rfl) (fun _ _ _ _ _ h => h) trivial ?_
          repeat
            refine way_pure (v := ?_) rfl (by rfl) (fun W _ => ?_) ?_
            rotate_left
            · go_simp
              try with_reducible rfl
            simp only [Act.put, List.setIfInBounds_toArray, List.set_cons_zero, List.set_cons_succ]
          refine way_both rfl (by rfl) rfl (by rfl) (fun K hK => ?_) (fun K hK => ?_)
          all_goals
            have c1 := HA.out.cell p hpn
            have c2 := HA.out.cell q hqn
            go_simp
            refine hK _ _ (fun _ => True) (fun _ _ => trivial) trivial ?_
            clear hK K
            refine way_make rfl (by rfl) (fun K hK => ?_)
            go_simp
            refine hK _ _ (fun _ => True) (fun _ _ => trivial) trivial ?_
            clear hK K
            refine way_pure (v := ?_) rfl (by rfl) (fun W _ => ?_) ?_
            rotate_left
            · go_simp
              try with_reducible rfl
            simp only [Act.put, List.setIfInBounds_toArray, List.set_cons_zero, List.set_cons_succ]
            refine way_make rfl (by rfl) (fun K hK => ?_)
            have d1 := HA.out.free p
            go_simp
            refine hK _ _ (fun _ => True) (fun _ _ => trivial) trivial ?_
            clear hK K c1 c2 d1
            refine way_pure (v := ?_) rfl (by rfl) (fun W _ => ?_) ?_
            rotate_left
            · go_simp
              try with_reducible rfl
            simp only [Act.put, List.setIfInBounds_toArray, List.set_cons_zero, List.set_cons_succ]
            refine way_make rfl (by rfl) (fun K hK => ?_)
            have A1 := Lib.hid (HA.out.set p (f' q))
            have e1 : (wr.setCell ⟨g, p, none⟩ (.int .i64 (f' q))).cell? ⟨g, q, none⟩ = some (.int .i64 (upd f' p (f' q) q)) := A1.out.1.cell q hqn
            have d2 := A1.out.1.free q
            generalize hw1 : wr.setCell ⟨g, p, none⟩ (.int .i64 (f' q)) = w1 at *
            go_simp
            have A2 := Lib.hid (A1.out.1.set q (f' p))
            refine hK _ _ (fun _ => True) (fun _ _ => trivial) trivial ?_
            clear hK K e1 d2 hw1
            generalize w1.setCell ⟨g, q, none⟩ (.int .i64 (f' p)) = w2 at *
            refine way_done ?_
            have G2 := Lib.hid ((HG.out.trans A1.out.2).trans A2.out.2)
            have A3 := Lib.hid (show Arr w2 base g c n (swp f' p q) from A2.out.1)
            have R3 := Lib.hid (HR.out.up hak)
            rw [HQ.out] at A3
            have hpb : p < 1099511627776 := by omega
            clear wq i2
            go_wp2_with fail
            go_roundw
            case rel => exact ⟨p + 1, swp f' p (p + 1), by omega, by omega, rfl, A3.out, R3.out, gb_drew G2.out⟩
            case measure => simp [intOf]; omega
        · obtain rfl : p = i' := by omega
          have L5 := Lib.hid (HR.out.loc (key := key) (n := n) (by omega) (by omega) (by have := HB.out; omega) (fun x y h1 h2 h3 h4 => by
            obtain rfl : x = a := by omega
            exact HLO.out y h3 h4))
          have S5 := Lib.hid (up_srt (key := key) HR.out (by omega) hjb HS.out HLO.out HHI.out)
          go_wp2_with fail
          refine bodyPost_ret (results_none rfl _ _ _) rfl ?_
          exact ⟨rfl, f', HA.out, L5.out.mono (Nat.le_refl _) hjb, S5.out, HG.out⟩
end
end Go.Proofs.YtjflbfianncpfaaGreat

namespace Go.Proofs.YtjflbfianncpfaaGreat
open Go.RowKit

section
variable {S : World → Prop} {D : Int → Prop} {key : Int → Int} {F : FuncId} {held : Array Value}

set_option maxRecDepth 100000 in
set_option maxHeartbeats 3200000 in
/-- One on the right. -/
theorem symR_calls (hC : Cmp Tryz.prog S D key F held) (base g c n a m b : Nat) (hS : ∀ W W', S W → W.grownBy W' (some g) → S W') (f : Nat → Int) (w : World) (h : Arr w base g c n f) (hw : S w) (hD : Dom D n f) (ham : a + 1 < m) (hmb : b = m + 1) (hb : b ≤ n) (hn : n ≤ 1099511627776) (hs : Srt key a m f) :
    Calls Tryz.prog 110 #[.slice (some ⟨g, 0, none⟩) n c, .int .i64 (a : Int), .int .i64 (m : Int), .int .i64 (b : Int), .func (.func F) #[] held] w (SrtPost key w base g c n a b f) := by
  have HMB := Lib.hid hmb
  have H := Lib.hid h
  have HW := Lib.hid hw
  have HD := Lib.hid hD
  have HB := Lib.hid hb
  have HN := Lib.hid hn
  have HS := Lib.hid hs
  have he := hC.enter
  have y1 : a ≤ 1099511627776 := by omega
  have y3 : m < 1099511627776 := by omega
  have g0 : (m : Int) - (a : Int) = ((m - a : Nat) : Int) := by omega
  have g1 : ((((m - a : Nat) : Int) == 1) : Bool) = false := by rw [beq_eq_false_iff_ne]; omega
  have g3 : ¬ (((m - a : Nat) : Int) = 1) := by omega
  have g2 : (b : Int) - (m : Int) = 1 := by omega
  have y4 : b ≤ 1099511627776 := by omega
  have HAM := Lib.hid ham
  clear h hw hD hb hn hs ham hmb
  go_enter Tryz.func110, Tryz.ntmps110
  go_wp2_with fail
  go_loopw [14, 15] (fun s t wr => ∃ (i j : Nat), a ≤ i ∧ i ≤ j ∧ j ≤ m ∧ s = .int .i64 (i : Int) ∧ t = .int .i64 (j : Int) ∧ Arr wr base g c n f ∧ (∀ k, a ≤ k → k < i → key (f k) ≤ key (f m)) ∧ (∀ k, j ≤ k → k < m → key (f m) < key (f k)) ∧ w.grownBy wr (some g)) (fun s t wr => (intOf t).toNat - (intOf s).toNat)
  case atStart => exact ⟨a, m, Nat.le_refl _, by have := HAM.out; omega, Nat.le_refl _, rfl, rfl, H.out, fun k h1 h2 => by omega, fun k h1 h2 => by omega, World.grownBy.refl _ _⟩
  case round =>
    obtain ⟨i, j, hmi, hij, hjb, rfl, rfl, hA, hlo, hhi, hG⟩ := hrel
    have HA := Lib.hid hA
    have HLO := Lib.hid hlo
    have HHI := Lib.hid hhi
    have HG := Lib.hid hG
    clear hA hlo hhi hG
    by_cases hlt : i < j
    · obtain ⟨q, hp⟩ : ∃ p, p = (i + j) / 2 := ⟨_, rfl⟩
      have hp2 : ((i : Int) + (j : Int)) / 2 = (q : Int) := by omega
      have hip : i ≤ q := by omega
      have hpj : q < j := by omega
      obtain ⟨p, hq⟩ : ∃ p, p = m := ⟨_, rfl⟩
      have hpn : p < n := by have := HB.out; have := HMB.out; omega
      have hqn : q < n := by have := HB.out; have := HMB.out; omega
      have i1 : (p : Int) < (n : Int) := by omega
      have i2 : (q : Int) < (n : Int) := by omega
      have hpb : q < 1099511627776 := by omega
      clear hp
      subst hq
      have hcell : wr.cell? ⟨g, p, none⟩ = some (.int .i64 (f p)) ∧ wr.cell? ⟨g, q, none⟩ = some (.int .i64 (f q)) := ⟨HA.out.cell p hpn, HA.out.cell q hqn⟩
      have HC := Lib.hid hcell
      clear hcell
      go_wp2_with fail
      refine region_seq (fun W => W.cell? ⟨g, p, none⟩ = some (.int .i64 (f p)) ∧ W.cell? ⟨g, q, none⟩ = some (.int .i64 (f q))) [(0, true), (1, true), (2, true), (3, true), (4, true), (5, true), (6, true), (7, true), (8, true), (9, false), (10, true), (11, true)]
        (by kernel_rfl) (by kernel_rfl) (by kernel_rfl) (by kernel_rfl) (fun _ _ _ _ _ h => h) HC.out ?_
      repeat
        refine seq_pure (v := ?_) rfl (by rfl) (fun W hW => ?_) ?_
        rotate_left
        · have t1 := hW.1
          have t2 := hW.2
          clear hW
          go_simp
          try with_reducible rfl
        simp only [Act.put, List.setIfInBounds_toArray, List.set_cons_zero, List.set_cons_succ]
      refine seq_make rfl (by rfl) (fun K hK => ?_)
      go_simp
      have hDp : D (f p) := HD.out p hpn
      have hDq : D (f q) := HD.out q hqn
      refine (hC.gives wr.drew _ _ (hS _ _ HW.out (gb_drew HG.out)) hDp hDq).mono ?_
      rintro e w1 ⟨rfl, md, rfl⟩
      go_simp
      refine hK _ _ (fun W => W.cell? ⟨g, p, none⟩ = some (.int .i64 (f p)) ∧ W.cell? ⟨g, q, none⟩ = some (.int .i64 (f q))) (fun W h => h) HC.out ?_
      clear hK K
      repeat
        refine seq_pure (v := ?_) rfl (by rfl) (fun W hW => ?_) ?_
        rotate_left
        · clear hW
          go_simp
          try with_reducible rfl
        simp only [Act.put, List.setIfInBounds_toArray, List.set_cons_zero, List.set_cons_succ]
      refine seq_done ?_
      have A5 := Lib.hid (show Arr (wr.drewN (1 + md)) base g c n f from HA.out)
      have G5 := Lib.hid (gb_drewN HG.out (1 + md))
      clear HC HA HG
      generalize wr.drewN (1 + md) = w5 at *
      by_cases hkl : key (f p) < key (f q)
      · have hc : cmpI (key (f p)) (key (f q)) < 0 := by have := cmpI_lt (key (f p)) (key (f q)); simpa [hkl] using this
        have hc3 : (!decide (cmpI (key (f p)) (key (f q)) < 0)) = false := by simp [hc]
        have L5 : ∀ k, q ≤ k → k < p → key (f p) < key (f k) := fun k h1 h2 => by
          rcases Nat.lt_or_ge q k with h3 | h3
          · have := HS.out q k (by omega) h3 h2
            omega
          · obtain rfl : k = q := by omega
            exact hkl
        have L5' := Lib.hid L5
        clear hkl L5
        rw [hc3]
        clear hc hc3
        go_wp2_with fail
        go_roundw
        case rel => exact ⟨i, q, hmi, hip, by omega, rfl, rfl, A5.out, HLO.out, L5'.out, G5.out⟩
        case measure => simp [intOf]; omega
      · have hc : ¬ cmpI (key (f p)) (key (f q)) < 0 := by have := cmpI_lt (key (f p)) (key (f q)); simpa [hkl] using this
        have hc3 : (!decide (cmpI (key (f p)) (key (f q)) < 0)) = true := by simpa using hc
        have L5 : ∀ k, a ≤ k → k < q + 1 → key (f k) ≤ key (f p) := fun k h1 h2 => by
          rcases Nat.lt_or_ge k q with h3 | h3
          · have := HS.out k q h1 h3 (by omega)
            omega
          · obtain rfl : k = q := by omega
            omega
        have L5' := Lib.hid L5
        clear hkl L5
        rw [hc3]
        clear hc hc3
        go_wp2_with fail
        go_roundw
        case rel => exact ⟨q + 1, j, by omega, by omega, hjb, rfl, rfl, A5.out, L5'.out, HHI.out, G5.out⟩
        case measure => simp [intOf]; omega
    · obtain rfl : i = j := by omega
      have hib : i < 1099511627776 := by omega
      clear g0 g1 g3 g2
      go_wp2_with fail
      go_loopw [17] (fun t wr => ∃ (k : Nat) (f' : Nat → Int), i ≤ k ∧ k ≤ m ∧ t = .int .i64 (k : Int) ∧ Arr wr base g c n f' ∧ Rot k m (m + 1) f f' ∧ w.grownBy wr (some g)) (fun t wr => (intOf t).toNat)
      case atStart => exact ⟨m, f, hjb, Nat.le_refl _, rfl, HA.out, Rot.none (.inl rfl) (Nat.le_refl _) (by omega), HG.out⟩
      case round =>
        clear HA HG
        obtain ⟨p, f', hik, hkm, rfl, hA, hR, hG⟩ := hrel
        have HA := Lib.hid hA
        have HR := Lib.hid hR
        have HG := Lib.hid hG
        clear hA hR hG
        by_cases hlt2 : i < p
        · obtain ⟨q, hq⟩ : ∃ q, p = q + 1 := ⟨p - 1, by omega⟩
          have HQ := Lib.hid hq
          have hpn : p < n := by have := HB.out; have := HMB.out; omega
          have hqn : q < n := by omega
          have wq : IntKind.i64.wrap ((p : Int) - 1) = (q : Int) := by rw [IntWalk.i64_in _ (by omega)]; omega
          have i1 : (p : Int) < (n : Int) := by omega
          have i2 : (q : Int) < (n : Int) := by omega
          clear hq
          go_wp2_with fail
          refine region_way (fun _ => True) (.step 0 true (.step 1 true (.step 2 true (.step 3 true (.step 4 true (.step 5 true (.step 6 true (.step 7 true (.step 8 true (.step 10 true (.step 11 true (.step 12 true (.both 9 13 (.step 13 false (.step 14 true (.step 15 false (.step 16 true (.step 17 false .done))))) (.step 9 false (.step 14 true (.step 15 false (.step 16 true (.step 17 false .done))))))))))))))))))
            (by kernel_rfl) (by kernel_rfl) (by kernel_rfl) (by kernel_rfl) (fun _ _ _ _ _ h => h) trivial ?_
          repeat
            refine way_pure (v := ?_) rfl (by rfl) (fun W _ => ?_) ?_
            rotate_left
            · go_simp
              try with_reducible rfl
            simp only [Act.put, List.setIfInBounds_toArray, List.set_cons_zero, List.set_cons_succ]
          refine way_both rfl (by rfl) rfl (by rfl) (fun K hK => ?_) (fun K hK => ?_)
          all_goals
            have c1 := HA.out.cell p hpn
            have c2 := HA.out.cell q hqn
            go_simp
            refine hK _ _ (fun _ => True) (fun _ _ => trivial) trivial ?_
            clear hK K
            refine way_make rfl (by rfl) (fun K hK => ?_)
            go_simp
            refine hK _ _ (fun _ => True) (fun _ _ => trivial) trivial ?_
            clear hK K
            refine way_pure (v := ?_) rfl (by rfl) (fun W _ => ?_) ?_
            rotate_left
            · go_simp
              try with_reducible rfl
            simp only [Act.put, List.setIfInBounds_toArray, List.set_cons_zero, List.set_cons_succ]
            refine way_make rfl (by rfl) (fun K hK => ?_)
            have d1 := HA.out.free p
            go_simp
            refine hK _ _ (fun _ => True) (fun _ _ => trivial) trivial ?_
            clear hK K c1 c2 d1
            refine way_pure (v := ?_) rfl (by rfl) (fun W _ => ?_) ?_
            rotate_left
            · go_simp
              try with_reducible rfl
            simp only [Act.put, List.setIfInBounds_toArray, List.set_cons_zero, List.set_cons_succ]
            refine way_make rfl (by rfl) (fun K hK => ?_)
            have A1 := Lib.hid (HA.out.set p (f' q))
            have e1 : (wr.setCell ⟨g, p, none⟩ (.int .i64 (f' q))).cell? ⟨g, q, none⟩ = some (.int .i64 (upd f' p (f' q) q)) := A1.out.1.cell q hqn
            have d2 := A1.out.1.free q
            generalize hw1 : wr.setCell ⟨g, p, none⟩ (.int .i64 (f' q)) = w1 at *
            go_simp
            have A2 := Lib.hid (A1.out.1.set q (f' p))
            refine hK _ _ (fun _ => True) (fun _ _ => trivial) trivial ?_
            clear hK K e1 d2 hw1
            generalize w1.setCell ⟨g, q, none⟩ (.int .i64 (f' p)) = w2 at *
            refine way_done ?_
            have G2 := Lib.hid ((HG.out.trans A1.out.2).trans A2.out.2)
            have A3 := Lib.hid (show Arr w2 base g c n (swp f' p q) from A2.out.1)
            have R3 := Lib.hid ((show Rot (q + 1) m (m + 1) f f' by rw [← HQ.out]; exact HR.out).down (by have := HQ.out; omega))
            rw [HQ.out] at A3
            have wq2 : (p : Int) - 1 = (q : Int) := by have := HQ.out; omega
            clear wq i2
            go_wp2_with fail
            go_roundw
            case rel => exact ⟨q, swp f' (q + 1) q, by have := HQ.out; omega, by have := HQ.out; omega, rfl, A3.out, R3.out, gb_drew G2.out⟩
            case measure => have := HQ.out; simp [intOf]; omega
        · obtain rfl : p = i := by omega
          have L5 := Lib.hid (HR.out.loc (key := key) (n := n) (by omega) (by omega) (by have := HB.out; have := HMB.out; omega) (fun x y h1 h2 h3 h4 => by
            obtain rfl : y = m := by omega
            exact HHI.out x h1 h2))
          have S5 := Lib.hid (down_srt (key := key) HR.out (by omega) hjb HS.out HLO.out HHI.out)
          go_wp2_with fail
          refine bodyPost_ret (results_none rfl _ _ _) rfl ?_
          have hb2 := HMB.out
          subst hb2
          exact ⟨rfl, f', HA.out, L5.out.mono hmi (Nat.le_refl _), S5.out, HG.out⟩
end
end Go.Proofs.YtjflbfianncpfaaGreat

namespace Go.Proofs.YtjflbfianncpfaaGreat
open Go.RowKit

/-- Where the search for the rotation begins and ends. -/
def Rng (a m b mid s r : Nat) : Prop := a ≤ s ∧ s ≤ r ∧ r ≤ m ∧ r ≤ mid ∧ mid + m - s ≤ b ∧ (∀ c, s ≤ c → c < r → m ≤ mid + m - 1 - c ∧ mid + m - 1 - c < b) ∧ (r = m ∨ r = mid) ∧ (s = a ∨ mid + m - s = b)
/-- What the search has found so far. -/
def Fnd (key : Int → Int) (f : Nat → Int) (p0 s0 r0 s r : Nat) : Prop := (∀ c, s0 ≤ c → c < s → key (f c) ≤ key (f (p0 - c))) ∧ (∀ c, r ≤ c → c < r0 → key (f (p0 - c)) < key (f c))

section
variable {S : World → Prop} {D : Int → Prop} {key : Int → Int} {F : FuncId} {held : Array Value}
theorem Fnd.more {f : Nat → Int} {a m b mid s0 r0 s r q : Nat} (hr : Rng a m b mid s0 r0) (h : Fnd key f (mid + m - 1) s0 r0 s r) (hl : Srt key a m f) (hh : Srt key m b f) (h1 : s0 ≤ s) (h2 : s ≤ q) (h3 : q < r) (h4 : r ≤ r0) (hk : key (f q) ≤ key (f (mid + m - 1 - q))) : Fnd key f (mid + m - 1) s0 r0 (q + 1) r := by
  obtain ⟨r1, r2, r3, r4, r5, r6, r7, r8⟩ := hr
  refine ⟨fun c x y => ?_, h.2⟩
  by_cases hcs : c = q
  · subst hcs; exact hk
  · have t1 := r6 q (by omega) (by omega)
    have t2 := r6 c x (by omega)
    have t3 := hl c q (by omega) (by omega) (by omega)
    have t4 := hh (mid + m - 1 - q) (mid + m - 1 - c) t1.1 (by omega) t2.2
    omega
theorem Fnd.less {f : Nat → Int} {a m b mid s0 r0 s r q : Nat} (hr : Rng a m b mid s0 r0) (h : Fnd key f (mid + m - 1) s0 r0 s r) (hl : Srt key a m f) (hh : Srt key m b f) (h1 : s0 ≤ s) (h2 : s ≤ q) (hk : key (f (mid + m - 1 - q)) < key (f q)) : Fnd key f (mid + m - 1) s0 r0 s q := by
  obtain ⟨r1, r2, r3, r4, r5, r6, r7, r8⟩ := hr
  refine ⟨h.1, fun c x y => ?_⟩
  by_cases hcs : c = q
  · subst hcs; exact hk
  · have t1 := r6 q (by omega) (by omega)
    have t2 := r6 c (by omega) y
    have t3 := hl q c (by omega) (by omega) (by omega)
    have t4 := hh (mid + m - 1 - c) (mid + m - 1 - q) t2.1 (by omega) t1.2
    omega
theorem Fnd.done {f : Nat → Int} {a m b mid s0 r0 s : Nat} (hr : Rng a m b mid s0 r0) (h : Fnd key f (mid + m - 1) s0 r0 s s) (hl : Srt key a m f) (hh : Srt key m b f) (hmid : mid < b) (h1 : s0 ≤ s) (h2 : s ≤ r0) :
    a ≤ s ∧ s ≤ m ∧ s ≤ mid ∧ m ≤ mid + m - s ∧ mid + m - s ≤ b ∧ (∀ i j, s ≤ i → i < m → m ≤ j → j < mid + m - s → key (f j) < key (f i)) ∧ (∀ i j, a ≤ i → i < s → mid + m - s ≤ j → j < b → key (f i) ≤ key (f j)) := by
  obtain ⟨r1, r2, r3, r4, r5, r6, r7, r8⟩ := hr
  refine ⟨by omega, by omega, by omega, by omega, by omega, fun i j x1 x2 x3 x4 => ?_, fun i j x1 x2 x3 x4 => ?_⟩
  · have hs : s < r0 := by omega
    have t1 := h.2 s (Nat.le_refl _) hs
    have t2 := r6 s h1 hs
    have t3 : key (f s) ≤ key (f i) := by
      rcases Nat.lt_or_ge s i with h3 | h3
      · exact hl s i (by omega) h3 x2
      · obtain rfl : s = i := by omega
        exact Int.le_refl _
    have t4 : key (f j) ≤ key (f (mid + m - 1 - s)) := by
      rcases Nat.lt_or_ge j (mid + m - 1 - s) with h3 | h3
      · exact hh j _ x3 h3 t2.2
      · obtain rfl : j = mid + m - 1 - s := by omega
        exact Int.le_refl _
    omega
  · have hs : s0 < s := by omega
    have t1 := h.1 (s - 1) (by omega) (by omega)
    have t2 := r6 (s - 1) (by omega) (by omega)
    have t3 : key (f i) ≤ key (f (s - 1)) := by
      rcases Nat.lt_or_ge i (s - 1) with h3 | h3
      · exact hl i (s - 1) x1 h3 (by omega)
      · obtain rfl : i = s - 1 := by omega
        exact Int.le_refl _
    have t4 : key (f (mid + m - 1 - (s - 1))) ≤ key (f j) := by
      rcases Nat.lt_or_ge (mid + m - 1 - (s - 1)) j with h3 | h3
      · exact hh _ j t2.1 h3 x4
      · obtain rfl : j = mid + m - 1 - (s - 1) := by omega
        exact Int.le_refl _
    omega

set_option maxRecDepth 100000 in
set_option maxHeartbeats 6400000 in
/-- More than one on either side; what such a merge of less comes to is given. -/
theorem symM_calls (hC : Cmp Tryz.prog S D key F held) (base g c n a m b : Nat) (hS : ∀ W W', S W → W.grownBy W' (some g) → S W') (f : Nat → Int) (w : World) (h : Arr w base g c n f) (hw : S w) (hD : Dom D n f) (ham : a + 1 < m) (hmb : m + 1 < b) (hb : b ≤ n) (hn : n ≤ 1099511627776) (hl : Srt key a m f) (hh : Srt key m b f)
    (ih : ∀ (a' m' b' : Nat) (f' : Nat → Int) (w' : World), b' - a' < b - a → a' < m' → m' < b' → b' ≤ n → Arr w' base g c n f' → S w' → Dom D n f' → Srt key a' m' f' → Srt key m' b' f' →
      Calls Tryz.prog 110 #[.slice (some ⟨g, 0, none⟩) n c, .int .i64 (a' : Int), .int .i64 (m' : Int), .int .i64 (b' : Int), .func (.func F) #[] held] w' (SrtPost key w' base g c n a' b' f')) :
    Calls Tryz.prog 110 #[.slice (some ⟨g, 0, none⟩) n c, .int .i64 (a : Int), .int .i64 (m : Int), .int .i64 (b : Int), .func (.func F) #[] held] w (SrtPost key w base g c n a b f) := by
  have H := Lib.hid h
  have HW := Lib.hid hw
  have HD := Lib.hid hD
  have HB := Lib.hid hb
  have HN := Lib.hid hn
  have HL := Lib.hid hl
  have HH := Lib.hid hh
  have IH := Lib.hid ih
  have he := hC.enter
  have y1 : a ≤ 1099511627776 := by omega
  have y2 : b ≤ 1099511627776 := by omega
  have y3 : m ≤ 1099511627776 := by omega
  have g0 : (m : Int) - (a : Int) = ((m - a : Nat) : Int) := by omega
  have g1 : ((((m - a : Nat) : Int) == 1) : Bool) = false := by rw [beq_eq_false_iff_ne]; omega
  have g3 : ¬ (((m - a : Nat) : Int) = 1) := by omega
  have g4 : (b : Int) - (m : Int) = ((b - m : Nat) : Int) := by omega
  have g5 : ((((b - m : Nat) : Int) == 1) : Bool) = false := by rw [beq_eq_false_iff_ne]; omega
  have g6 : ¬ (((b - m : Nat) : Int) = 1) := by omega
  obtain ⟨mid, hmid⟩ : ∃ p, p = (a + b) / 2 := ⟨_, rfl⟩
  have g7 : ((a : Int) + (b : Int)) / 2 = (mid : Int) := by omega
  obtain ⟨nn, hnn⟩ : ∃ p, p = mid + m := ⟨_, rfl⟩
  have g8 : (mid : Int) + (m : Int) = (nn : Int) := by omega
  have y4 : mid ≤ 1099511627776 := by omega
  have y5 : nn ≤ 2199023255552 := by omega
  have HX := Lib.hid (And.intro hmid (And.intro hnn (And.intro ham hmb)))
  clear h hw hD hb hn hl hh ih hmid hnn ham hmb
  go_enter Tryz.func110, Tryz.ntmps110
  go_upto_if 140 with fail
  clear g0 g1 g3 g4 g5 g6
  go_cut [20, 21] (fun s t wx => ∃ s0 r0 : Nat, s = .int .i64 (s0 : Int) ∧ t = .int .i64 (r0 : Int) ∧ Rng a m b mid s0 r0 ∧ wx = w)
  case first =>
    by_cases hm : mid < m
    · have t1 : decide ((mid : Int) < (m : Int)) = true := by simp; omega
      have t2 : decide (mid < m) = true := by simp [hm]
      have g9 : (nn : Int) - (b : Int) = ((nn - b : Nat) : Int) := by have := HX.out; omega
      go_wp2_with fail
      go_meet
      exact ⟨nn - b, mid, rfl, rfl, by have := HX.out; unfold Rng; refine ⟨by omega, by omega, by omega, by omega, by omega, fun c _ _ => ⟨by omega, by omega⟩, by omega, by omega⟩, rfl⟩
    · have t1 : decide ((mid : Int) < (m : Int)) = false := by simp; omega
      have t2 : decide (mid < m) = false := by simp [hm]
      go_wp2_with fail
      go_meet
      exact ⟨a, m, rfl, rfl, by have := HX.out; unfold Rng; refine ⟨by omega, by omega, by omega, by omega, by omega, fun c _ _ => ⟨by omega, by omega⟩, by omega, by omega⟩, rfl⟩
  case rest =>
    obtain ⟨s0, r0, rfl, rfl, hR, rfl⟩ := hcut
    have HR := Lib.hid hR
    clear hR
    have g10 : (nn : Int) - 1 = ((nn - 1 : Nat) : Int) := by have := HX.out; omega
    go_wp2_with fail
    clear g7 g8 g10
    go_loopw [20, 21] (fun s t wr => ∃ (i j : Nat), s0 ≤ i ∧ i ≤ j ∧ j ≤ r0 ∧ s = .int .i64 (i : Int) ∧ t = .int .i64 (j : Int) ∧ Arr wr base g c n f ∧ Fnd key f (mid + m - 1) s0 r0 i j ∧ wc.grownBy wr (some g)) (fun s t wr => (intOf t).toNat - (intOf s).toNat)
    case atStart => exact ⟨s0, r0, Nat.le_refl _, HR.out.2.1, Nat.le_refl _, rfl, rfl, H.out, ⟨fun k h1 h2 => by omega, fun k h1 h2 => by omega⟩, World.grownBy.refl _ _⟩
    case round =>
      obtain ⟨i, j, hsi, hij, hjr, rfl, rfl, hA, hF, hG⟩ := hrel
      have HA := Lib.hid hA
      have HF := Lib.hid hF
      have HG := Lib.hid hG
      clear hA hF hG
      have hjm : j ≤ m := by have := HR.out; unfold Rng at this; omega
      by_cases hlt : i < j
      · obtain ⟨q, hq⟩ : ∃ p, p = (i + j) / 2 := ⟨_, rfl⟩
        have hp2 : ((i : Int) + (j : Int)) / 2 = (q : Int) := by omega
        have hip : i ≤ q := by omega
        have hpj : q < j := by omega
        obtain ⟨p, hp⟩ : ∃ p, p = mid + m - 1 - q := ⟨_, rfl⟩
        have HP := Lib.hid hp
        have hin := HR.out.2.2.2.2.2.1 q (by omega) (by omega)
        have hpn : p < n := by have := HB.out; omega
        have hqn : q < n := by have := HB.out; omega
        have i1 : (p : Int) < (n : Int) := by omega
        have i2 : (q : Int) < (n : Int) := by omega
        have hpb : q < 1099511627776 := by omega
        have wq : IntKind.i64.wrap (((nn - 1 : Nat) : Int) - (q : Int)) = (p : Int) := by have := HX.out; rw [IntWalk.i64_in _ (by omega)]; omega
        clear hq hp hin
        have hcell : wr.cell? ⟨g, p, none⟩ = some (.int .i64 (f p)) ∧ wr.cell? ⟨g, q, none⟩ = some (.int .i64 (f q)) := ⟨HA.out.cell p hpn, HA.out.cell q hqn⟩
        have HC := Lib.hid hcell
        clear hcell
        go_wp2_with fail
        refine region_seq (fun W => W.cell? ⟨g, p, none⟩ = some (.int .i64 (f p)) ∧ W.cell? ⟨g, q, none⟩ = some (.int .i64 (f q))) [(0, true), (1, true), (2, true), (3, true), (4, true), (5, true), (6, true), (7, true), (8, true), (9, true), (10, true), (11, false), (12, true), (13, true)]
          (by kernel_rfl) (by kernel_rfl) (by kernel_rfl) (by kernel_rfl) (fun _ _ _ _ _ h => h) HC.out ?_
        repeat
          refine seq_pure (v := ?_) rfl (by rfl) (fun W hW => ?_) ?_
          rotate_left
          · have t1 := hW.1
            have t2 := hW.2
            clear hW
            go_simp
            try with_reducible rfl
          simp only [Act.put, List.setIfInBounds_toArray, List.set_cons_zero, List.set_cons_succ]
        refine seq_make rfl (by rfl) (fun K hK => ?_)
        go_simp
        have hDp : D (f p) := HD.out p hpn
        have hDq : D (f q) := HD.out q hqn
        refine (hC.gives wr.drew _ _ (hS _ _ HW.out (gb_drew HG.out)) hDp hDq).mono ?_
        rintro e w1 ⟨rfl, md, rfl⟩
        go_simp
        refine hK _ _ (fun W => W.cell? ⟨g, p, none⟩ = some (.int .i64 (f p)) ∧ W.cell? ⟨g, q, none⟩ = some (.int .i64 (f q))) (fun W h => h) HC.out ?_
        clear hK K
        repeat
          refine seq_pure (v := ?_) rfl (by rfl) (fun W hW => ?_) ?_
          rotate_left
          · clear hW
            go_simp
            try with_reducible rfl
          simp only [Act.put, List.setIfInBounds_toArray, List.set_cons_zero, List.set_cons_succ]
        refine seq_done ?_
        have A5 := Lib.hid (show Arr (wr.drewN (1 + md)) base g c n f from HA.out)
        have G5 := Lib.hid (gb_drewN HG.out (1 + md))
        clear HC HA HG
        generalize wr.drewN (1 + md) = w5 at *
        by_cases hkl : key (f p) < key (f q)
        · have hc : cmpI (key (f p)) (key (f q)) < 0 := by have := cmpI_lt (key (f p)) (key (f q)); simpa [hkl] using this
          have hc3 : (!decide (cmpI (key (f p)) (key (f q)) < 0)) = false := by simp [hc]
          have F5 := Lib.hid (HF.out.less HR.out HL.out HH.out hsi hip (by rw [← HP.out]; exact hkl))
          clear hkl
          rw [hc3]
          clear hc hc3 wq
          go_wp2_with fail
          go_roundw
          case rel => exact ⟨i, q, hsi, hip, by omega, rfl, rfl, A5.out, F5.out, G5.out⟩
          case measure => simp [intOf]; omega
        · have hc : ¬ cmpI (key (f p)) (key (f q)) < 0 := by have := cmpI_lt (key (f p)) (key (f q)); simpa [hkl] using this
          have hc3 : (!decide (cmpI (key (f p)) (key (f q)) < 0)) = true := by simpa using hc
          have F5 := Lib.hid (HF.out.more HR.out HL.out HH.out hsi hip hpj hjr (by rw [← HP.out]; omega))
          clear hkl
          rw [hc3]
          clear hc hc3 wq
          go_wp2_with fail
          go_roundw
          case rel => exact ⟨q + 1, j, by omega, by omega, hjr, rfl, rfl, A5.out, F5.out, G5.out⟩
          case measure => simp [intOf]; omega
      · obtain rfl : i = j := by omega
        have hmb : mid < b := by have := HX.out; omega
        obtain ⟨d1, d2, d3, d4, d5, d6, d7⟩ := HF.out.done HR.out HL.out HH.out hmb hsi hjr
        obtain ⟨e, hee⟩ : ∃ e, e = mid + m - i := ⟨_, rfl⟩
        rw [← hee] at d4 d5 d6 d7
        have g11 : (nn : Int) - (i : Int) = (e : Int) := by have := HX.out; omega
        have hmd : mid = i + (e - m) := by omega
        have DX := Lib.hid d6
        have DC := Lib.hid d7
        have HMD := Lib.hid hmd
        have hi40 : i ≤ 1099511627776 := by omega
        have he40 : e ≤ 1099511627776 := by omega
        clear d6 d7 hee hmd HF
        go_upto_region 39 with fail
        go_cut [185] (fun s wx => s = .bool (decide (i < m) && decide (m < e)) ∧ wx = wr)
        case first =>
          by_cases h1 : i < m
          · have t1 : decide ((i : Int) < (m : Int)) = true := by simp; omega
            have t2 : decide (i < m) = true := by simp [h1]
            by_cases h2 : m < e
            · have t3 : decide ((m : Int) < (e : Int)) = true := by simp; omega
              have t4 : decide (m < e) = true := by simp [h2]
              go_wp2_with fail
              go_meet
              exact ⟨by rw [t2, t4]; rfl, rfl⟩
            · have t3 : decide ((m : Int) < (e : Int)) = false := by simp; omega
              have t4 : decide (m < e) = false := by simp [h2]
              go_wp2_with fail
              go_meet
              exact ⟨by rw [t2, t4]; rfl, rfl⟩
          · have t1 : decide ((i : Int) < (m : Int)) = false := by simp; omega
            have t2 : decide (i < m) = false := by simp [h1]
            go_wp2_with fail
            go_meet
            exact ⟨by rw [t2]; rfl, rfl⟩
        case rest =>
          obtain ⟨rfl, rfl⟩ := hcut
          have HW2 := Lib.hid (hS _ _ HW.out HG.out)
          go_upto_if 185 with fail
          go_cut [] (fun wx => ∃ f1, Arr wx base g c n f1 ∧ Rot i m e f f1 ∧ Loc key n i e f f1 ∧ wc.grownBy wx (some g))
          case first =>
            by_cases hb : i < m ∧ m < e
            · have hbv : (decide (i < m) && decide (m < e)) = true := by simp [hb]
              have HBB := Lib.hid hb
              rw [hbv]
              clear hb hbv
              go_wp2_with fail
              ((with_reducible refine (rot_calls base g c n i m e f _ wc HA.out HBB.out.1 HBB.out.2 (by have := HB.out; omega) HN.out).mono ?_))
              rintro ee w1 ⟨rfl, f2, hA2, hR2, hG2⟩
              have A2 := Lib.hid hA2
              have G2 := Lib.hid hG2
              have R2 := Lib.hid hR2
              have L2 := Lib.hid (hR2.loc (key := key) (n := n) (by omega) (by omega) (by have := HB.out; omega) DX.out)
              clear hA2 hR2 hG2
              go_wp2_with fail
              go_meet
              exact ⟨f2, A2.out, R2.out, L2.out, G2.out⟩
            · have hbv : (decide (i < m) && decide (m < e)) = false := by simpa using hb
              have R2 := Lib.hid (Rot.none (f := f) (a := i) (m := m) (b := e) (by omega) (by omega) (by omega))
              rw [hbv]
              clear hb hbv
              go_wp2_with fail
              go_meet
              exact ⟨f, HA.out, R2.out, Loc.refl _ _ _, World.grownBy.refl _ _⟩
          case rest =>
            as_aux_lemma =>
              obtain ⟨f1, hA1, hR1, hL1, hG1⟩ := hcut
              have HA1 := Lib.hid hA1
              have HR1 := Lib.hid hR1
              have HL1 := Lib.hid hL1
              have HG1 := Lib.hid (HG.out.trans hG1)
              have HW1 := Lib.hid (hS _ _ HW2.out hG1)
              have HD1 := Lib.hid (HD.out.loc hL1 (by have := HB.out; omega))
              have PT := Lib.hid (hR1.parts d1 d2 d4 d5 HMD.out HL.out HH.out)
              have hma : mid - a < b - a ∧ b - mid < b - a := by have := HX.out; omega
              have HMA := Lib.hid hma
              clear hA1 hR1 hL1 hG1 hma HA HG HW2
              go_upto_region 41 with fail
              go_cut [199] (fun s wx => s = .bool (decide (a < i) && decide (i < mid)) ∧ wx = wc)
              case first =>
                by_cases h1 : a < i
                · have t1 : decide ((a : Int) < (i : Int)) = true := by simp; omega
                  have t2 : decide (a < i) = true := by simp [h1]
                  by_cases h2 : i < mid
                  · have t3 : decide ((i : Int) < (mid : Int)) = true := by simp; omega
                    have t4 : decide (i < mid) = true := by simp [h2]
                    go_wp2_with fail
                    go_meet
                    exact ⟨by rw [t2, t4]; rfl, rfl⟩
                  · have t3 : decide ((i : Int) < (mid : Int)) = false := by simp; omega
                    have t4 : decide (i < mid) = false := by simp [h2]
                    go_wp2_with fail
                    go_meet
                    exact ⟨by rw [t2, t4]; rfl, rfl⟩
                · have t1 : decide ((a : Int) < (i : Int)) = false := by simp; omega
                  have t2 : decide (a < i) = false := by simp [h1]
                  go_wp2_with fail
                  go_meet
                  exact ⟨by rw [t2]; rfl, rfl⟩
              case rest =>
                obtain ⟨rfl, rfl⟩ := hcut
                go_upto_if 199 with fail
                go_cut [] (fun wx => ∃ f2, Arr wx base g c n f2 ∧ Loc key n a mid f1 f2 ∧ Srt key a mid f2 ∧ wc.grownBy wx (some g))
                case first =>
                  by_cases hb : a < i ∧ i < mid
                  · have hbv : (decide (a < i) && decide (i < mid)) = true := by simp [hb]
                    have HBB := Lib.hid hb
                    rw [hbv]
                    clear hb hbv
                    go_wp2_with fail
                    ((with_reducible refine (IH.out a i mid f1 wc HMA.out.1 HBB.out.1 HBB.out.2 (by have := HB.out; omega) HA1.out HW1.out HD1.out PT.out.1 PT.out.2.1).mono ?_))
                    rintro ee w1 ⟨rfl, f2, hA2, hL2, hS2, hG2⟩
                    have A2 := Lib.hid hA2
                    have G2 := Lib.hid hG2
                    have S2 := Lib.hid hS2
                    have L2 := Lib.hid hL2
                    clear hA2 hS2 hG2 hL2
                    go_wp2_with fail
                    go_meet
                    exact ⟨f2, A2.out, L2.out, S2.out, G2.out⟩
                  · have hbv : (decide (a < i) && decide (i < mid)) = false := by simpa using hb
                    have S2 : Srt key a mid f1 := by
                      by_cases h1 : a < i
                      · obtain rfl : i = mid := by omega
                        exact PT.out.1
                      · obtain rfl : a = i := by omega
                        exact PT.out.2.1
                    have S2' := Lib.hid S2
                    rw [hbv]
                    clear hb hbv S2
                    go_wp2_with fail
                    go_meet
                    exact ⟨f1, HA1.out, Loc.refl _ _ _, S2'.out, World.grownBy.refl _ _⟩
                case rest =>
                  as_aux_lemma =>
                    obtain ⟨f2, hA2, hL2, hS2, hG2⟩ := hcut
                    have hme : mid ≤ e := by have := HMD.out; omega
                    have HA2 := Lib.hid hA2
                    have HL2 := Lib.hid hL2
                    have HS2 := Lib.hid hS2
                    have HG2 := Lib.hid (HG1.out.trans hG2)
                    have HW2 := Lib.hid (hS _ _ HW1.out hG2)
                    have HD2 := Lib.hid (HD1.out.loc hL2 (by have := HB.out; omega))
                    have P2 := Lib.hid (And.intro (hL2.srt PT.out.2.2.1 (.inr (Nat.le_refl _))) (hL2.srt PT.out.2.2.2 (.inr (by omega))))
                    clear hA2 hL2 hS2 hG2 HA1 HG1 HW1
                    go_upto_region 43 with fail
                    go_cut [213] (fun s wx => s = .bool (decide (mid < e) && decide (e < b)) ∧ wx = wc)
                    case first =>
                      by_cases h1 : mid < e
                      · have t1 : decide ((mid : Int) < (e : Int)) = true := by simp; omega
                        have t2 : decide (mid < e) = true := by simp [h1]
                        by_cases h2 : e < b
                        · have t3 : decide ((e : Int) < (b : Int)) = true := by simp; omega
                          have t4 : decide (e < b) = true := by simp [h2]
                          go_wp2_with fail
                          go_meet
                          exact ⟨by rw [t2, t4]; rfl, rfl⟩
                        · have t3 : decide ((e : Int) < (b : Int)) = false := by simp; omega
                          have t4 : decide (e < b) = false := by simp [h2]
                          go_wp2_with fail
                          go_meet
                          exact ⟨by rw [t2, t4]; rfl, rfl⟩
                      · have t1 : decide ((mid : Int) < (e : Int)) = false := by simp; omega
                        have t2 : decide (mid < e) = false := by simp [h1]
                        go_wp2_with fail
                        go_meet
                        exact ⟨by rw [t2]; rfl, rfl⟩
                    case rest =>
                      obtain ⟨rfl, rfl⟩ := hcut
                      go_upto_if 213 with fail
                      by_cases hb : mid < e ∧ e < b
                      · have hbv : (decide (mid < e) && decide (e < b)) = true := by simp [hb]
                        have HBB := Lib.hid hb
                        rw [hbv]
                        clear hb hbv
                        go_wp2_with fail
                        ((with_reducible refine (IH.out mid e b f2 wc HMA.out.2 HBB.out.1 HBB.out.2 HB.out HA2.out HW2.out HD2.out P2.out.1 P2.out.2).mono ?_))
                        rintro ee w1 ⟨rfl, f3, hA3, hL3, hS3, hG3⟩
                        have A3 := Lib.hid hA3
                        have G3 := Lib.hid hG3
                        have S3 := Lib.hid hS3
                        have L3 := Lib.hid hL3
                        clear hA3 hS3 hG3 hL3
                        go_wp2_with fail
                        go_end0
                        exact ⟨rfl, f3, A3.out, ((HL1.out.mono d1 d5).trans (HL2.out.mono (Nat.le_refl _) (by omega))).trans (L3.out.mono (by omega) (Nat.le_refl _)), merged d2 d4 HMD.out HR1.out HL2.out HS2.out L3.out S3.out HL.out HH.out DX.out DC.out, HG2.out.trans G3.out⟩
                      · have hbv : (decide (mid < e) && decide (e < b)) = false := by simpa using hb
                        have S3 : Srt key mid b f2 := by
                          by_cases h1 : mid < e
                          · obtain rfl : e = b := by omega
                            exact P2.out.1
                          · obtain rfl : mid = e := by omega
                            exact P2.out.2
                        have S3' := Lib.hid S3
                        rw [hbv]
                        clear hb hbv S3
                        go_wp2_with fail
                        go_end0
                        exact ⟨rfl, f2, HA2.out, (HL1.out.mono d1 d5).trans (HL2.out.mono (Nat.le_refl _) (by omega)), merged d2 d4 HMD.out HR1.out HL2.out HS2.out (Loc.refl _ _ _) S3'.out HL.out HH.out DX.out DC.out, HG2.out⟩

/-- Any two neighboring ranges that are in order. -/
theorem sym_calls (hC : Cmp Tryz.prog S D key F held) (base g c n : Nat) (hS : ∀ W W', S W → W.grownBy W' (some g) → S W') (hn : n ≤ 1099511627776) : ∀ (k a m b : Nat) (f : Nat → Int) (w : World), b - a ≤ k → a < m → m < b → b ≤ n → Arr w base g c n f → S w → Dom D n f → Srt key a m f → Srt key m b f →
      Calls Tryz.prog 110 #[.slice (some ⟨g, 0, none⟩) n c, .int .i64 (a : Int), .int .i64 (m : Int), .int .i64 (b : Int), .func (.func F) #[] held] w (SrtPost key w base g c n a b f)
  | 0, a, m, b, f, w, hk, ham, hmb, _, _, _, _, _, _ => by omega
  | k + 1, a, m, b, f, w, hk, ham, hmb, hb, h, hw, hD, hl, hh => by
    by_cases h1 : m = a + 1
    · exact symL_calls hC base g c n a m b hS f w h hw hD h1 hmb hb hn hh
    · by_cases h2 : b = m + 1
      · exact symR_calls hC base g c n a m b hS f w h hw hD (by omega) h2 hb hn hl
      · exact symM_calls hC base g c n a m b hS f w h hw hD (by omega) (by omega) hb hn hl hh
          (fun a' m' b' f' w' x1 x2 x3 x4 x5 x6 x7 x8 x9 => sym_calls hC base g c n hS hn k a' m' b' f' w' (by omega) x2 x3 x4 x5 x6 x7 x8 x9)
end
end Go.Proofs.YtjflbfianncpfaaGreat

namespace Go.Proofs.YtjflbfianncpfaaGreat
open Go.RowKit

/-- Blocks of one length are in order. -/
def Bks (key : Int → Int) (n bs : Nat) (f : Nat → Int) : Prop := ∀ t, Srt key (t * bs) (min (t * bs + bs) n) f
/-- While blocks are merged, two by two. -/
def Mdw (key : Int → Int) (n bs t0 : Nat) (f : Nat → Int) : Prop := (∀ t, t < t0 → Srt key (t * (2 * bs)) (t * (2 * bs) + 2 * bs) f) ∧ (∀ t, 2 * t0 ≤ t → Srt key (t * bs) (min (t * bs + bs) n) f)
section
variable {key : Int → Int} {n bs t0 a : Nat} {f g : Nat → Int}
theorem two_mul_eq (t0 bs : Nat) : 2 * t0 * bs = t0 * (2 * bs) := by rw [Nat.mul_comm 2 t0, Nat.mul_assoc]
theorem Mdw.start (h : Bks key n bs f) : Mdw key n bs 0 f := ⟨fun t ht => by omega, fun t _ => h t⟩
theorem Mdw.pre (h : Mdw key n bs t0 f) (ha : a = t0 * (2 * bs)) : Srt key a (min (a + bs) n) f ∧ Srt key (a + bs) (min (a + 2 * bs) n) f := by
  have e1 := two_mul_eq t0 bs
  have e2 : (2 * t0 + 1) * bs = a + bs := by rw [Nat.add_mul, Nat.one_mul, e1, ha]
  have h1 := h.2 (2 * t0) (Nat.le_refl _)
  have h2 := h.2 (2 * t0 + 1) (by omega)
  rw [e1, ← ha] at h1
  rw [e2, show a + bs + bs = a + 2 * bs by omega] at h2
  exact ⟨h1, h2⟩
theorem Mdw.step (h : Mdw key n bs t0 f) (ha : a = t0 * (2 * bs)) (hl : Loc key n a (a + 2 * bs) f g) (hs : Srt key a (a + 2 * bs) g) : Mdw key n bs (t0 + 1) g := by
  refine ⟨fun t ht => ?_, fun t ht => ?_⟩
  · by_cases h1 : t = t0
    · subst h1; rw [← ha]; exact hs
    · have h2 : (t + 1) * (2 * bs) ≤ t0 * (2 * bs) := Nat.mul_le_mul_right _ (by omega)
      rw [Nat.add_mul, Nat.one_mul, ← ha] at h2
      exact hl.srt (h.1 t (by omega)) (.inl h2)
  · have h2 : (2 * t0 + 2) * bs ≤ t * bs := Nat.mul_le_mul_right _ (by omega)
    rw [Nat.add_mul, two_mul_eq, ← ha] at h2
    exact hl.srt (h.2 t (by omega)) (.inr h2)
theorem Mdw.done (h : Mdw key n bs t0 f) (ha : a = t0 * (2 * bs)) (hl : Loc key n a n f g) (hs : Srt key a n g) (hn : n < a + 2 * bs) : Bks key n (2 * bs) g := by
  intro t
  by_cases h1 : t < t0
  · have h2 : (t + 1) * (2 * bs) ≤ t0 * (2 * bs) := Nat.mul_le_mul_right _ (by omega)
    rw [Nat.add_mul, Nat.one_mul, ← ha] at h2
    exact (hl.srt (h.1 t h1) (.inl h2)).sub (Nat.le_refl _) (Nat.min_le_left _ _)
  · by_cases h3 : t = t0
    · subst h3; rw [← ha]; exact hs.sub (Nat.le_refl _) (Nat.min_le_right _ _)
    · have h2 : (t0 + 1) * (2 * bs) ≤ t * (2 * bs) := Nat.mul_le_mul_right _ (by omega)
      rw [Nat.add_mul, Nat.one_mul, ← ha] at h2
      intro i j x y z
      have := Nat.min_le_right (t * (2 * bs) + 2 * bs) n
      omega
end

section
variable {S : World → Prop} {D : Int → Prop} {key : Int → Int} {F : FuncId} {held : Array Value}

set_option maxRecDepth 100000 in
set_option maxHeartbeats 3200000 in
theorem stable_calls (hC : Cmp Tryz.prog S D key F held) (base g c n : Nat) (hS : ∀ W W', S W → W.grownBy W' (some g) → S W') (f : Nat → Int) (w : World) (h : Arr w base g c n f) (hw : S w) (hD : Dom D n f) (hn : n ≤ 1099511627776) :
    Calls Tryz.prog 96 #[.slice (some ⟨g, 0, none⟩) n c, .int .i64 (n : Int), .func (.func F) #[] held] w (SrtPost key w base g c n 0 n f) := by
  have H := Lib.hid h
  have HW := Lib.hid hw
  have HD := Lib.hid hD
  have HN := Lib.hid hn
  have y2 : n ≤ 1099511627776 := hn
  clear h hw hD hn
  go_enter Tryz.func96, Tryz.ntmps96
  go_wp2_with fail
  go_loopw [7, 8] (fun s t wr => ∃ (a t0 : Nat) (f1 : Nat → Int), a ≤ n ∧ a = t0 * 20 ∧ s = .int .i64 (a : Int) ∧ t = .int .i64 ((a + 20 : Nat) : Int) ∧ Arr wr base g c n f1 ∧ Loc key n 0 n f f1 ∧ (∀ t, t < t0 → Srt key (t * 20) (t * 20 + 20) f1) ∧ w.grownBy wr (some g)) (fun s t wr => n - (intOf s).toNat)
  case atStart => exact ⟨0, 0, f, Nat.zero_le _, rfl, rfl, rfl, H.out, Loc.refl _ _ _, fun t ht => by omega, World.grownBy.refl _ _⟩
  case round =>
    obtain ⟨a, t0, f1, han, hat, rfl, rfl, hA, hL, hB, hG⟩ := hrel
    have HA := Lib.hid hA
    have HL := Lib.hid hL
    have HB := Lib.hid hB
    have HG := Lib.hid hG
    have HAT := Lib.hid hat
    clear hA hL hB hG hat
    obtain ⟨b, hb⟩ : ∃ b, b = a + 20 := ⟨_, rfl⟩
    rw [← hb]
    have HBB := Lib.hid hb
    have hb40 : b ≤ 4398046511104 := by omega
    clear hb
    by_cases hlt : b ≤ n
    · go_wp2_with fail
      ((with_reducible refine (ins_calls hC base g c n a b hS f1 wr HA.out (hS _ _ HW.out HG.out) (HD.out.loc HL.out (Nat.le_refl _)) (by have := HBB.out; omega) hlt HN.out).mono ?_))
      rintro ee w1 ⟨rfl, f2, hA2, hL2, hS2, hG2⟩
      have A2 := Lib.hid hA2
      have G2 := Lib.hid (HG.out.trans hG2)
      have L2 := Lib.hid (HL.out.trans (hL2.mono (Nat.zero_le _) hlt))
      have B2 : ∀ t, t < t0 + 1 → Srt key (t * 20) (t * 20 + 20) f2 := fun t ht => by
        have := HAT.out
        by_cases h1 : t = t0
        · subst h1; rw [← this, ← HBB.out]; exact hS2
        · exact hL2.srt (HB.out t (by omega)) (.inl (by omega))
      have B2' := Lib.hid B2
      clear hA2 hL2 hS2 hG2 B2
      go_wp2_with fail
      go_roundw
      case rel => exact ⟨b, t0 + 1, f2, hlt, by have := HAT.out; have := HBB.out; omega, rfl, by simp, A2.out, L2.out, B2'.out, G2.out⟩
      case measure => have := HBB.out; simp [intOf]; omega
    · go_wp2_with fail
      ((with_reducible refine (ins_calls hC base g c n a n hS f1 wr HA.out (hS _ _ HW.out HG.out) (HD.out.loc HL.out (Nat.le_refl _)) han (Nat.le_refl _) HN.out).mono ?_))
      rintro ee w1 ⟨rfl, f2, hA2, hL2, hS2, hG2⟩
      have A2 := Lib.hid hA2
      have G2 := Lib.hid (HG.out.trans hG2)
      have L2 := Lib.hid (HL.out.trans (hL2.mono (Nat.zero_le _) (Nat.le_refl _)))
      have B2 : Bks key n 20 f2 := fun t => by
        have := HAT.out
        by_cases h1 : t < t0
        · exact (hL2.srt (HB.out t h1) (.inl (by omega))).sub (Nat.le_refl _) (Nat.min_le_left _ _)
        · by_cases h2 : t = t0
          · subst h2; rw [← this]; exact hS2.sub (Nat.le_refl _) (Nat.min_le_right _ _)
          · have := HBB.out
            intro i j x y z
            omega
      have B2' := Lib.hid B2
      clear hA2 hL2 hS2 hG2 B2 HA HL HB HG HAT hlt
      go_wp2_with fail
      go_loopw [6] (fun s wr => ∃ (bs : Nat) (f1 : Nat → Int), 20 ≤ bs ∧ bs ≤ 2 * n + 20 ∧ s = .int .i64 (bs : Int) ∧ Arr wr base g c n f1 ∧ Loc key n 0 n f f1 ∧ Bks key n bs f1 ∧ w.grownBy wr (some g)) (fun s wr => n - (intOf s).toNat)
      case atStart => exact ⟨20, f2, Nat.le_refl _, by omega, rfl, A2.out, L2.out, B2'.out, G2.out⟩
      case round =>
        obtain ⟨bs, f1, hb20, hb2, rfl, hA, hL, hB, hG⟩ := hrel
        have HA := Lib.hid hA
        have HL := Lib.hid hL
        have HB := Lib.hid hB
        have HG := Lib.hid hG
        clear hA hL hB hG A2 G2 L2 B2'
        by_cases hbn : bs < n
        · have hb40 : bs < 1099511627776 := by omega
          go_wp2_with fail
          go_loopw [7, 8] (fun s t wr => ∃ (a t0 : Nat) (f2 : Nat → Int), a ≤ n ∧ a = t0 * (2 * bs) ∧ s = .int .i64 (a : Int) ∧ t = .int .i64 ((a + 2 * bs : Nat) : Int) ∧ Arr wr base g c n f2 ∧ Loc key n 0 n f f2 ∧ Mdw key n bs t0 f2 ∧ w.grownBy wr (some g)) (fun s t wr => n - (intOf s).toNat)
          case atStart => exact ⟨0, 0, f1, Nat.zero_le _, by simp, rfl, by simp, HA.out, HL.out, Mdw.start HB.out, HG.out⟩
          case round =>
            obtain ⟨a, t0, f2, han, hat, rfl, rfl, hA, hL, hM, hG⟩ := hrel
            have A2 := Lib.hid hA
            have L2 := Lib.hid hL
            have M2 := Lib.hid hM
            have G2 := Lib.hid hG
            have HAT := Lib.hid hat
            clear hA hL hM hG hat
            obtain ⟨b, hb⟩ : ∃ b, b = a + 2 * bs := ⟨_, rfl⟩
            rw [← hb]
            have HBB := Lib.hid hb
            have hb40 : b ≤ 4398046511104 := by omega
            clear hb
            obtain ⟨m, hm⟩ : ∃ m, m = a + bs := ⟨_, rfl⟩
            have HMM := Lib.hid hm
            have e5 : (a : Int) + (bs : Int) = (m : Int) := by omega
            have hm40 : m ≤ 4398046511104 := by omega
            clear hm
            by_cases hlt : b ≤ n
            · go_wp2_with fail
              have P2 := M2.out.pre HAT.out
              ((with_reducible refine (sym_calls hC base g c n hS HN.out (b - a) a m b f2 wr (Nat.le_refl _) (by have := HMM.out; omega) (by have := HMM.out; have := HBB.out; omega) hlt A2.out (hS _ _ HW.out G2.out) (HD.out.loc L2.out (Nat.le_refl _)) (P2.1.sub (Nat.le_refl _) (by have := HMM.out; have := HBB.out; omega)) (P2.2.sub (by have := HMM.out; omega) (by have := HBB.out; omega))).mono ?_))
              clear P2
              rintro ee w1 ⟨rfl, f3, hA3, hL3, hS3, hG3⟩
              have A3 := Lib.hid hA3
              have G3 := Lib.hid (G2.out.trans hG3)
              have L3 := Lib.hid (L2.out.trans (hL3.mono (Nat.zero_le _) hlt))
              have M3 := Lib.hid (M2.out.step HAT.out (by rw [← HBB.out]; exact hL3) (by rw [← HBB.out]; exact hS3))
              clear hA3 hL3 hS3 hG3 e5
              go_wp2_with fail
              go_roundw
              case rel => exact ⟨b, t0 + 1, f3, hlt, by rw [Nat.add_mul, Nat.one_mul, ← HAT.out]; exact HBB.out, rfl, by simp, A3.out, L3.out, M3.out, G3.out⟩
              case measure => have := HBB.out; simp [intOf]; omega
            · by_cases hmn : m < n
              · go_wp2_with fail
                have P2 := M2.out.pre HAT.out
                ((with_reducible refine (sym_calls hC base g c n hS HN.out (n - a) a m n f2 wr (Nat.le_refl _) (by have := HMM.out; omega) hmn (Nat.le_refl _) A2.out (hS _ _ HW.out G2.out) (HD.out.loc L2.out (Nat.le_refl _)) (P2.1.sub (Nat.le_refl _) (by have := HMM.out; have := HBB.out; omega)) (P2.2.sub (by have := HMM.out; omega) (by have := HBB.out; omega))).mono ?_))
                clear P2
                rintro ee w1 ⟨rfl, f3, hA3, hL3, hS3, hG3⟩
                have A3 := Lib.hid hA3
                have G3 := Lib.hid (G2.out.trans hG3)
                have L3 := Lib.hid (L2.out.trans (hL3.mono (Nat.zero_le _) (Nat.le_refl _)))
                have B3 := Lib.hid (M2.out.done HAT.out hL3 hS3 (by have := HBB.out; omega))
                clear hA3 hL3 hS3 hG3 e5
                go_wp2_with fail
                go_roundw
                case rel => exact ⟨2 * bs, f3, by omega, by omega, by simp; omega, A3.out, L3.out, B3.out, G3.out⟩
                case measure => simp [intOf]; omega
              · have B3 := Lib.hid (M2.out.done HAT.out (Loc.refl _ _ _) ((M2.out.pre HAT.out).1.sub (Nat.le_refl _) (by have := HMM.out; omega)) (by have := HBB.out; omega))
                go_wp2_with fail
                go_roundw
                case rel => exact ⟨2 * bs, f2, by omega, by omega, by simp; omega, A2.out, L2.out, B3.out, G2.out⟩
                case measure => simp [intOf]; omega
        · have S3 := HB.out 0
          go_wp2_with fail
          go_end0
          exact ⟨rfl, f1, HA.out, HL.out, by rw [Nat.zero_mul] at S3; exact S3.sub (Nat.le_refl _) (by omega), HG.out⟩

/-- What the sort leaves: the same numbers in order, of like ones the lesser first. -/
def StabPost (key : Int → Int) (w : World) (base : Nat) (A : Option Addr) (c : Nat) (l : List Int) (e : Ending) (w' : World) : Prop :=
  e = .returned (.tuple #[]) ∧ ∃ l' : List Int, l'.length = l.length ∧ AccI w' base A c l' ∧ l'.Pairwise (fun x y => key x < key y ∨ key x = key y ∧ x < y) ∧ (∀ x, x ∈ l' ↔ x ∈ l) ∧ w.grownBy w' (blk A)

theorem ins_none (A : Option Addr) (c : Nat) (F : Value) (w : World) : Calls Tryz.prog 109 #[.slice A 0 c, .int .i64 0, .int .i64 0, F] w fun e w' => e = .returned (.tuple #[]) ∧ w' = w := by
  go_enter Tryz.func109, Tryz.ntmps109
  go_wp2_with fail
  refine wp_loop_rounds 1 ?_
  rw [rounds_succ]
  go_wp2
  go_end0
  exact ⟨rfl, rfl⟩
theorem stable_none (A : Option Addr) (c : Nat) (F : Value) (w : World) : Calls Tryz.prog 96 #[.slice A 0 c, .int .i64 0, F] w fun e w' => e = .returned (.tuple #[]) ∧ w' = w := by
  have hi := ins_none A c F w
  go_enter Tryz.func96, Tryz.ntmps96
  go_wp2_with fail
  refine wp_loop_rounds 1 ?_
  rw [rounds_succ]
  go_wp2_with fail
  ((with_reducible refine hi.mono ?_))
  rintro e w' ⟨rfl, rfl⟩
  go_wp2_with fail
  refine wp_loop_rounds 1 ?_
  rw [rounds_succ]
  go_wp2
  go_end0
  exact ⟨rfl, rfl⟩

set_option maxHeartbeats 1600000 in
theorem sortstable_calls (hC : Cmp Tryz.prog S D key F held) (base c : Nat) (A : Option Addr) (l : List Int) (hS : ∀ W W', S W → W.grownBy W' (blk A) → S W') (w : World) (h : AccI w base A c l) (hw : S w) (hD : ∀ x ∈ l, D x) (hn : l.length ≤ 1099511627776) (hr : l.Pairwise (· < ·)) :
    Calls Tryz.prog 81 #[.slice A l.length c, .func (.func F) #[] held] w (StabPost key w base A c l) := by
  rcases Nat.eq_zero_or_pos l.length with h0 | h0
  · obtain rfl := List.eq_nil_of_length_eq_zero h0
    have hi := stable_none A c (.func (.func F) #[] held) w
    go_enter Tryz.func81, Tryz.ntmps81
    go_wp2_with fail
    ((with_reducible refine hi.mono ?_))
    rintro e w' ⟨rfl, rfl⟩
    go_wp2
    go_end0
    exact ⟨rfl, [], rfl, h, List.Pairwise.nil, fun _ => Iff.rfl, World.grownBy.refl _ _⟩
  · obtain ⟨g, rfl⟩ : ∃ g, A = some ⟨g, 0, none⟩ := by
      rcases h.2 with ⟨_, h1⟩ | ⟨g, cap, cur, hv, _⟩
      · omega
      · injection hv with e1
        exact ⟨g, e1⟩
    have H : Arr w base g c l.length (fun k => l.getD k 0) := by unfold Arr; rw [← lst_of]; exact h
    have hDm : Dom D l.length (fun k => l.getD k 0) := fun i hi => hD _ (by simp [hi])
    have hi := stable_calls hC base g c l.length hS _ w H hw hDm hn
    have HR := Lib.hid hr
    generalize hlen : l.length = n at *
    clear h hw hD hr hDm H
    go_enter Tryz.func81, Tryz.ntmps81
    go_wp2_with fail
    ((with_reducible refine hi.mono ?_))
    rintro e w' ⟨rfl, f', hA, hL, hS2, hG⟩
    subst hlen
    have hs := sorted_list HR.out hL hS2
    clear hi hL hS2
    go_wp2
    go_end0
    exact ⟨rfl, lst l.length f', hs.2.2, hA, hs.1, hs.2.1, hG⟩
end
end Go.Proofs.YtjflbfianncpfaaGreat
