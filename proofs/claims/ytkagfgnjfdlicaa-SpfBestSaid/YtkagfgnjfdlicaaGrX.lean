/-
  The library's stable sort of whole numbers by a function, its parts: two neighboring ranges that are in order are merged. Condition: at most 2^40 numbers, in memory that the call itself made; a comparison that only reads, of numbers that it may be asked for.
-/
import Derived.Test.YtkagfgnjfdlicaaGrW
import Derived.Deep.DeepCutAuto
namespace Go.Proofs.Ytkagfgnjfdlicaa
open Go.RowKit

/-- Where the search for the rotation begins and ends. -/
def Rng (a m b mid s r : Nat) : Prop := a ≤ s ∧ s ≤ r ∧ r ≤ m ∧ r ≤ mid ∧ mid + m - s ≤ b ∧ (∀ c, s ≤ c → c < r → m ≤ mid + m - 1 - c ∧ mid + m - 1 - c < b) ∧ (r = m ∨ r = mid) ∧ (s = a ∨ mid + m - s = b)
/-- What the search has found so far. -/
def Fnd (key : Int → Int) (f : Nat → Int) (p0 s0 r0 s r : Nat) : Prop := (∀ c, s0 ≤ c → c < s → key (f c) ≤ key (f (p0 - c))) ∧ (∀ c, r ≤ c → c < r0 → key (f (p0 - c)) < key (f c))

section
variable {S : World → Prop} {D : Int → Prop} {key : Int → Int} {F : FuncId} {held : Array Value}
theorem Fnd.more {f : Nat → Int} {a m b mid s0 r0 s r q : Nat} (hr : Rng a m b mid s0 r0) (h : Fnd key f (mid + m - 1) s0 r0 s r) (hl : Srt key a m f) (hh : Srt key m b f) (h1 : s0 ≤ s) (h2 : s ≤ q) (h3 : q < r) (h4 : r ≤ r0) (hk : key (f q) ≤ key (f (mid + m - 1 - q))) : Fnd key f (mid + m - 1) s0 r0 (q + 1) r := by
  obtain ⟨r1, r2, r3, r4, r5, r6, r7, r8⟩ := hr
  refine ⟨fun c x y => ?_, h.2⟩
  by_cases hcs : c = q
  · subst hcs; exact hk
  · have t1 := r6 q (by omega) (by omega)
    have t2 := r6 c x (by omega)
    have t3 := hl c q (by omega) (by omega) (by omega)
    have t4 := hh (mid + m - 1 - q) (mid + m - 1 - c) t1.1 (by omega) t2.2
    omega
theorem Fnd.less {f : Nat → Int} {a m b mid s0 r0 s r q : Nat} (hr : Rng a m b mid s0 r0) (h : Fnd key f (mid + m - 1) s0 r0 s r) (hl : Srt key a m f) (hh : Srt key m b f) (h1 : s0 ≤ s) (h2 : s ≤ q) (hk : key (f (mid + m - 1 - q)) < key (f q)) : Fnd key f (mid + m - 1) s0 r0 s q := by
  obtain ⟨r1, r2, r3, r4, r5, r6, r7, r8⟩ := hr
  refine ⟨h.1, fun c x y => ?_⟩
  by_cases hcs : c = q
  · subst hcs; exact hk
  · have t1 := r6 q (by omega) (by omega)
    have t2 := r6 c (by omega) y
    have t3 := hl q c (by omega) (by omega) (by omega)
    have t4 := hh (mid + m - 1 - c) (mid + m - 1 - q) t2.1 (by omega) t1.2
    omega
theorem Fnd.done {f : Nat → Int} {a m b mid s0 r0 s : Nat} (hr : Rng a m b mid s0 r0) (h : Fnd key f (mid + m - 1) s0 r0 s s) (hl : Srt key a m f) (hh : Srt key m b f) (hmid : mid < b) (h1 : s0 ≤ s) (h2 : s ≤ r0) :
    a ≤ s ∧ s ≤ m ∧ s ≤ mid ∧ m ≤ mid + m - s ∧ mid + m - s ≤ b ∧ (∀ i j, s ≤ i → i < m → m ≤ j → j < mid + m - s → key (f j) < key (f i)) ∧ (∀ i j, a ≤ i → i < s → mid + m - s ≤ j → j < b → key (f i) ≤ key (f j)) := by
  obtain ⟨r1, r2, r3, r4, r5, r6, r7, r8⟩ := hr
  refine ⟨by omega, by omega, by omega, by omega, by omega, fun i j x1 x2 x3 x4 => ?_, fun i j x1 x2 x3 x4 => ?_⟩
  · have hs : s < r0 := by omega
    have t1 := h.2 s (Nat.le_refl _) hs
    have t2 := r6 s h1 hs
    have t3 : key (f s) ≤ key (f i) := by
      rcases Nat.lt_or_ge s i with h3 | h3
      · exact hl s i (by omega) h3 x2
      · obtain rfl : s = i := by omega
        exact Int.le_refl _
    have t4 : key (f j) ≤ key (f (mid + m - 1 - s)) := by
      rcases Nat.lt_or_ge j (mid + m - 1 - s) with h3 | h3
      · exact hh j _ x3 h3 t2.2
      · obtain rfl : j = mid + m - 1 - s := by omega
        exact Int.le_refl _
    omega
  · have hs : s0 < s := by omega
    have t1 := h.1 (s - 1) (by omega) (by omega)
    have t2 := r6 (s - 1) (by omega) (by omega)
    have t3 : key (f i) ≤ key (f (s - 1)) := by
      rcases Nat.lt_or_ge i (s - 1) with h3 | h3
      · exact hl i (s - 1) x1 h3 (by omega)
      · obtain rfl : i = s - 1 := by omega
        exact Int.le_refl _
    have t4 : key (f (mid + m - 1 - (s - 1))) ≤ key (f j) := by
      rcases Nat.lt_or_ge (mid + m - 1 - (s - 1)) j with h3 | h3
      · exact hh _ j t2.1 h3 x4
      · obtain rfl : j = mid + m - 1 - (s - 1) := by omega
        exact Int.le_refl _
    omega

set_option maxRecDepth 100000 in
set_option maxHeartbeats 6400000 in
/-- More than one on either side; what such a merge of less comes to is given. -/
theorem symM_calls (hC : Cmp Try.prog S D key F held) (base g c n a m b : Nat) (hS : ∀ W W', S W → W.grownBy W' (some g) → S W') (f : Nat → Int) (w : World) (h : Arr w base g c n f) (hw : S w) (hD : Dom D n f) (ham : a + 1 < m) (hmb : m + 1 < b) (hb : b ≤ n) (hn : n ≤ 1099511627776) (hl : Srt key a m f) (hh : Srt key m b f)
    (ih : ∀ (a' m' b' : Nat) (f' : Nat → Int) (w' : World), b' - a' < b - a → a' < m' → m' < b' → b' ≤ n → Arr w' base g c n f' → S w' → Dom D n f' → Srt key a' m' f' → Srt key m' b' f' →
      Calls Try.prog 58 #[.slice (some ⟨g, 0, none⟩) n c, .int .i64 (a' : Int), .int .i64 (m' : Int), .int .i64 (b' : Int), .func (.func F) #[] held] w' (SrtPost key w' base g c n a' b' f')) :
    Calls Try.prog 58 #[.slice (some ⟨g, 0, none⟩) n c, .int .i64 (a : Int), .int .i64 (m : Int), .int .i64 (b : Int), .func (.func F) #[] held] w (SrtPost key w base g c n a b f) := by
  have H := Lib.hid h
  have HW := Lib.hid hw
  have HD := Lib.hid hD
  have HB := Lib.hid hb
  have HN := Lib.hid hn
  have HL := Lib.hid hl
  have HH := Lib.hid hh
  have IH := Lib.hid ih
  have he := hC.enter
  have y1 : a ≤ 1099511627776 := by omega
  have y2 : b ≤ 1099511627776 := by omega
  have y3 : m ≤ 1099511627776 := by omega
  have g0 : (m : Int) - (a : Int) = ((m - a : Nat) : Int) := by omega
  have g1 : ((((m - a : Nat) : Int) == 1) : Bool) = false := by rw [beq_eq_false_iff_ne]; omega
  have g3 : ¬ (((m - a : Nat) : Int) = 1) := by omega
  have g4 : (b : Int) - (m : Int) = ((b - m : Nat) : Int) := by omega
  have g5 : ((((b - m : Nat) : Int) == 1) : Bool) = false := by rw [beq_eq_false_iff_ne]; omega
  have g6 : ¬ (((b - m : Nat) : Int) = 1) := by omega
  obtain ⟨mid, hmid⟩ : ∃ p, p = (a + b) / 2 := ⟨_, rfl⟩
  have g7 : ((a : Int) + (b : Int)) / 2 = (mid : Int) := by omega
  obtain ⟨nn, hnn⟩ : ∃ p, p = mid + m := ⟨_, rfl⟩
  have g8 : (mid : Int) + (m : Int) = (nn : Int) := by omega
  have y4 : mid ≤ 1099511627776 := by omega
  have y5 : nn ≤ 2199023255552 := by omega
  have HX := Lib.hid (And.intro hmid (And.intro hnn (And.intro ham hmb)))
  clear h hw hD hb hn hl hh ih hmid hnn ham hmb
  go_enter Try.func58, Try.ntmps58
  go_upto_if 140 with fail
  clear g0 g1 g3 g4 g5 g6
  go_cut [20, 21] (fun s t wx => ∃ s0 r0 : Nat, s = .int .i64 (s0 : Int) ∧ t = .int .i64 (r0 : Int) ∧ Rng a m b mid s0 r0 ∧ wx = w)
  case first =>
    by_cases hm : mid < m
    · have t1 : decide ((mid : Int) < (m : Int)) = true := by simp; omega
      have t2 : decide (mid < m) = true := by simp [hm]
      have g9 : (nn : Int) - (b : Int) = ((nn - b : Nat) : Int) := by have := HX.out; omega
      go_wp2_with fail
      go_meet
      exact ⟨nn - b, mid, rfl, rfl, by have := HX.out; unfold Rng; refine ⟨by omega, by omega, by omega, by omega, by omega, fun c _ _ => ⟨by omega, by omega⟩, by omega, by omega⟩, rfl⟩
    · have t1 : decide ((mid : Int) < (m : Int)) = false := by simp; omega
      have t2 : decide (mid < m) = false := by simp [hm]
      go_wp2_with fail
      go_meet
      exact ⟨a, m, rfl, rfl, by have := HX.out; unfold Rng; refine ⟨by omega, by omega, by omega, by omega, by omega, fun c _ _ => ⟨by omega, by omega⟩, by omega, by omega⟩, rfl⟩
  case rest =>
    obtain ⟨s0, r0, rfl, rfl, hR, rfl⟩ := hcut
    have HR := Lib.hid hR
    clear hR
    have g10 : (nn : Int) - 1 = ((nn - 1 : Nat) : Int) := by have := HX.out; omega
    go_wp2_with fail
    clear g7 g8 g10
    go_loopw [20, 21] (fun s t wr => ∃ (i j : Nat), s0 ≤ i ∧ i ≤ j ∧ j ≤ r0 ∧ s = .int .i64 (i : Int) ∧ t = .int .i64 (j : Int) ∧ Arr wr base g c n f ∧ Fnd key f (mid + m - 1) s0 r0 i j ∧ wc.grownBy wr (some g)) (fun s t wr => (intOf t).toNat - (intOf s).toNat)
    case atStart => exact ⟨s0, r0, Nat.le_refl _, HR.out.2.1, Nat.le_refl _, rfl, rfl, H.out, ⟨fun k h1 h2 => by omega, fun k h1 h2 => by omega⟩, World.grownBy.refl _ _⟩
    case round =>
      obtain ⟨i, j, hsi, hij, hjr, rfl, rfl, hA, hF, hG⟩ := hrel
      have HA := Lib.hid hA
      have HF := Lib.hid hF
      have HG := Lib.hid hG
      clear hA hF hG
      have hjm : j ≤ m := by have := HR.out; unfold Rng at this; omega
      by_cases hlt : i < j
      · obtain ⟨q, hq⟩ : ∃ p, p = (i + j) / 2 := ⟨_, rfl⟩
        have hp2 : ((i : Int) + (j : Int)) / 2 = (q : Int) := by omega
        have hip : i ≤ q := by omega
        have hpj : q < j := by omega
        obtain ⟨p, hp⟩ : ∃ p, p = mid + m - 1 - q := ⟨_, rfl⟩
        have HP := Lib.hid hp
        have hin := HR.out.2.2.2.2.2.1 q (by omega) (by omega)
        have hpn : p < n := by have := HB.out; omega
        have hqn : q < n := by have := HB.out; omega
        have i1 : (p : Int) < (n : Int) := by omega
        have i2 : (q : Int) < (n : Int) := by omega
        have hpb : q < 1099511627776 := by omega
        have wq : IntKind.i64.wrap (((nn - 1 : Nat) : Int) - (q : Int)) = (p : Int) := by have := HX.out; rw [IntWalk.i64_in _ (by omega)]; omega
        clear hq hp hin
        have hcell : wr.cell? ⟨g, p, none⟩ = some (.int .i64 (f p)) ∧ wr.cell? ⟨g, q, none⟩ = some (.int .i64 (f q)) := ⟨HA.out.cell p hpn, HA.out.cell q hqn⟩
        have HC := Lib.hid hcell
        clear hcell
        go_wp2_with fail
        refine region_seq (fun W => W.cell? ⟨g, p, none⟩ = some (.int .i64 (f p)) ∧ W.cell? ⟨g, q, none⟩ = some (.int .i64 (f q))) [(0, true), (1, true), (2, true), (3, true), (4, true), (5, true), (6, true), (7, true), (8, true), (9, true), (10, true), (11, false), (12, true), (13, true)]
          (by kernel_rfl) (by kernel_rfl) (by kernel_rfl) (by kernel_rfl) (fun _ _ _ _ _ h => h) HC.out ?_
        repeat
          refine seq_pure (v := ?_) rfl (by rfl) (fun W hW => ?_) ?_
          rotate_left
          · have t1 := hW.1
            have t2 := hW.2
            clear hW
            go_simp
            try with_reducible rfl
          simp only [Act.put, List.setIfInBounds_toArray, List.set_cons_zero, List.set_cons_succ]
        refine seq_make rfl (by rfl) (fun K hK => ?_)
        go_simp
        have hDp : D (f p) := HD.out p hpn
        have hDq : D (f q) := HD.out q hqn
        refine (hC.gives wr.drew _ _ (hS _ _ HW.out (gb_drew HG.out)) hDp hDq).mono ?_
        rintro e w1 ⟨rfl, md, rfl⟩
        go_simp
        refine hK _ _ (fun W => W.cell? ⟨g, p, none⟩ = some (.int .i64 (f p)) ∧ W.cell? ⟨g, q, none⟩ = some (.int .i64 (f q))) (fun W h => h) HC.out ?_
        clear hK K
        repeat
          refine seq_pure (v := ?_) rfl (by rfl) (fun W hW => ?_) ?_
          rotate_left
          · clear hW
            go_simp
            try with_reducible rfl
          simp only [Act.put, List.setIfInBounds_toArray, List.set_cons_zero, List.set_cons_succ]
        refine seq_done ?_
        have A5 := Lib.hid (show Arr (wr.drewN (1 + md)) base g c n f from HA.out)
        have G5 := Lib.hid (gb_drewN HG.out (1 + md))
        clear HC HA HG
        generalize wr.drewN (1 + md) = w5 at *
        by_cases hkl : key (f p) < key (f q)
        · have hc : cmpI (key (f p)) (key (f q)) < 0 := by have := cmpI_lt (key (f p)) (key (f q)); simpa [hkl] using this
          have hc3 : (!decide (cmpI (key (f p)) (key (f q)) < 0)) = false := by simp [hc]
          have F5 := Lib.hid (HF.out.less HR.out HL.out HH.out hsi hip (by rw [← HP.out]; exact hkl))
          clear hkl
          rw [hc3]
          clear hc hc3 wq
          go_wp2_with fail
          go_roundw
          case rel => exact ⟨i, q, hsi, hip, by omega, rfl, rfl, A5.out, F5.out, G5.out⟩
          case measure => simp [intOf]; omega
        · have hc : ¬ cmpI (key (f p)) (key (f q)) < 0 := by have := cmpI_lt (key (f p)) (key (f q)); simpa [hkl] using this
          have hc3 : (!decide (cmpI (key (f p)) (key (f q)) < 0)) = true := by simpa using hc
          have F5 := Lib.hid (HF.out.more HR.out HL.out HH.out hsi hip hpj hjr (by rw [← HP.out]; omega))
          clear hkl
          rw [hc3]
          clear hc hc3 wq
          go_wp2_with fail
          go_roundw
          case rel => exact ⟨q + 1, j, by omega, by omega, hjr, rfl, rfl, A5.out, F5.out, G5.out⟩
          case measure => simp [intOf]; omega
      · obtain rfl : i = j := by omega
        have hmb : mid < b := by have := HX.out; omega
        obtain ⟨d1, d2, d3, d4, d5, d6, d7⟩ := HF.out.done HR.out HL.out HH.out hmb hsi hjr
        obtain ⟨e, hee⟩ : ∃ e, e = mid + m - i := ⟨_, rfl⟩
        rw [← hee] at d4 d5 d6 d7
        have g11 : (nn : Int) - (i : Int) = (e : Int) := by have := HX.out; omega
        have hmd : mid = i + (e - m) := by omega
        have DX := Lib.hid d6
        have DC := Lib.hid d7
        have HMD := Lib.hid hmd
        have hi40 : i ≤ 1099511627776 := by omega
        have he40 : e ≤ 1099511627776 := by omega
        clear d6 d7 hee hmd HF
        go_upto_region 39 with fail
        go_cut [185] (fun s wx => s = .bool (decide (i < m) && decide (m < e)) ∧ wx = wr)
        case first =>
          by_cases h1 : i < m
          · have t1 : decide ((i : Int) < (m : Int)) = true := by simp; omega
            have t2 : decide (i < m) = true := by simp [h1]
            by_cases h2 : m < e
            · have t3 : decide ((m : Int) < (e : Int)) = true := by simp; omega
              have t4 : decide (m < e) = true := by simp [h2]
              go_wp2_with fail
              go_meet
              exact ⟨by rw [t2, t4]; rfl, rfl⟩
            · have t3 : decide ((m : Int) < (e : Int)) = false := by simp; omega
              have t4 : decide (m < e) = false := by simp [h2]
              go_wp2_with fail
              go_meet
              exact ⟨by rw [t2, t4]; rfl, rfl⟩
          · have t1 : decide ((i : Int) < (m : Int)) = false := by simp; omega
            have t2 : decide (i < m) = false := by simp [h1]
            go_wp2_with fail
            go_meet
            exact ⟨by rw [t2]; rfl, rfl⟩
        case rest =>
          obtain ⟨rfl, rfl⟩ := hcut
          have HW2 := Lib.hid (hS _ _ HW.out HG.out)
          go_upto_if 185 with fail
          go_cut [] (fun wx => ∃ f1, Arr wx base g c n f1 ∧ Rot i m e f f1 ∧ Loc key n i e f f1 ∧ wc.grownBy wx (some g))
          case first =>
            by_cases hb : i < m ∧ m < e
            · have hbv : (decide (i < m) && decide (m < e)) = true := by simp [hb]
              have HBB := Lib.hid hb
              rw [hbv]
              clear hb hbv
              go_wp2_with fail
              ((with_reducible refine (rot_calls base g c n i m e f _ wc HA.out HBB.out.1 HBB.out.2 (by have := HB.out; omega) HN.out).mono ?_))
              rintro ee w1 ⟨rfl, f2, hA2, hR2, hG2⟩
              have A2 := Lib.hid hA2
              have G2 := Lib.hid hG2
              have R2 := Lib.hid hR2
              have L2 := Lib.hid (hR2.loc (key := key) (n := n) (by omega) (by omega) (by have := HB.out; omega) DX.out)
              clear hA2 hR2 hG2
              go_wp2_with fail
              go_meet
              exact ⟨f2, A2.out, R2.out, L2.out, G2.out⟩
            · have hbv : (decide (i < m) && decide (m < e)) = false := by simpa using hb
              have R2 := Lib.hid (Rot.none (f := f) (a := i) (m := m) (b := e) (by omega) (by omega) (by omega))
              rw [hbv]
              clear hb hbv
              go_wp2_with fail
              go_meet
              exact ⟨f, HA.out, R2.out, Loc.refl _ _ _, World.grownBy.refl _ _⟩
          case rest =>
            as_aux_lemma =>
              obtain ⟨f1, hA1, hR1, hL1, hG1⟩ := hcut
              have HA1 := Lib.hid hA1
              have HR1 := Lib.hid hR1
              have HL1 := Lib.hid hL1
              have HG1 := Lib.hid (HG.out.trans hG1)
              have HW1 := Lib.hid (hS _ _ HW2.out hG1)
              have HD1 := Lib.hid (HD.out.loc hL1 (by have := HB.out; omega))
              have PT := Lib.hid (hR1.parts d1 d2 d4 d5 HMD.out HL.out HH.out)
              have hma : mid - a < b - a ∧ b - mid < b - a := by have := HX.out; omega
              have HMA := Lib.hid hma
              clear hA1 hR1 hL1 hG1 hma HA HG HW2
              go_upto_region 41 with fail
              go_cut [199] (fun s wx => s = .bool (decide (a < i) && decide (i < mid)) ∧ wx = wc)
              case first =>
                by_cases h1 : a < i
                · have t1 : decide ((a : Int) < (i : Int)) = true := by simp; omega
                  have t2 : decide (a < i) = true := by simp [h1]
                  by_cases h2 : i < mid
                  · have t3 : decide ((i : Int) < (mid : Int)) = true := by simp; omega
                    have t4 : decide (i < mid) = true := by simp [h2]
                    go_wp2_with fail
                    go_meet
                    exact ⟨by rw [t2, t4]; rfl, rfl⟩
                  · have t3 : decide ((i : Int) < (mid : Int)) = false := by simp; omega
                    have t4 : decide (i < mid) = false := by simp [h2]
                    go_wp2_with fail
                    go_meet
                    exact ⟨by rw [t2, t4]; rfl, rfl⟩
                · have t1 : decide ((a : Int) < (i : Int)) = false := by simp; omega
                  have t2 : decide (a < i) = false := by simp [h1]
                  go_wp2_with fail
                  go_meet
                  exact ⟨by rw [t2]; rfl, rfl⟩
              case rest =>
                obtain ⟨rfl, rfl⟩ := hcut
                go_upto_if 199 with fail
                go_cut [] (fun wx => ∃ f2, Arr wx base g c n f2 ∧ Loc key n a mid f1 f2 ∧ Srt key a mid f2 ∧ wc.grownBy wx (some g))
                case first =>
                  by_cases hb : a < i ∧ i < mid
                  · have hbv : (decide (a < i) && decide (i < mid)) = true := by simp [hb]
                    have HBB := Lib.hid hb
                    rw [hbv]
                    clear hb hbv
                    go_wp2_with fail
                    ((with_reducible refine (IH.out a i mid f1 wc HMA.out.1 HBB.out.1 HBB.out.2 (by have := HB.out; omega) HA1.out HW1.out HD1.out PT.out.1 PT.out.2.1).mono ?_))
                    rintro ee w1 ⟨rfl, f2, hA2, hL2, hS2, hG2⟩
                    have A2 := Lib.hid hA2
                    have G2 := Lib.hid hG2
                    have S2 := Lib.hid hS2
                    have L2 := Lib.hid hL2
                    clear hA2 hS2 hG2 hL2
                    go_wp2_with fail
                    go_meet
                    exact ⟨f2, A2.out, L2.out, S2.out, G2.out⟩
                  · have hbv : (decide (a < i) && decide (i < mid)) = false := by simpa using hb
                    have S2 : Srt key a mid f1 := by
                      by_cases h1 : a < i
                      · obtain rfl : i = mid := by omega
                        exact PT.out.1
                      · obtain rfl : a = i := by omega
                        exact PT.out.2.1
                    have S2' := Lib.hid S2
                    rw [hbv]
                    clear hb hbv S2
                    go_wp2_with fail
                    go_meet
                    exact ⟨f1, HA1.out, Loc.refl _ _ _, S2'.out, World.grownBy.refl _ _⟩
                case rest =>
                  as_aux_lemma =>
                    obtain ⟨f2, hA2, hL2, hS2, hG2⟩ := hcut
                    have hme : mid ≤ e := by have := HMD.out; omega
                    have HA2 := Lib.hid hA2
                    have HL2 := Lib.hid hL2
                    have HS2 := Lib.hid hS2
                    have HG2 := Lib.hid (HG1.out.trans hG2)
                    have HW2 := Lib.hid (hS _ _ HW1.out hG2)
                    have HD2 := Lib.hid (HD1.out.loc hL2 (by have := HB.out; omega))
                    have P2 := Lib.hid (And.intro (hL2.srt PT.out.2.2.1 (.inr (Nat.le_refl _))) (hL2.srt PT.out.2.2.2 (.inr (by omega))))
                    clear hA2 hL2 hS2 hG2 HA1 HG1 HW1
                    go_upto_region 43 with fail
                    go_cut [213] (fun s wx => s = .bool (decide (mid < e) && decide (e < b)) ∧ wx = wc)
                    case first =>
                      by_cases h1 : mid < e
                      · have t1 : decide ((mid : Int) < (e : Int)) = true := by simp; omega
                        have t2 : decide (mid < e) = true := by simp [h1]
                        by_cases h2 : e < b
                        · have t3 : decide ((e : Int) < (b : Int)) = true := by simp; omega
                          have t4 : decide (e < b) = true := by simp [h2]
                          go_wp2_with fail
                          go_meet
                          exact ⟨by rw [t2, t4]; rfl, rfl⟩
                        · have t3 : decide ((e : Int) < (b : Int)) = false := by simp; omega
                          have t4 : decide (e < b) = false := by simp [h2]
                          go_wp2_with fail
                          go_meet
                          exact ⟨by rw [t2, t4]; rfl, rfl⟩
                      · have t1 : decide ((mid : Int) < (e : Int)) = false := by simp; omega
                        have t2 : decide (mid < e) = false := by simp [h1]
                        go_wp2_with fail
                        go_meet
                        exact ⟨by rw [t2]; rfl, rfl⟩
                    case rest =>
                      obtain ⟨rfl, rfl⟩ := hcut
                      go_upto_if 213 with fail
                      by_cases hb : mid < e ∧ e < b
                      · have hbv : (decide (mid < e) && decide (e < b)) = true := by simp [hb]
                        have HBB := Lib.hid hb
                        rw [hbv]
                        clear hb hbv
                        go_wp2_with fail
                        ((with_reducible refine (IH.out mid e b f2 wc HMA.out.2 HBB.out.1 HBB.out.2 HB.out HA2.out HW2.out HD2.out P2.out.1 P2.out.2).mono ?_))
                        rintro ee w1 ⟨rfl, f3, hA3, hL3, hS3, hG3⟩
                        have A3 := Lib.hid hA3
                        have G3 := Lib.hid hG3
                        have S3 := Lib.hid hS3
                        have L3 := Lib.hid hL3
                        clear hA3 hS3 hG3 hL3
                        go_wp2_with fail
                        go_end0
                        exact ⟨rfl, f3, A3.out, ((HL1.out.mono d1 d5).trans (HL2.out.mono (Nat.le_refl _) (by omega))).trans (L3.out.mono (by omega) (Nat.le_refl _)), merged d2 d4 HMD.out HR1.out HL2.out HS2.out L3.out S3.out HL.out HH.out DX.out DC.out, HG2.out.trans G3.out⟩
                      · have hbv : (decide (mid < e) && decide (e < b)) = false := by simpa using hb
                        have S3 : Srt key mid b f2 := by
                          by_cases h1 : mid < e
                          · obtain rfl : e = b := by omega
                            exact P2.out.1
                          · obtain rfl : mid = e := by omega
                            exact P2.out.2
                        have S3' := Lib.hid S3
                        rw [hbv]
                        clear hb hbv S3
                        go_wp2_with fail
                        go_end0
                        exact ⟨rfl, f2, HA2.out, (HL1.out.mono d1 d5).trans (HL2.out.mono (Nat.le_refl _) (by omega)), merged d2 d4 HMD.out HR1.out HL2.out HS2.out (Loc.refl _ _ _) S3'.out HL.out HH.out DX.out DC.out, HG2.out⟩

/-- Any two neighboring ranges that are in order. -/
theorem sym_calls (hC : Cmp Try.prog S D key F held) (base g c n : Nat) (hS : ∀ W W', S W → W.grownBy W' (some g) → S W') (hn : n ≤ 1099511627776) : ∀ (k a m b : Nat) (f : Nat → Int) (w : World), b - a ≤ k → a < m → m < b → b ≤ n → Arr w base g c n f → S w → Dom D n f → Srt key a m f → Srt key m b f →
      Calls Try.prog 58 #[.slice (some ⟨g, 0, none⟩) n c, .int .i64 (a : Int), .int .i64 (m : Int), .int .i64 (b : Int), .func (.func F) #[] held] w (SrtPost key w base g c n a b f)
  | 0, a, m, b, f, w, hk, ham, hmb, _, _, _, _, _, _ => by omega
  | k + 1, a, m, b, f, w, hk, ham, hmb, hb, h, hw, hD, hl, hh => by
    by_cases h1 : m = a + 1
    · exact symL_calls hC base g c n a m b hS f w h hw hD h1 hmb hb hn hh
    · by_cases h2 : b = m + 1
      · exact symR_calls hC base g c n a m b hS f w h hw hD (by omega) h2 hb hn hl
      · exact symM_calls hC base g c n a m b hS f w h hw hD (by omega) (by omega) hb hn hl hh
          (fun a' m' b' f' w' x1 x2 x3 x4 x5 x6 x7 x8 x9 => sym_calls hC base g c n hS hn k a' m' b' f' w' (by omega) x2 x3 x4 x5 x6 x7 x8 x9)
end
end Go.Proofs.Ytkagfgnjfdlicaa
