/-
  The library's stable sort of whole numbers by a function. Condition: at most 2^40 numbers, in memory that the call itself made; a comparison that only reads, of numbers that it may be asked for.
-/
import Derived.Test.YtkagfgnjfdlicaaGrX
namespace Go.Proofs.Ytkagfgnjfdlicaa
open Go.RowKit

/-- Blocks of one length are in order. -/
def Bks (key : Int → Int) (n bs : Nat) (f : Nat → Int) : Prop := ∀ t, Srt key (t * bs) (min (t * bs + bs) n) f
/-- While blocks are merged, two by two. -/
def Mdw (key : Int → Int) (n bs t0 : Nat) (f : Nat → Int) : Prop := (∀ t, t < t0 → Srt key (t * (2 * bs)) (t * (2 * bs) + 2 * bs) f) ∧ (∀ t, 2 * t0 ≤ t → Srt key (t * bs) (min (t * bs + bs) n) f)
section
variable {key : Int → Int} {n bs t0 a : Nat} {f g : Nat → Int}
theorem two_mul_eq (t0 bs : Nat) : 2 * t0 * bs = t0 * (2 * bs) := by rw [Nat.mul_comm 2 t0, Nat.mul_assoc]
theorem Mdw.start (h : Bks key n bs f) : Mdw key n bs 0 f := ⟨fun t ht => by omega, fun t _ => h t⟩
theorem Mdw.pre (h : Mdw key n bs t0 f) (ha : a = t0 * (2 * bs)) : Srt key a (min (a + bs) n) f ∧ Srt key (a + bs) (min (a + 2 * bs) n) f := by
  have e1 := two_mul_eq t0 bs
  have e2 : (2 * t0 + 1) * bs = a + bs := by rw [Nat.add_mul, Nat.one_mul, e1, ha]
  have h1 := h.2 (2 * t0) (Nat.le_refl _)
  have h2 := h.2 (2 * t0 + 1) (by omega)
  rw [e1, ← ha] at h1
  rw [e2, show a + bs + bs = a + 2 * bs by omega] at h2
  exact ⟨h1, h2⟩
theorem Mdw.step (h : Mdw key n bs t0 f) (ha : a = t0 * (2 * bs)) (hl : Loc key n a (a + 2 * bs) f g) (hs : Srt key a (a + 2 * bs) g) : Mdw key n bs (t0 + 1) g := by
  refine ⟨fun t ht => ?_, fun t ht => ?_⟩
  · by_cases h1 : t = t0
    · subst h1; rw [← ha]; exact hs
    · have h2 : (t + 1) * (2 * bs) ≤ t0 * (2 * bs) := Nat.mul_le_mul_right _ (by omega)
      rw [Nat.add_mul, Nat.one_mul, ← ha] at h2
      exact hl.srt (h.1 t (by omega)) (.inl h2)
  · have h2 : (2 * t0 + 2) * bs ≤ t * bs := Nat.mul_le_mul_right _ (by omega)
    rw [Nat.add_mul, two_mul_eq, ← ha] at h2
    exact hl.srt (h.2 t (by omega)) (.inr h2)
theorem Mdw.done (h : Mdw key n bs t0 f) (ha : a = t0 * (2 * bs)) (hl : Loc key n a n f g) (hs : Srt key a n g) (hn : n < a + 2 * bs) : Bks key n (2 * bs) g := by
  intro t
  by_cases h1 : t < t0
  · have h2 : (t + 1) * (2 * bs) ≤ t0 * (2 * bs) := Nat.mul_le_mul_right _ (by omega)
    rw [Nat.add_mul, Nat.one_mul, ← ha] at h2
    exact (hl.srt (h.1 t h1) (.inl h2)).sub (Nat.le_refl _) (Nat.min_le_left _ _)
  · by_cases h3 : t = t0
    · subst h3; rw [← ha]; exact hs.sub (Nat.le_refl _) (Nat.min_le_right _ _)
    · have h2 : (t0 + 1) * (2 * bs) ≤ t * (2 * bs) := Nat.mul_le_mul_right _ (by omega)
      rw [Nat.add_mul, Nat.one_mul, ← ha] at h2
      intro i j x y z
      have := Nat.min_le_right (t * (2 * bs) + 2 * bs) n
      omega
end

section
variable {S : World → Prop} {D : Int → Prop} {key : Int → Int} {F : FuncId} {held : Array Value}

set_option maxRecDepth 100000 in
set_option maxHeartbeats 3200000 in
theorem stable_calls (hC : Cmp Try.prog S D key F held) (base g c n : Nat) (hS : ∀ W W', S W → W.grownBy W' (some g) → S W') (f : Nat → Int) (w : World) (h : Arr w base g c n f) (hw : S w) (hD : Dom D n f) (hn : n ≤ 1099511627776) :
    Calls Try.prog 56 #[.slice (some ⟨g, 0, none⟩) n c, .int .i64 (n : Int), .func (.func F) #[] held] w (SrtPost key w base g c n 0 n f) := by
  have H := Lib.hid h
  have HW := Lib.hid hw
  have HD := Lib.hid hD
  have HN := Lib.hid hn
  have y2 : n ≤ 1099511627776 := hn
  clear h hw hD hn
  go_enter Try.func56, Try.ntmps56
  go_wp2_with fail
  go_loopw [7, 8] (fun s t wr => ∃ (a t0 : Nat) (f1 : Nat → Int), a ≤ n ∧ a = t0 * 20 ∧ s = .int .i64 (a : Int) ∧ t = .int .i64 ((a + 20 : Nat) : Int) ∧ Arr wr base g c n f1 ∧ Loc key n 0 n f f1 ∧ (∀ t, t < t0 → Srt key (t * 20) (t * 20 + 20) f1) ∧ w.grownBy wr (some g)) (fun s t wr => n - (intOf s).toNat)
  case atStart => exact ⟨0, 0, f, Nat.zero_le _, rfl, rfl, rfl, H.out, Loc.refl _ _ _, fun t ht => by omega, World.grownBy.refl _ _⟩
  case round =>
    obtain ⟨a, t0, f1, han, hat, rfl, rfl, hA, hL, hB, hG⟩ := hrel
    have HA := Lib.hid hA
    have HL := Lib.hid hL
    have HB := Lib.hid hB
    have HG := Lib.hid hG
    have HAT := Lib.hid hat
    clear hA hL hB hG hat
    obtain ⟨b, hb⟩ : ∃ b, b = a + 20 := ⟨_, rfl⟩
    rw [← hb]
    have HBB := Lib.hid hb
    have hb40 : b ≤ 4398046511104 := by omega
    clear hb
    by_cases hlt : b ≤ n
    · go_wp2_with fail
      ((with_reducible refine (ins_calls hC base g c n a b hS f1 wr HA.out (hS _ _ HW.out HG.out) (HD.out.loc HL.out (Nat.le_refl _)) (by have := HBB.out; omega) hlt HN.out).mono ?_))
      rintro ee w1 ⟨rfl, f2, hA2, hL2, hS2, hG2⟩
      have A2 := Lib.hid hA2
      have G2 := Lib.hid (HG.out.trans hG2)
      have L2 := Lib.hid (HL.out.trans (hL2.mono (Nat.zero_le _) hlt))
      have B2 : ∀ t, t < t0 + 1 → Srt key (t * 20) (t * 20 + 20) f2 := fun t ht => by
        have := HAT.out
        by_cases h1 : t = t0
        · subst h1; rw [← this, ← HBB.out]; exact hS2
        · exact hL2.srt (HB.out t (by omega)) (.inl (by omega))
      have B2' := Lib.hid B2
      clear hA2 hL2 hS2 hG2 B2
      go_wp2_with fail
      go_roundw
      case rel => exact ⟨b, t0 + 1, f2, hlt, by have := HAT.out; have := HBB.out; omega, rfl, by simp, A2.out, L2.out, B2'.out, G2.out⟩
      case measure => have := HBB.out; simp [intOf]; omega
    · go_wp2_with fail
      ((with_reducible refine (ins_calls hC base g c n a n hS f1 wr HA.out (hS _ _ HW.out HG.out) (HD.out.loc HL.out (Nat.le_refl _)) han (Nat.le_refl _) HN.out).mono ?_))
      rintro ee w1 ⟨rfl, f2, hA2, hL2, hS2, hG2⟩
      have A2 := Lib.hid hA2
      have G2 := Lib.hid (HG.out.trans hG2)
      have L2 := Lib.hid (HL.out.trans (hL2.mono (Nat.zero_le _) (Nat.le_refl _)))
      have B2 : Bks key n 20 f2 := fun t => by
        have := HAT.out
        by_cases h1 : t < t0
        · exact (hL2.srt (HB.out t h1) (.inl (by omega))).sub (Nat.le_refl _) (Nat.min_le_left _ _)
        · by_cases h2 : t = t0
          · subst h2; rw [← this]; exact hS2.sub (Nat.le_refl _) (Nat.min_le_right _ _)
          · have := HBB.out
            intro i j x y z
            omega
      have B2' := Lib.hid B2
      clear hA2 hL2 hS2 hG2 B2 HA HL HB HG HAT hlt
      go_wp2_with fail
      go_loopw [6] (fun s wr => ∃ (bs : Nat) (f1 : Nat → Int), 20 ≤ bs ∧ bs ≤ 2 * n + 20 ∧ s = .int .i64 (bs : Int) ∧ Arr wr base g c n f1 ∧ Loc key n 0 n f f1 ∧ Bks key n bs f1 ∧ w.grownBy wr (some g)) (fun s wr => n - (intOf s).toNat)
      case atStart => exact ⟨20, f2, Nat.le_refl _, by omega, rfl, A2.out, L2.out, B2'.out, G2.out⟩
      case round =>
        obtain ⟨bs, f1, hb20, hb2, rfl, hA, hL, hB, hG⟩ := hrel
        have HA := Lib.hid hA
        have HL := Lib.hid hL
        have HB := Lib.hid hB
        have HG := Lib.hid hG
        clear hA hL hB hG A2 G2 L2 B2'
        by_cases hbn : bs < n
        · have hb40 : bs < 1099511627776 := by omega
          go_wp2_with fail
          go_loopw [7, 8] (fun s t wr => ∃ (a t0 : Nat) (f2 : Nat → Int), a ≤ n ∧ a = t0 * (2 * bs) ∧ s = .int .i64 (a : Int) ∧ t = .int .i64 ((a + 2 * bs : Nat) : Int) ∧ Arr wr base g c n f2 ∧ Loc key n 0 n f f2 ∧ Mdw key n bs t0 f2 ∧ w.grownBy wr (some g)) (fun s t wr => n - (intOf s).toNat)
          case atStart => exact ⟨0, 0, f1, Nat.zero_le _, by simp, rfl, by simp, HA.out, HL.out, Mdw.start HB.out, HG.out⟩
          case round =>
            obtain ⟨a, t0, f2, han, hat, rfl, rfl, hA, hL, hM, hG⟩ := hrel
            have A2 := Lib.hid hA
            have L2 := Lib.hid hL
            have M2 := Lib.hid hM
            have G2 := Lib.hid hG
            have HAT := Lib.hid hat
            clear hA hL hM hG hat
            obtain ⟨b, hb⟩ : ∃ b, b = a + 2 * bs := ⟨_, rfl⟩
            rw [← hb]
            have HBB := Lib.hid hb
            have hb40 : b ≤ 4398046511104 := by omega
            clear hb
            obtain ⟨m, hm⟩ : ∃ m, m = a + bs := ⟨_, rfl⟩
            have HMM := Lib.hid hm
            have e5 : (a : Int) + (bs : Int) = (m : Int) := by omega
            have hm40 : m ≤ 4398046511104 := by omega
            clear hm
            by_cases hlt : b ≤ n
            · go_wp2_with fail
              have P2 := M2.out.pre HAT.out
              ((with_reducible refine (sym_calls hC base g c n hS HN.out (b - a) a m b f2 wr (Nat.le_refl _) (by have := HMM.out; omega) (by have := HMM.out; have := HBB.out; omega) hlt A2.out (hS _ _ HW.out G2.out) (HD.out.loc L2.out (Nat.le_refl _)) (P2.1.sub (Nat.le_refl _) (by have := HMM.out; have := HBB.out; omega)) (P2.2.sub (by have := HMM.out; omega) (by have := HBB.out; omega))).mono ?_))
              clear P2
              rintro ee w1 ⟨rfl, f3, hA3, hL3, hS3, hG3⟩
              have A3 := Lib.hid hA3
              have G3 := Lib.hid (G2.out.trans hG3)
              have L3 := Lib.hid (L2.out.trans (hL3.mono (Nat.zero_le _) hlt))
              have M3 := Lib.hid (M2.out.step HAT.out (by rw [← HBB.out]; exact hL3) (by rw [← HBB.out]; exact hS3))
              clear hA3 hL3 hS3 hG3 e5
              go_wp2_with fail
              go_roundw
              case rel => exact ⟨b, t0 + 1, f3, hlt, by rw [Nat.add_mul, Nat.one_mul, ← HAT.out]; exact HBB.out, rfl, by simp, A3.out, L3.out, M3.out, G3.out⟩
              case measure => have := HBB.out; simp [intOf]; omega
            · by_cases hmn : m < n
              · go_wp2_with fail
                have P2 := M2.out.pre HAT.out
                ((with_reducible refine (sym_calls hC base g c n hS HN.out (n - a) a m n f2 wr (Nat.le_refl _) (by have := HMM.out; omega) hmn (Nat.le_refl _) A2.out (hS _ _ HW.out G2.out) (HD.out.loc L2.out (Nat.le_refl _)) (P2.1.sub (Nat.le_refl _) (by have := HMM.out; have := HBB.out; omega)) (P2.2.sub (by have := HMM.out; omega) (by have := HBB.out; omega))).mono ?_))
                clear P2
                rintro ee w1 ⟨rfl, f3, hA3, hL3, hS3, hG3⟩
                have A3 := Lib.hid hA3
                have G3 := Lib.hid (G2.out.trans hG3)
                have L3 := Lib.hid (L2.out.trans (hL3.mono (Nat.zero_le _) (Nat.le_refl _)))
                have B3 := Lib.hid (M2.out.done HAT.out hL3 hS3 (by have := HBB.out; omega))
                clear hA3 hL3 hS3 hG3 e5
                go_wp2_with fail
                go_roundw
                case rel => exact ⟨2 * bs, f3, by omega, by omega, by simp; omega, A3.out, L3.out, B3.out, G3.out⟩
                case measure => simp [intOf]; omega
              · have B3 := Lib.hid (M2.out.done HAT.out (Loc.refl _ _ _) ((M2.out.pre HAT.out).1.sub (Nat.le_refl _) (by have := HMM.out; omega)) (by have := HBB.out; omega))
                go_wp2_with fail
                go_roundw
                case rel => exact ⟨2 * bs, f2, by omega, by omega, by simp; omega, A2.out, L2.out, B3.out, G2.out⟩
                case measure => simp [intOf]; omega
        · have S3 := HB.out 0
          go_wp2_with fail
          go_end0
          exact ⟨rfl, f1, HA.out, HL.out, by rw [Nat.zero_mul] at S3; exact S3.sub (Nat.le_refl _) (by omega), HG.out⟩

/-- What the sort leaves: the same numbers in order, of like ones the lesser first. -/
def StabPost (key : Int → Int) (w : World) (base : Nat) (A : Option Addr) (c : Nat) (l : List Int) (e : Ending) (w' : World) : Prop :=
  e = .returned (.tuple #[]) ∧ ∃ l' : List Int, l'.length = l.length ∧ AccI w' base A c l' ∧ l'.Pairwise (fun x y => key x < key y ∨ key x = key y ∧ x < y) ∧ (∀ x, x ∈ l' ↔ x ∈ l) ∧ w.grownBy w' (blk A)

theorem ins_none (A : Option Addr) (c : Nat) (F : Value) (w : World) : Calls Try.prog 57 #[.slice A 0 c, .int .i64 0, .int .i64 0, F] w fun e w' => e = .returned (.tuple #[]) ∧ w' = w := by
  go_enter Try.func57, Try.ntmps57
  go_wp2_with fail
  refine wp_loop_rounds 1 ?_
  rw [rounds_succ]
  go_wp2
  go_end0
  exact ⟨rfl, rfl⟩
theorem stable_none (A : Option Addr) (c : Nat) (F : Value) (w : World) : Calls Try.prog 56 #[.slice A 0 c, .int .i64 0, F] w fun e w' => e = .returned (.tuple #[]) ∧ w' = w := by
  have hi := ins_none A c F w
  go_enter Try.func56, Try.ntmps56
  go_wp2_with fail
  refine wp_loop_rounds 1 ?_
  rw [rounds_succ]
  go_wp2_with fail
  ((with_reducible refine hi.mono ?_))
  rintro e w' ⟨rfl, rfl⟩
  go_wp2_with fail
  refine wp_loop_rounds 1 ?_
  rw [rounds_succ]
  go_wp2
  go_end0
  exact ⟨rfl, rfl⟩

set_option maxHeartbeats 1600000 in
theorem sortstable_calls (hC : Cmp Try.prog S D key F held) (base c : Nat) (A : Option Addr) (l : List Int) (hS : ∀ W W', S W → W.grownBy W' (blk A) → S W') (w : World) (h : AccI w base A c l) (hw : S w) (hD : ∀ x ∈ l, D x) (hn : l.length ≤ 1099511627776) (hr : l.Pairwise (· < ·)) :
    Calls Try.prog 51 #[.slice A l.length c, .func (.func F) #[] held] w (StabPost key w base A c l) := by
  rcases Nat.eq_zero_or_pos l.length with h0 | h0
  · obtain rfl := List.eq_nil_of_length_eq_zero h0
    have hi := stable_none A c (.func (.func F) #[] held) w
    go_enter Try.func51, Try.ntmps51
    go_wp2_with fail
    ((with_reducible refine hi.mono ?_))
    rintro e w' ⟨rfl, rfl⟩
    go_wp2
    go_end0
    exact ⟨rfl, [], rfl, h, List.Pairwise.nil, fun _ => Iff.rfl, World.grownBy.refl _ _⟩
  · obtain ⟨g, rfl⟩ : ∃ g, A = some ⟨g, 0, none⟩ := by
      rcases h.2 with ⟨_, h1⟩ | ⟨g, cap, cur, hv, _⟩
      · omega
      · injection hv with e1
        exact ⟨g, e1⟩
    have H : Arr w base g c l.length (fun k => l.getD k 0) := by unfold Arr; rw [← lst_of]; exact h
    have hDm : Dom D l.length (fun k => l.getD k 0) := fun i hi => hD _ (by simp [hi])
    have hi := stable_calls hC base g c l.length hS _ w H hw hDm hn
    have HR := Lib.hid hr
    generalize hlen : l.length = n at *
    clear h hw hD hr hDm H
    go_enter Try.func51, Try.ntmps51
    go_wp2_with fail
    ((with_reducible refine hi.mono ?_))
    rintro e w' ⟨rfl, f', hA, hL, hS2, hG⟩
    subst hlen
    have hs := sorted_list HR.out hL hS2
    clear hi hL hS2
    go_wp2
    go_end0
    exact ⟨rfl, lst l.length f', hs.2.2, hA, hs.1, hs.2.1, hG⟩
end
end Go.Proofs.Ytkagfgnjfdlicaa
