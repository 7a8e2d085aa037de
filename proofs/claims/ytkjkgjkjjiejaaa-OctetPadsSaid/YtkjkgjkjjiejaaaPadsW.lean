/-
  The walk of the statement OctetPads: for any bytes that come in it answers true, and nothing that was there has turned. No condition.
-/
import Derived.Test.YtkjkgjkjjiejaaaAlive
import Derived.Test.YtkjkgjkjjiejaaaSeq
import Derived.LoopN
namespace Go.Proofs.Ytkjkgjkjjiejaaa
open Go.RowKit

theorem padL_mod (l : List UInt8) : (padL l).length % 4 = 0 := by rw [padL_length]; unfold gap; omega
theorem padL_again (l : List UInt8) : padL (padL l) = padL l := by
  have h : gap (padL l).length = 0 := by have := padL_mod l; unfold gap; omega
  unfold padL at *; rw [h]; simp
theorem padL_take (l : List UInt8) : (padL l).take l.length = l := by simp [padL]

set_option maxHeartbeats 2000000 in
theorem pads_walk (a : Option Addr) (n c : Nat) (l : List UInt8) (w : World) (h : Bts w w.heap.size a n l) (hn : n ≤ 4096) :
    Calls Try.prog 8 #[.slice a n c] w fun e w' => e = .returned (.bool true) ∧ Below w.heap.size w w' := by
  have hlen := Lib.hid h.1
  have HB := Lib.hid h
  clear h
  go_enter Try.func8, Try.ntmps8
  go_wp2_with fail
  ((with_reducible refine (alive_calls w).mono ?_))
  rintro e w1 ⟨rfl, b1⟩
  go_wp2_with fail
  ((with_reducible refine (pad_calls a n c l w1 ((HB.out.below b1).more b1.size) (by omega)).mono ?_))
  rintro e w2 ⟨rfl, h2, b2⟩
  obtain ⟨p, hp⟩ : ∃ p, p = padL l := ⟨_, rfl⟩
  rw [← hp] at h2 ⊢
  have m1 : n ≤ p.length := by rw [hp, padL_length, hlen.out]; omega
  have m2 : p.length ≤ n + 3 := by have := gap_lt n; rw [hp, padL_length, hlen.out]; omega
  have m3 : ((p.length : Int) % 4 != 0) = false := by have := padL_mod l; rw [hp]; simp; omega
  have B0 : Bts w2 w2.heap.size a n l := by
    have := (HB.out.below b1).more b1.size
    exact (this.below b2).more b2.size
  have P0 := h2.bts h2.lt
  have Q0 : Bts w2 w2.heap.size (some ⟨w1.heap.size, 0, none⟩) n l := by
    have := h2.part h2.lt 0 n (by omega) m1
    rw [List.drop_zero, hp, Nat.sub_zero, ← hlen.out, padL_take] at this
    rw [← hlen.out]; exact this
  have HP := Lib.hid hp
  have H2 := Lib.hid h2
  have HB0 := Lib.hid B0
  have HP0 := Lib.hid P0
  have HQ0 := Lib.hid Q0
  have m3' : ((p.length : Int).tmod 4 != 0) = false := by rw [Int.tmod_eq_emod_of_nonneg (by omega)]; exact m3
  have m4 : decide (p.length < n) = false := by simp; omega
  have m4' : decide ((p.length : Int) < (n : Int)) = false := by simp; omega
  have m6 : decide ((n : Int) + 3 < (p.length : Int)) = false := by simp; omega
  have m5 : IntKind.i64.wrap ((n : Int) + 3) = (n : Int) + 3 := IntWalk.i64_in _ (by omega)
  have m7 : (0 : Int) ≤ (n : Int) := by omega
  have m8 : (n : Int) ≤ (p.length : Int) := by omega
  clear hp h2 B0 P0 Q0
  go_wp2_with fail
  refine region_seq (fun W => Bts W w2.heap.size a n l ∧ Bts W w2.heap.size (some ⟨w1.heap.size, 0, none⟩) n l ∧ Bts W w2.heap.size (some ⟨w1.heap.size, 0, none⟩) p.length p)
    [(0, true), (1, true), (2, true), (3, true), (4, true), (5, true), (6, true), (7, true), (8, true), (9, true), (10, true), (11, true), (12, true), (13, true), (14, true), (15, true), (16, true), (17, true), (18, true), (19, true), (20, true), (21, true), (22, true), (23, true), (24, true), (25, true), (26, true), (27, true), (28, true), (29, true), (30, true), (33, true), (34, true), (31, false), (32, true), (35, true), (36, true)]
    (by kernel_rfl) (by kernel_rfl) (by kernel_rfl) (by kernel_rfl) (fun _ _ _ _ _ h => h) ⟨HB0.out, HQ0.out, HP0.out⟩ ?_
  repeat
    refine seq_pure (v := ?_) rfl (by rfl) (fun W hW => ?_) ?_
    rotate_left
    · have t1 := fun cc => hW.1.text (P := Try.prog) (c := cc) 22 5 9 Try.underlying22 Try.underlying5 Try.underlying9
      have t2 := fun cc => hW.2.1.text (P := Try.prog) (c := cc) 22 5 9 Try.underlying22 Try.underlying5 Try.underlying9
      have t3 := fun cc => hW.2.2.text (P := Try.prog) (c := cc) 22 5 9 Try.underlying22 Try.underlying5 Try.underlying9
      clear hW
      go_simp
      try with_reducible rfl
    simp only [Act.put, List.setIfInBounds_toArray, List.set_cons_zero, List.set_cons_succ]
  refine seq_make rfl (by rfl) (fun K hK => ?_)
  go_simp
  ((with_reducible refine (pad_calls _ _ _ p _ (HP0.out.drewS) (by omega)).mono ?_))
  rintro e w3 ⟨rfl, h3, b3⟩
  have e3 : padL p = p := by rw [HP.out, padL_again]
  rw [e3] at h3 ⊢
  have HB3 := Lib.hid (below_of_drew b3)
  have H3 := Lib.hid h3
  clear e3 h3 b3
  go_simp
  refine hK _ w3 (fun W => Bts W w2.heap.size a n l ∧ Bts W w2.heap.size (some ⟨w1.heap.size, 0, none⟩) n l ∧ Bts W w2.heap.size (some ⟨w1.heap.size, 0, none⟩) p.length p ∧ Own W w2.heap.size p) (fun W h => ⟨h.1, h.2.1, h.2.2.1⟩) ⟨HB0.out.below HB3.out, HQ0.out.below HB3.out, HP0.out.below HB3.out, H3.out⟩ ?_
  clear hK K
  repeat
    refine seq_pure (v := ?_) rfl (by rfl) (fun W hW => ?_) ?_
    rotate_left
    · have t4 := fun cc => (hW.2.2.2.bts hW.2.2.2.lt).text (P := Try.prog) (c := cc) 22 5 9 Try.underlying22 Try.underlying5 Try.underlying9
      clear hW
      go_simp
      try with_reducible rfl
    simp only [Act.put, List.setIfInBounds_toArray, List.set_cons_zero, List.set_cons_succ]
  refine seq_done ?_
  have hT := bel_more (bel_more b1 (Nat.le_refl _) b2) (Nat.le_refl _) HB3.out
  have HT := Lib.hid hT
  have HO := Lib.hid (H2.out.below HB3.out H2.out.lt)
  clear hT
  by_cases hpn : p.length = n
  · have e0 : p.length - n = 0 := by omega
    go_wp2_with fail
    refine wp_loop_rounds 1 ?_
    rw [rounds_succ]
    go_wp2
    go_ret
    exact ⟨rfl, HT.out⟩
  · have hz : ∀ k (hk : n + k < p.length), p[n + k] = 0 := by
      have hp := HP.out
      have hl := hlen.out
      intro k hk
      subst hp
      subst hl
      simp [padL]
    have HZ := Lib.hid hz
    clear hz
    go_wp2_with fail
    go_loop [55] (fun t => ∃ k : Nat, k ≤ p.length - n ∧ t = .int .i64 (k : Int)) (fun t => p.length - n - (intOf t).toNat)
    case atStart => exact ⟨0, Nat.zero_le _, rfl⟩
    case round =>
      obtain ⟨k, hk, rfl⟩ := hrel
      by_cases hlt : k < p.length - n
      · have hcell := HO.out.cell (n + k) (by omega)
        rw [HZ.out k (by omega)] at hcell
        have hcell' : w3.cell? ⟨w1.heap.size, n + k, none⟩ = some (.int .u8 0) := hcell
        clear hcell
        go_wp2
        exact ⟨⟨k + 1, by omega, by go_num⟩, by simp [intOf]; omega⟩
      · go_wp2
        go_ret
        exact ⟨rfl, HT.out⟩
end Go.Proofs.Ytkjkgjkjjiejaaa
