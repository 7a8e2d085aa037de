/-
  The walk of the statement OctetPuts: for any bytes, any width and any number it answers true, and nothing that was there has turned. Conditions: at most 4096 bytes (above them the statement answers true at once).
-/
import Derived.Test.YtkjkgjkjjiejaaaAlive
import Derived.Test.YtkjkgjkjjiejaaaRefB
import Derived.Test.YtkjkgjkjjiejaaaSeq
namespace Go.Proofs.Ytkjkgjkjjiejaaa
open Go.RowKit

/-- What Put answers, whatever is asked. -/
def putE (k u : Int) : Int := if k < 1 ∨ 8 < k then 2 else if 256 ^ k.toNat ≤ u.toNat then 3 else 0
def putL (l : List UInt8) (k u : Int) : List UInt8 := if k < 1 ∨ 8 < k then [] else if 256 ^ k.toNat ≤ u.toNat then [] else l ++ dig k.toNat u.toNat

def PutAny (w : World) (l : List UInt8) (k u : Int) (e : Ending) (w' : World) : Prop :=
  ∃ a c, e = .returned (.tuple #[.slice a (putL l k u).length c, .int .i64 (putE k u)]) ∧ Bts w' w'.heap.size a (putL l k u).length (putL l k u) ∧ Below w.heap.size w w'

theorem put_any (a : Option Addr) (n : Nat) (c : Nat) (l : List UInt8) (k u : Int) (w : World) (h : Bts w w.heap.size a n l) (hlen : n ≤ 1099511627776) (hu : 0 ≤ u) :
    Calls Try.prog 18 #[.slice a n c, .int .i64 k, .int .u64 u] w (PutAny w l k u) := by
  by_cases hk : k < 1 ∨ 8 < k
  · refine (put_arg a n c k u w hk).mono ?_
    rintro e w' ⟨rfl, rfl⟩
    unfold PutAny putL putE
    rw [if_pos hk, if_pos hk]
    exact ⟨none, 0, rfl, Bts.nil, Below.refl _ _⟩
  · by_cases hb : 256 ^ k.toNat ≤ u.toNat
    · have hx := put_big a n c k.toNat u.toNat w (by omega) (by omega) hb
      rw [Int.toNat_of_nonneg (by omega), Int.toNat_of_nonneg hu] at hx
      refine hx.mono ?_
      rintro e w' ⟨rfl, rfl⟩
      unfold PutAny putL putE
      rw [if_neg hk, if_neg hk, if_pos hb, if_pos hb]
      exact ⟨none, 0, rfl, Bts.nil, Below.refl _ _⟩
    · refine (put_i a n c l k u w h (by omega) (by omega) (by omega) hu (by omega)).mono ?_
      rintro e w' ⟨rfl, h2, h3⟩
      unfold PutAny putL putE
      rw [if_neg hk, if_neg hk, if_neg hb, if_neg hb]
      refine ⟨some ⟨w.heap.size, 0, none⟩, l.length + k.toNat, ?_, h2.bts h2.lt, h3⟩
      rw [List.length_append, dig_length]

theorem refput_any (a : Option Addr) (n : Nat) (c : Nat) (l : List UInt8) (k u : Int) (w : World) (h : Bts w w.heap.size a n l) (hlen : n ≤ 1099511627776) (hu : 0 ≤ u) (hu2 : u < 18446744073709551616) :
    Calls Try.prog 19 #[.slice a n c, .int .i64 k, .int .u64 u] w (PutAny w l k u) := by
  by_cases hk : k < 1 ∨ 8 < k
  · refine (refput_arg a n c k u w hk).mono ?_
    rintro e w' ⟨rfl, rfl⟩
    unfold PutAny putL putE
    rw [if_pos hk, if_pos hk]
    exact ⟨none, 0, rfl, Bts.nil, Below.refl _ _⟩
  · by_cases hb : 256 ^ k.toNat ≤ u.toNat
    · have hx := refput_big a n c k.toNat u.toNat w (by omega) (by omega) (by omega) hb
      rw [Int.toNat_of_nonneg (by omega), Int.toNat_of_nonneg hu] at hx
      refine hx.mono ?_
      rintro e w' ⟨rfl, hb2⟩
      unfold PutAny putL putE
      rw [if_neg hk, if_neg hk, if_pos hb, if_pos hb]
      exact ⟨none, 0, rfl, Bts.nil, hb2⟩
    · have hx := refput_ok a n c l k.toNat u.toNat w h hlen (by omega) (by omega) (by omega) (by omega)
      rw [Int.toNat_of_nonneg (by omega), Int.toNat_of_nonneg hu] at hx
      refine hx.mono ?_
      rintro e w' ⟨A, c1, rfl, h2, h3⟩
      unfold PutAny putL putE
      rw [if_neg hk, if_neg hk, if_neg hb, if_neg hb]
      refine ⟨A, c1, ?_, h2.bts, h3⟩
      rw [List.length_append, dig_length]

set_option maxHeartbeats 2000000 in
theorem puts_walk (a : Option Addr) (n c : Nat) (l : List UInt8) (k u : Int) (w : World) (h : Bts w w.heap.size a n l) (hn : n ≤ 4096) (hu : 0 ≤ u) (hu2 : u < 18446744073709551616) :
    Calls Try.prog 4 #[.slice a n c, .int .i64 k, .int .u64 u] w fun e w' => e = .returned (.bool true) ∧ Below w.heap.size w w' := by
  have HB := Lib.hid h
  have HU := Lib.hid hu2
  clear h hu2
  go_enter Try.func4, Try.ntmps4
  go_wp2_with fail
  ((with_reducible refine (alive_calls w).mono ?_))
  rintro e w1 ⟨rfl, b1⟩
  have hB1 := (HB.out.below b1).more b1.size
  have HB1 := Lib.hid hB1
  clear hB1
  go_wp2_with fail
  ((with_reducible refine (put_any a n c l k u w1 HB1.out (by omega) hu).mono ?_))
  rintro e w2 ⟨ax, cx, rfl, hx, b2⟩
  have HX := Lib.hid hx
  have HB2 := Lib.hid ((HB1.out.below b2).more b2.size)
  have T2 := Lib.hid (bel_more b1 (Nat.le_refl _) b2)
  clear hx b1 b2
  go_wp2_with fail
  ((with_reducible refine (refput_any a n c l k u w2 HB2.out (by omega) hu HU.out).mono ?_))
  rintro e w3 ⟨ay, cy, rfl, hy, b3⟩
  have HX3 := Lib.hid ((HX.out.below b3).more b3.size)
  have HY3 := Lib.hid hy
  have HB3 := Lib.hid ((HB2.out.below b3).more b3.size)
  have T3 := Lib.hid (bel_more T2.out (Nat.le_refl _) b3)
  clear hy b3 HX
  generalize putL l k u = q at *
  generalize putE k u = E at *
  go_wp2_with fail
  refine region_seq (fun W => Bts W w3.heap.size a n l ∧ Bts W w3.heap.size ax q.length q ∧ Bts W w3.heap.size ay q.length q)
    [(0, true), (1, true), (2, true), (3, true), (4, true), (5, true), (6, true), (7, true), (8, true), (9, true), (10, true), (11, true), (14, true), (12, false), (13, true), (15, false), (16, true), (17, true), (18, true), (19, true)]
    (by kernel_rfl) (by kernel_rfl) (by kernel_rfl) (by kernel_rfl) (fun _ _ _ _ _ h => h) ⟨HB3.out, HX3.out, HY3.out⟩ ?_
  repeat
    refine seq_pure (v := ?_) rfl (by rfl) (fun W hW => ?_) ?_
    rotate_left
    · have t1 := fun cc => hW.2.1.text (P := Try.prog) (c := cc) 22 5 9 Try.underlying22 Try.underlying5 Try.underlying9
      have t2 := fun cc => hW.2.2.text (P := Try.prog) (c := cc) 22 5 9 Try.underlying22 Try.underlying5 Try.underlying9
      clear hW
      go_simp
      try with_reducible rfl
    simp only [Act.put, List.setIfInBounds_toArray, List.set_cons_zero, List.set_cons_succ]
  refine seq_make rfl (by rfl) (fun K hK => ?_)
  go_simp
  ((with_reducible refine (pad_calls _ _ _ l _ (HB3.out.drewS) (by omega)).mono ?_))
  rintro e w4 ⟨rfl, h4, b4⟩
  have B4 := Lib.hid (below_of_drew b4)
  have O4 := Lib.hid h4
  have HB4 := Lib.hid ((HB3.out.below B4.out).more B4.out.size)
  clear h4 b4
  go_simp
  refine hK _ w4 (fun W => (Bts W w3.heap.size a n l ∧ Bts W w3.heap.size ax q.length q ∧ Bts W w3.heap.size ay q.length q) ∧ Own W w3.heap.size (padL l)) (fun W h => h.1) ⟨⟨HB3.out.below B4.out, HX3.out.below B4.out, HY3.out.below B4.out⟩, O4.out⟩ ?_
  clear hK K
  repeat
    refine seq_pure (v := ?_) rfl (by rfl) (fun W hW => ?_) ?_
    rotate_left
    · have t4 := fun cc => (hW.2.bts hW.2.lt).text (P := Try.prog) (c := cc) 22 5 9 Try.underlying22 Try.underlying5 Try.underlying9
      clear hW
      go_simp
      try with_reducible rfl
    simp only [Act.put, List.setIfInBounds_toArray, List.set_cons_zero, List.set_cons_succ]
  refine seq_make rfl (by rfl) (fun K hK => ?_)
  go_simp
  ((with_reducible refine (refpad_calls _ _ _ l _ HB4.out (by omega)).mono ?_))
  rintro e w5 ⟨A5, c5, rfl, h5, b5⟩
  have B5 := Lib.hid b5
  have O5 := Lib.hid h5.bts
  clear h5 b5
  go_simp
  refine hK _ w5 (fun W => ((Bts W w3.heap.size a n l ∧ Bts W w3.heap.size ax q.length q ∧ Bts W w3.heap.size ay q.length q) ∧ Own W w3.heap.size (padL l)) ∧ Bts W w5.heap.size A5 (padL l).length (padL l)) (fun W h => h.1)
    ⟨⟨⟨HB3.out.below (B4.out.trans (B5.out.mono B4.out.size)), HX3.out.below (B4.out.trans (B5.out.mono B4.out.size)), HY3.out.below (B4.out.trans (B5.out.mono B4.out.size))⟩, O4.out.below B5.out O4.out.lt⟩, O5.out⟩ ?_
  clear hK K
  repeat
    refine seq_pure (v := ?_) rfl (by rfl) (fun W hW => ?_) ?_
    rotate_left
    · have t5 := fun cc => hW.2.text (P := Try.prog) (c := cc) 22 5 9 Try.underlying22 Try.underlying5 Try.underlying9
      clear hW
      go_simp
      try with_reducible rfl
    simp only [Act.put, List.setIfInBounds_toArray, List.set_cons_zero, List.set_cons_succ]
  refine seq_done ?_
  have HT := Lib.hid (bel_more (bel_more T3.out (Nat.le_refl _) B4.out) (Nat.le_refl _) B5.out)
  go_wp2
  go_ret
  exact ⟨rfl, HT.out⟩
end Go.Proofs.Ytkjkgjkjjiejaaa
