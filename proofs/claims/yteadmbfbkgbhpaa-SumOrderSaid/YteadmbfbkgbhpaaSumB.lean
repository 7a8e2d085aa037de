/-
  Contracts of package sum: Of, Right. Conditions: the bytes that come in read as a list of at most 2^46 bytes.
-/
import Derived.Test.YteadmbfbkgbhpaaSumA
namespace Go.Proofs.Yteadmbfbkgbhpaa
open Go.RowKit

/-- How far a reader has come: for a loop's measure. -/
def posOf (w : World) (r : Nat) : Nat := match w.cell? ⟨r, 2, none⟩ with | some (.int _ i) => i.toNat | _ => 0
theorem Rdr.pos {w : World} {r g i : Nat} {l : List UInt8} {err : Int} (h : Rdr w r g l i err) : posOf w r = i := by
  unfold posOf; rw [h.c2]; simp

def OfPost (w : World) (l : List UInt8) (e : Ending) (w' : World) : Prop := e = .returned (.int .u16 ((ofL l : Nat) : Int)) ∧ Below w.heap.size w w'

set_option maxHeartbeats 400000 in
theorem of_calls (a : Option Addr) (n c : Nat) (l : List UInt8) (w : World) (h : Bts w w.heap.size a n l) (hlen : n ≤ 70368744177664) (hc : n ≤ c) :
    Calls Try.prog 12 #[.slice a n c] w (OfPost w l) := by
  have HN := Lib.hid h.1
  have HB := Lib.hid h
  clear h
  go_enter Try.func12, Try.ntmps12
  go_wp2_with fail
  ((with_reducible refine (even_calls a n c l w HB.out hlen hc).mono ?_))
  rintro e w1 ⟨a1, c1, rfl, h1, b1⟩
  have HEV := Lib.hid (ev_even l)
  have HEL := Lib.hid (ev_length l)
  have HET := Lib.hid (tot_ev l)
  obtain ⟨m, hm⟩ : ∃ m, m = ev l := ⟨_, rfl⟩
  rw [← hm] at h1 HEV HEL HET ⊢
  have HM := Lib.hid hm
  have H1 := Lib.hid h1
  have B1 := Lib.hid b1
  have hml : m.length ≤ 70368744177665 := by have := HEL.out; have := HN.out; omega
  clear hm h1 b1
  go_wp2_with fail
  ((with_reducible refine (new_calls a1 _ c1 m w1 H1.out (by omega)).mono ?_))
  rintro e w2 ⟨r, g, rfl, hr, hg, h2, b2⟩
  have H2 := Lib.hid h2
  have B2 := Lib.hid (bel_more B1.out (Nat.le_refl _) b2)
  have HR := Lib.hid (Nat.le_trans B1.out.size hr)
  clear h2 b2 hr hg
  go_wp2_with fail
  go_loopw [4] (fun t W => ∃ j x : Nat, t = .int .u16 (x : Int) ∧ Hid (j % 2 = 0) ∧ Hid (x = red (tot (m.take j))) ∧ Hid (Rdr W r g m j 0) ∧ Hid (Below w.heap.size w W)) (fun _ W => m.length - posOf W r)
  case atStart => exact ⟨0, 0, rfl, Lib.hid rfl, Lib.hid rfl, H2, B2⟩
  case round =>
    obtain ⟨j, x, rfl, HJ, HX, HW, HBW⟩ := hrel
    have hjm : j ≤ m.length := HW.out.2.2.1
    have hx : x ≤ 65535 := by rw [HX.out]; exact red_le _
    go_wp2_with fail
    ((with_reducible refine (left_calls HW.out).mono ?_))
    rintro e w3 ⟨rfl, k, rfl⟩
    by_cases hlt : j < m.length
    · have hj2 : j + 2 ≤ m.length := by have := HJ.out; have := HEV.out; omega
      go_wp2_with fail
      ((with_reducible refine (uint_i (HW.out.drewN k) _ (by omega) (by omega) (by omega)).mono ?_))
      rintro e w4 ⟨rfl, h4, u4⟩
      obtain ⟨y, hy⟩ : ∃ y, y = num ((m.drop j).take (Int.toNat 2)) := ⟨_, rfl⟩
      rw [← hy]
      have hyw : y = word m j := hy
      have hyl : y ≤ 65535 := by rw [hyw]; exact word_le m j hj2
      have HST := Lib.hid (show oadd x y = red (tot (m.take (j + 2))) by rw [HX.out, hyw]; exact red_step m j HJ.out hj2)
      have H4 := Lib.hid h4
      have U4 := Lib.hid u4
      clear hy hyw h4 u4
      go_wp2_with fail
      ((with_reducible refine (add_calls x y _ hx hyl).mono ?_))
      rintro e w5 ⟨rfl, rfl⟩
      go_wp2
      have hp4 := H4.out.pos
      have hp := HW.out.pos
      exact ⟨⟨j + 2, _, rfl, Lib.hid (by have := HJ.out; omega), HST, H4, Lib.hid (bel_upd (bel_drewN HBW.out k) U4.out (Nat.le_refl _) HR.out)⟩, by rw [hp4, hp]; show m.length - (j + 2) < m.length - j; omega⟩
    · have hjn : j = m.length := by omega
      go_wp2
      go_ret
      refine ⟨?_, bel_drewN HBW.out k⟩
      have e1 : m.take j = m := List.take_of_length_le (by omega)
      have e2 := HX.out
      rw [e1, HET.out] at e2
      unfold ofL
      rw [← e2]
      congr 2
      go_num
end Go.Proofs.Yteadmbfbkgbhpaa
