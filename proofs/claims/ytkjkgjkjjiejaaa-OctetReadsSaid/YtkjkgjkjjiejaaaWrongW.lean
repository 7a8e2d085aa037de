/-
  The walk of the statement OctetWrong: for any bytes and any calls it answers true, and nothing that was there has turned. Conditions: at most 4096 bytes (above them the statement answers true at once).
-/
import Derived.Test.YtkjkgjkjjiejaaaAlive
namespace Go.Proofs.Ytkjkgjkjjiejaaa
open Go.RowKit

/-- The slice value '.slice a n _' reads as these calls (a number, and whether bytes are asked for); where there are any they lie in a block below 'B'. -/
def Ops (w : World) (B : Nat) (a : Option Addr) (n : Nat) (os : List (Int × Bool)) : Prop :=
  os.length = n ∧ (0 < n → ∃ b o : Nat, a = some ⟨b, o, none⟩ ∧ b < B ∧ ∀ (i : Nat) (h : i < os.length), w.cell? ⟨b, o + i * 2, none⟩ = some (.int .i64 os[i].1) ∧ w.cell? ⟨b, o + i * 2 + 1, none⟩ = some (.bool os[i].2))
theorem Ops.below {w w' : World} {B n : Nat} {a : Option Addr} {os : List (Int × Bool)} (h : Ops w B a n os) (hb : Below B w w') : Ops w' B a n os :=
  ⟨h.1, fun hn => by
    obtain ⟨b, o, e, hbB, hc⟩ := h.2 hn
    exact ⟨b, o, e, hbB, fun i hi => ⟨(World.cell?_of_block (w := w) (hb.block b hbB)).trans (hc i hi).1, (World.cell?_of_block (w := w) (hb.block b hbB)).trans (hc i hi).2⟩⟩⟩

section
variable {l : List UInt8} {i : Nat} {err n : Int}
theorem errOf_keeps {err n left : Int} {ok : Bool} (h : err ≠ 0) : errOf err ok n left = err := by unfold errOf; rw [if_neg h]
theorem uErr_keeps (h : err ≠ 0) : uErr l i err n = err := errOf_keeps h
theorem bErr_keeps (h : err ≠ 0) : bErr l i err n = err := errOf_keeps h
theorem uPos_stays (h : uErr l i err n ≠ 0) : uPos l i err n = i := by unfold uPos; rw [if_neg h]
theorem bPos_stays (h : bErr l i err n ≠ 0) : bPos l i err n = i := by unfold bPos; rw [if_neg h]
theorem uVal_none (h : uErr l i err n ≠ 0) : uVal l i err n = 0 := by unfold uVal; rw [if_neg h]
theorem bVal_none (h : bErr l i err n ≠ 0) : bVal l i err n = [] := by unfold bVal; rw [if_neg h]
theorem uPos_le : i ≤ uPos l i err n := by unfold uPos; split <;> omega
theorem bPos_le : i ≤ bPos l i err n := by unfold bPos; split <;> omega
end

set_option maxRecDepth 100000 in
set_option maxHeartbeats 2000000 in
theorem wrong_walk (a : Option Addr) (n c : Nat) (l : List UInt8) (a2 : Option Addr) (n2 c2 : Nat) (os : List (Int × Bool)) (w : World) (h : Bts w w.heap.size a n l) (hn : n ≤ 4096) (ho : Ops w w.heap.size a2 n2 os) (hn2 : n2 ≤ 9223372036854775807) :
    Calls Try.prog 6 #[.slice a n c, .slice a2 n2 c2] w fun e w' => e = .returned (.bool true) ∧ Below w.heap.size w w' := by
  have HB := Lib.hid h
  have HO := Lib.hid ho
  clear h ho
  go_enter Try.func6, Try.ntmps6
  go_wp2_with fail
  ((with_reducible refine (alive_calls w).mono ?_))
  rintro e w1 ⟨rfl, b1⟩
  go_wp2_with fail
  ((with_reducible refine (new_calls a n c l w1 ((HB.out.below b1).more b1.size) (by omega)).mono ?_))
  rintro e w2 ⟨r, g, rfl, hr, hg, h2, b2⟩
  have b2' := bel_more b1 (Nat.le_refl _) b2
  have hr' : w.heap.size ≤ r := Nat.le_trans b1.size hr
  have H2 := Lib.hid h2
  have B2 := Lib.hid b2'
  clear h2 b2 b2' b1 hr hg HB
  go_wp2_with fail
  go_loopw [6] (fun t W => ∃ k pos : Nat, ∃ err : Int, k ≤ 64 ∧ k ≤ n2 ∧ t = .int .i64 (k : Int) ∧ Rdr W r g l pos err ∧ Below w.heap.size w W) (fun t _ => 64 - (intOf t).toNat)
  case atStart => exact ⟨0, 0, 0, by omega, by omega, rfl, H2.out, B2.out⟩
  case round =>
    obtain ⟨k, pos, err, hk, hkn, rfl, hR, hbel⟩ := hrel
    have HR := Lib.hid hR
    have HBel := Lib.hid hbel
    have hpos : pos ≤ l.length := hR.2.2.1
    have hll : l.length ≤ 140737488355328 := hR.2.2.2
    clear hR hbel
    by_cases h1 : k < n2
    · by_cases h2 : k < 64
      · obtain ⟨b, o, rfl, hbB, hc⟩ := (HO.out.below HBel.out).2 (by omega)
        have hol : os.length = n2 := HO.out.1
        have hc1 := (hc k (by omega)).1
        have hc2 := (hc k (by omega)).2
        have HOL := Lib.hid hol
        generalize os[k].1 = N at hc1
        generalize os[k].2 = raw at hc2
        clear hc hol
        go_wp2_with fail
        ((with_reducible refine (left_calls HR.out).mono ?_))
        rintro e w3 ⟨rfl, m, rfl⟩
        go_wp2_with fail
        ((with_reducible refine (err_calls (HR.out.drewN m)).mono ?_))
        rintro e w3 ⟨rfl, rfl⟩
        cases raw
        · go_wp2_with fail
          ((with_reducible refine (uint_any (HR.out.drewN m) N).mono ?_))
          rintro e w4 ⟨rfl, h4, u4⟩
          have hV : uErr l pos err N ≠ 0 → uVal l pos err N = 0 := uVal_none
          have hP : uErr l pos err N ≠ 0 → uPos l pos err N = pos := uPos_stays
          have hE : err ≠ 0 → uErr l pos err N = err := uErr_keeps
          have hL : pos ≤ uPos l pos err N := uPos_le
          generalize uVal l pos err N = V at *
          generalize uPos l pos err N = pos' at *
          generalize uErr l pos err N = err' at *
          have hpos' : pos' ≤ l.length := h4.2.2.1
          have hb4 : Below w.heap.size w w4 := bel_upd (bel_drewN HBel.out m) u4 (Nat.le_refl _) hr'
          have H4 := Lib.hid h4
          have HB4 := Lib.hid hb4
          clear h4 hb4 u4
          by_cases hz : err' = 0
          · have he0 : err = 0 := Classical.byContradiction fun h => h (by rw [← hE h]; exact hz)
            subst hz
            subst he0
            clear hV hP hE
            go_wp2_with fail
            ((with_reducible refine (err_calls H4.out).mono ?_))
            rintro e w5 ⟨rfl, rfl⟩
            go_wp2_with fail
            ((with_reducible refine (left_calls H4.out).mono ?_))
            rintro e w5 ⟨rfl, m1, rfl⟩
            go_wp2_with fail
            ((with_reducible refine (left_calls (H4.out.drewN _)).mono ?_))
            rintro e w5 ⟨rfl, m2, rfl⟩
            go_wp2
            exact ⟨⟨k + 1, pos', 0, by omega, by omega, by go_num, H4.out.drewN _, bel_drewN HB4.out _⟩, by simp [intOf]; omega⟩
          · obtain rfl := hV hz
            obtain rfl : pos' = pos := hP hz
            have hzb : (err' != 0) = true := by simpa using hz
            by_cases he0 : err = 0
            · subst he0
              clear hV hP hE hz
              go_wp2_with fail
              ((with_reducible refine (err_calls H4.out).mono ?_))
              rintro e w5 ⟨rfl, rfl⟩
              go_wp2_with fail
              ((with_reducible refine (left_calls H4.out).mono ?_))
              rintro e w5 ⟨rfl, m1, rfl⟩
              go_wp2_with fail
              ((with_reducible refine (left_calls (H4.out.drewN _)).mono ?_))
              rintro e w5 ⟨rfl, m2, rfl⟩
              go_wp2_with fail
              ((with_reducible refine (left_calls (H4.out.drewN _)).mono ?_))
              rintro e w5 ⟨rfl, m3, rfl⟩
              go_wp2
              exact ⟨⟨k + 1, pos', err', by omega, by omega, by go_num, H4.out.drewN _, bel_drewN HB4.out _⟩, by simp [intOf]; omega⟩
            · obtain rfl : err' = err := hE he0
              clear hV hP hE hz he0
              go_wp2_with fail
              ((with_reducible refine (err_calls H4.out).mono ?_))
              rintro e w5 ⟨rfl, rfl⟩
              go_wp2_with fail
              ((with_reducible refine (left_calls H4.out).mono ?_))
              rintro e w5 ⟨rfl, m1, rfl⟩
              go_wp2_with fail
              ((with_reducible refine (err_calls (H4.out.drewN _)).mono ?_))
              rintro e w5 ⟨rfl, rfl⟩
              go_wp2_with fail
              ((with_reducible refine (left_calls (H4.out.drewN _)).mono ?_))
              rintro e w5 ⟨rfl, m2, rfl⟩
              go_wp2_with fail
              ((with_reducible refine (left_calls (H4.out.drewN _)).mono ?_))
              rintro e w5 ⟨rfl, m3, rfl⟩
              go_wp2
              exact ⟨⟨k + 1, pos', err', by omega, by omega, by go_num, H4.out.drewN _, bel_drewN HB4.out _⟩, by simp [intOf]; omega⟩
        · go_wp2_with fail
          ((with_reducible refine (bytes_any (HR.out.drewN m) N).mono ?_))
          rintro e w4 ⟨xa, xc, rfl, _, h4, u4⟩
          have hV : bErr l pos err N ≠ 0 → (bVal l pos err N).length = 0 := fun h => by rw [bVal_none h]; rfl
          have hP : bErr l pos err N ≠ 0 → bPos l pos err N = pos := bPos_stays
          have hE : err ≠ 0 → bErr l pos err N = err := bErr_keeps
          have hL : pos ≤ bPos l pos err N := bPos_le
          generalize (bVal l pos err N).length = V at *
          generalize bPos l pos err N = pos' at *
          generalize bErr l pos err N = err' at *
          have hpos' : pos' ≤ l.length := h4.2.2.1
          have hb4 : Below w.heap.size w w4 := bel_upd (bel_drewN HBel.out m) u4 (Nat.le_refl _) hr'
          have H4 := Lib.hid h4
          have HB4 := Lib.hid hb4
          clear h4 hb4 u4
          by_cases hz : err' = 0
          · have he0 : err = 0 := Classical.byContradiction fun h => h (by rw [← hE h]; exact hz)
            subst hz
            subst he0
            clear hV hP hE
            go_wp2_with fail
            ((with_reducible refine (err_calls H4.out).mono ?_))
            rintro e w5 ⟨rfl, rfl⟩
            go_wp2_with fail
            ((with_reducible refine (left_calls H4.out).mono ?_))
            rintro e w5 ⟨rfl, m1, rfl⟩
            go_wp2_with fail
            ((with_reducible refine (left_calls (H4.out.drewN _)).mono ?_))
            rintro e w5 ⟨rfl, m2, rfl⟩
            go_wp2
            exact ⟨⟨k + 1, pos', 0, by omega, by omega, by go_num, H4.out.drewN _, bel_drewN HB4.out _⟩, by simp [intOf]; omega⟩
          · obtain rfl := hV hz
            obtain rfl : pos' = pos := hP hz
            have hzb : (err' != 0) = true := by simpa using hz
            by_cases he0 : err = 0
            · subst he0
              clear hV hP hE hz
              go_wp2_with fail
              ((with_reducible refine (err_calls H4.out).mono ?_))
              rintro e w5 ⟨rfl, rfl⟩
              go_wp2_with fail
              ((with_reducible refine (left_calls H4.out).mono ?_))
              rintro e w5 ⟨rfl, m1, rfl⟩
              go_wp2_with fail
              ((with_reducible refine (left_calls (H4.out.drewN _)).mono ?_))
              rintro e w5 ⟨rfl, m2, rfl⟩
              go_wp2_with fail
              ((with_reducible refine (left_calls (H4.out.drewN _)).mono ?_))
              rintro e w5 ⟨rfl, m3, rfl⟩
              go_wp2
              exact ⟨⟨k + 1, pos', err', by omega, by omega, by go_num, H4.out.drewN _, bel_drewN HB4.out _⟩, by simp [intOf]; omega⟩
            · obtain rfl : err' = err := hE he0
              clear hV hP hE hz he0
              go_wp2_with fail
              ((with_reducible refine (err_calls H4.out).mono ?_))
              rintro e w5 ⟨rfl, rfl⟩
              go_wp2_with fail
              ((with_reducible refine (left_calls H4.out).mono ?_))
              rintro e w5 ⟨rfl, m1, rfl⟩
              go_wp2_with fail
              ((with_reducible refine (err_calls (H4.out.drewN _)).mono ?_))
              rintro e w5 ⟨rfl, rfl⟩
              go_wp2_with fail
              ((with_reducible refine (left_calls (H4.out.drewN _)).mono ?_))
              rintro e w5 ⟨rfl, m2, rfl⟩
              go_wp2_with fail
              ((with_reducible refine (left_calls (H4.out.drewN _)).mono ?_))
              rintro e w5 ⟨rfl, m3, rfl⟩
              go_wp2
              exact ⟨⟨k + 1, pos', err', by omega, by omega, by go_num, H4.out.drewN _, bel_drewN HB4.out _⟩, by simp [intOf]; omega⟩
      · go_wp2
        go_ret
        exact ⟨rfl, HBel.out⟩
    · go_wp2
      go_ret
      exact ⟨rfl, HBel.out⟩
end Go.Proofs.Ytkjkgjkjjiejaaa
