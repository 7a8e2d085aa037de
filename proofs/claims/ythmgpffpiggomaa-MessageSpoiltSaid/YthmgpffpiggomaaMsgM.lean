/-
  Contracts of message.head and message.check. Conditions: head's numbers fit; check's bytes read as a list.
-/
import Derived.Test.YthmgpffpiggomaaMsgB
import Derived.Test.YthmgpffpiggomaaMsgS
namespace Go.Proofs.Ythmgpffpiggomaa
open Go.RowKit

def Head8Post (w : World) (l : List UInt8) (e : Ending) (w' : World) : Prop := ∃ g, e = .returned (.slice (some ⟨g, 0, none⟩) 8 8) ∧ w.heap.size ≤ g ∧ Own w' g l ∧ Below w.heap.size w w'

set_option maxRecDepth 100000 in
set_option maxHeartbeats 1600000 in
theorem head8_calls (M : Ms) (len : Nat) (w : World) (h1 : 1 ≤ M.ty) (h2 : M.ty ≤ 7) (h3 : 0 ≤ M.tl) (h4 : M.tl ≤ 255) (h5 : len < 65536) :
    Calls Try.prog 18 #[.agg M.cells.toArray, .int .i64 (len : Int)] w (Head8Post w (hd8 M.ty M.tl len)) := by
  have h0 := Blk.new w 37 M.cells
  have HB0 := Lib.hid h0
  have HL0 := Lib.hid (bel_new (Below.refl _ w) (.cells M.cells.toArray 37))
  have hmk : ∀ W : World, (Instr.makeSlice 31 (.int .i64 6) (.int .i64 6)).run Try.prog W = .ok (.slice (some ⟨W.heap.size, 0, none⟩) 6 6) (W.alloc (.cells (Array.replicate 6 (bv 0)) 5)) := make_bytes 6 (by omega)
  clear h0
  go_enter Try.func18, Try.ntmps18
  go_upto_region 1 with fail
  revert HB0 HL0
  generalize World.alloc w _ = w1
  intro HB0 HL0
  have x0 : w1.cell? ⟨w.heap.size, 0, none⟩ = some (.int .i64 M.ty) := HB0.out.cell 0
  have x1 : w1.cell? ⟨w.heap.size, 1, none⟩ = some (.int .i64 M.tl) := HB0.out.cell 1
  have HO := Lib.hid (own_alloc w1 (List.replicate 6 0) _ (by rfl) : Own (w1.alloc (.cells (Array.replicate 6 (bv 0)) 5)) w1.heap.size (List.replicate 6 0))
  have HL1 := Lib.hid (bel_alloc HL0.out (Nat.le_refl _) (.cells (Array.replicate 6 (bv 0)) 5))
  go_upto_region 2 with fail
  have x0' : (w1.alloc (.cells (Array.replicate 6 (bv 0)) 5)).cell? ⟨w.heap.size, 0, none⟩ = some (.int .i64 M.ty) := (HB0.out.alloc _).cell 0
  have x1' : (w1.alloc (.cells (Array.replicate 6 (bv 0)) 5)).cell? ⟨w.heap.size, 1, none⟩ = some (.int .i64 M.tl) := (HB0.out.alloc _).cell 1
  obtain ⟨g, hg⟩ : ∃ g, g = w1.heap.size := ⟨_, rfl⟩
  have hlt : w.heap.size < g := by rw [hg]; exact HB0.out.lt
  rw [← hg] at HO ⊢
  clear hg x0 x1 HB0 HL0 hmk
  revert HO HL1 x0' x1'
  generalize World.alloc w1 _ = w2
  intro HL1 x0' x1' HO
  have f0 := HO.out.frozen 0
  have f1 := HO.out.frozen 1
  have f4 := HO.out.frozen 4
  have y0 : w2.cell? ⟨g, 0, none⟩ = some (.int .u8 0) := HO.out.cell 0 (by simp)
  have y1 : w2.cell? ⟨g, 1, none⟩ = some (.int .u8 0) := HO.out.cell 1 (by simp)
  have y4 : w2.cell? ⟨g, 4, none⟩ = some (.int .u8 0) := HO.out.cell 4 (by simp)
  have hgl := HO.out.lt
  go_wp2_with fail
  have q1 : ((UInt8.ofNat M.ty.toNat).toNat : Int) = M.ty := by rw [UInt8.toNat_ofNat']; omega
  have q2 : ((UInt8.ofNat M.tl.toNat).toNat : Int) = M.tl := by rw [UInt8.toNat_ofNat']; omega
  have ho3 := ((HO.out.set_ 0 16).set_ 1 (UInt8.ofNat M.ty.toNat)).set_ 4 (UInt8.ofNat M.tl.toNat)
  rw [q1, q2] at ho3
  have hl3 := ((HL1.out.setCell (p := ⟨g, 0, none⟩) (Nat.le_of_lt hlt) (.int .u8 16)).setCell (p := ⟨g, 1, none⟩) (Nat.le_of_lt hlt) (.int .u8 M.ty)).setCell (p := ⟨g, 4, none⟩) (Nat.le_of_lt hlt) (.int .u8 M.tl)
  have HO3 := Lib.hid (show Own (((w2.setCell ⟨g, 0, none⟩ (.int .u8 16)).setCell ⟨g, 1, none⟩ (.int .u8 M.ty)).setCell ⟨g, 4, none⟩ (.int .u8 M.tl)) g [16, UInt8.ofNat M.ty.toNat, 0, 0, UInt8.ofNat M.tl.toNat, 0] from ho3)
  have HL3 := Lib.hid (show Below w.heap.size w (((w2.setCell ⟨g, 0, none⟩ (.int .u8 16)).setCell ⟨g, 1, none⟩ (.int .u8 M.ty)).setCell ⟨g, 4, none⟩ (.int .u8 M.tl)) from hl3)
  clear ho3 hl3 f0 f1 f4 y0 y1 y4 x0' x1' HO HL1 hgl
  revert HO3 HL3
  generalize World.setCell (World.setCell (World.setCell w2 _ _) _ _) _ _ = w3
  intro HO3 HL3
  ((with_reducible refine (put_two (some ⟨g, 0, none⟩) 6 6 _ (len : Int) w3 (HO3.out.bts HO3.out.lt) (by omega) (by omega) (by omega)).mono ?_))
  rintro e w4 ⟨rfl, ho4, hb4⟩
  have HO4 := Lib.hid ho4
  have HL4 := Lib.hid (bel_more HL3.out (Nat.le_refl _) hb4)
  clear ho4 hb4
  go_wp2
  go_ret
  exact ⟨w3.heap.size, rfl, HL3.out.size, HO4.out, HL4.out⟩

/-- Bytes whose head is a message's, and whose check sum is right. -/
def chk8 (b : List UInt8) : Prop := ¬ (4096 < b.length ∨ b.length < 8 ∨ (b.take 1 ≠ [16] ∨ (b.drop 5).take 1 ≠ [0] ∨ num ((b.drop 6).take 2) ≠ b.length) ∨ ofL b ≠ 0)
def Chk8Post (w : World) (b : List UInt8) (e : Ending) (w' : World) : Prop := ∃ err : Int, e = .returned (.int .i64 err) ∧ (err = 0 ↔ chk8 b) ∧ (b.length < 8 → err = 4) ∧ Below w.heap.size w w'
theorem chk8_no {w w' : World} {b : List UInt8} {e : Ending} {err : Int} (h : ¬ chk8 b) (he : e = .returned (.int .i64 err)) (h0 : err ≠ 0) (h4 : b.length < 8 → err = 4) (hb : Below w.heap.size w w') : Chk8Post w b e w' := ⟨err, he, ⟨fun e => absurd e h0, fun e => absurd e h⟩, h4, hb⟩

theorem check8_far (a : Option Addr) (n c : Nat) (b : List UInt8) (w : World) (hl : b.length = n) (hn : n < 8 ∨ 4096 < n) (hm : n ≤ maxLen) :
    Calls Try.prog 19 #[.slice a n c] w (Chk8Post w b) := by
  unfold maxLen at hm
  have HNO := Lib.hid (show ¬ chk8 b from fun h => h (by rw [hl]; exact hn.elim (fun hn => .inr (.inl hn)) .inl))
  have HL := Lib.hid hl
  clear hl
  rcases hn with hn | hn
  · have hn' : ¬ 4096 < n := by omega
    go_enter Try.func19, Try.ntmps19
    go_wp2
    go_ret
    exact chk8_no HNO.out rfl (by omega) (fun _ => rfl) (Below.refl _ _)
  · go_enter Try.func19, Try.ntmps19
    go_wp2
    go_ret
    exact chk8_no HNO.out rfl (by omega) (by rw [HL.out]; omega) (Below.refl _ _)

theorem Bts.byte {w : World} {B g o n : Nat} {b : List UInt8} (h : Bts w B (some ⟨g, o, none⟩) n b) (i : Nat) (hi : i < n) : ∃ x : UInt8, (b.drop i).take 1 = [x] ∧ b[i]? = some x ∧ w.cell? ⟨g, o + i, none⟩ = some (.int .u8 (x.toNat : Int)) := by
  have hl := h.1
  obtain ⟨g', o', e, _, hc⟩ := h.2 (by omega)
  injection e with e
  injection e with e1 e2
  subst e1 e2
  have hi' : i < b.length := by omega
  exact ⟨b[i], by rw [List.drop_eq_getElem_cons hi']; rfl, by simp [hi'], hc i hi'⟩

set_option maxHeartbeats 1600000 in
theorem check8_near (g o n c : Nat) (b : List UInt8) (w : World) (h : Bts w w.heap.size (some ⟨g, o, none⟩) n b) (h8 : 8 ≤ n) (hn : n ≤ 4096) (hc : n ≤ c) (hcm : c ≤ maxLen) :
    Calls Try.prog 19 #[.slice (some ⟨g, o, none⟩) n c] w (Chk8Post w b) := by
  unfold maxLen at hcm
  have HB := Lib.hid h
  have HL := Lib.hid h.1
  have HT := Lib.hid ((h.rest 6 (by omega)).front 2 (by omega))
  have h8' : ¬ n < 8 := by omega
  have hn' : ¬ 4096 < n := by omega
  clear h
  go_enter Try.func19, Try.ntmps19
  go_wp2_with fail
  ((with_reducible refine (new_calls _ 2 (c - 6) _ w HT.out (by omega)).mono ?_))
  rintro e w1 ⟨r, gg, rfl, hr, hgg, h1, b1⟩
  have H1 := Lib.hid h1
  have B1 := Lib.hid b1
  have HTL := Lib.hid HT.out.1
  clear h1 b1 hgg
  go_wp2_with fail
  ((with_reducible refine (uint_i H1.out 2 (by omega) (by omega) (by rw [HTL.out]; omega)).mono ?_))
  rintro e w2 ⟨rfl, _, u2⟩
  have hl2 := bel_upd B1.out u2 (Nat.le_refl _) hr
  have HL2 := Lib.hid hl2
  have hB2 := HB.out.below hl2
  obtain ⟨X, hX, hX', c0⟩ := hB2.byte 0 (by omega)
  obtain ⟨Y, hY, _, c5⟩ := hB2.byte 5 (by omega)
  have HR := Lib.hid (right_calls (some ⟨g, o, none⟩) n c b w2 (hB2.more hl2.size) (by omega) hc)
  have e1 : num ((((b.drop 6).take 2).drop 0).take (2 : Int).toNat) = num ((b.drop 6).take 2) := by rw [List.drop_zero, List.take_of_length_le (by rw [HTL.out]; decide)]
  rw [e1]
  obtain ⟨N, hN⟩ : ∃ N, N = num ((b.drop 6).take 2) := ⟨_, rfl⟩
  rw [← hN]
  have hNl : N < 65536 := by
    have := num_lt ((b.drop 6).take 2)
    rw [HTL.out] at this
    omega
  have hx16 : X = 16 ↔ X.toNat = 16 := ⟨fun h => by rw [h]; rfl, fun h => UInt8.toNat_inj.1 (by rw [h]; rfl)⟩
  have hy0 : Y = 0 ↔ Y.toNat = 0 := ⟨fun h => by rw [h]; rfl, fun h => UInt8.toNat_inj.1 (by rw [h]; rfl)⟩
  have HC := Lib.hid (show chk8 b ↔ X.toNat = 16 ∧ Y.toNat = 0 ∧ N = n ∧ ofL b = 0 by
    unfold chk8
    rw [hY, ← hN, show b.take 1 = [X] from hX, HL.out]
    simp only [ne_eq, List.cons.injEq, and_true, hx16, hy0]
    omega)
  clear hX hX' hY hN e1 hx16 hy0 hl2 hB2 u2 H1 B1 HT HTL HB
  generalize X.toNat = x at *
  generalize Y.toNat = y at *
  simp only [Nat.add_zero] at c0
  by_cases k1 : x = 16
  · subst k1
    by_cases k2 : y = 0
    · subst k2
      by_cases k3 : N = n
      · subst k3
        go_wp2_with fail
        ((with_reducible refine HR.out.mono ?_))
        rintro e w3 ⟨rfl, hb3⟩
        have HL3 := Lib.hid (bel_more HL2.out (Nat.le_refl _) hb3)
        clear HR hb3
        by_cases k4 : ofL b = 0
        · have hd : decide (ofL b = 0) = true := decide_eq_true k4
          have HY := Lib.hid (show chk8 b from HC.out.2 (by simp [k4]))
          rw [hd]
          clear k4 hd
          go_wp2
          go_ret
          exact ⟨0, rfl, ⟨fun _ => HY.out, fun _ => rfl⟩, by rw [HL.out]; omega, HL3.out⟩
        · have hd : decide (ofL b = 0) = false := decide_eq_false k4
          have HNO := Lib.hid (show ¬ chk8 b from fun h => k4 (HC.out.1 h).2.2.2)
          rw [hd]
          clear k4 hd
          go_wp2
          go_ret
          exact chk8_no HNO.out rfl (by omega) (by rw [HL.out]; omega) HL3.out
      · have HNO := Lib.hid (show ¬ chk8 b from fun h => k3 (HC.out.1 h).2.2.1)
        have k3' : ((N : Int) != (n : Int)) = true := by rw [bne_iff_ne]; omega
        go_wp2
        go_ret
        exact chk8_no HNO.out rfl (by omega) (by rw [HL.out]; omega) HL2.out
    · have HNO := Lib.hid (show ¬ chk8 b from fun h => k2 (HC.out.1 h).2.1)
      have k2' : ((y : Int) != 0) = true := by rw [bne_iff_ne]; omega
      go_wp2
      go_ret
      exact chk8_no HNO.out rfl (by omega) (by rw [HL.out]; omega) HL2.out
  · have HNO := Lib.hid (show ¬ chk8 b from fun h => k1 (HC.out.1 h).1)
    have k1' : ((x : Int) != 16) = true := by rw [bne_iff_ne]; omega
    go_wp2
    go_ret
    exact chk8_no HNO.out rfl (by omega) (by rw [HL.out]; omega) HL2.out

theorem check8_calls (a : Option Addr) (n c : Nat) (b : List UInt8) (w : World) (h : Bts w w.heap.size a n b) (hc : n ≤ c) (hcm : c ≤ maxLen) :
    Calls Try.prog 19 #[.slice a n c] w (Chk8Post w b) := by
  by_cases hn : n < 8 ∨ 4096 < n
  · exact check8_far a n c b w h.1 hn (by omega)
  · obtain ⟨g, o, rfl, _⟩ := h.2 (by omega)
    exact check8_near g o n c b w h (by omega) (by omega) hc hcm
end Go.Proofs.Ythmgpffpiggomaa
