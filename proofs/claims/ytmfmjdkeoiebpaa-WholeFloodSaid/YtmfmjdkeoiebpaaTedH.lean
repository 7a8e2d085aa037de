/-
  The document's bytes and Encode (viaductref15). Condition: eight numbers of 64 bits; fewer than 2^30 adverts.
-/
import Derived.Test.YtmfmjdkeoiebpaaTecG
import Derived.Test.YtmfmjdkeoiebpaaRefA
namespace Go.Proofs.Ytmfmjdkeoiebpaa
set_option maxRecDepth 100000
set_option linter.unusedVariables false
open Go.RowKit

theorem dig_byte {f : Int} (h0 : 0 ≤ f) (h1 : f < 256) : (dig 1 f.toNat).map bv = [.int .u8 f] := by
  have : dig 1 f.toNat = [UInt8.ofNat (f.toNat / 256 ^ 0)] := rfl
  rw [this]
  simp only [List.map_cons, List.map_nil, bv, Nat.pow_zero, Nat.div_one, List.cons.injEq, and_true, Value.int.injEq, true_and]
  rw [UInt8.toNat_ofNat', Nat.mod_eq_of_lt (by omega)]
  omega
theorem app15 {w : World} {base b2 c cc m n k : Nat} {A B : Option Addr} {l d : List UInt8} (h : Acc w base A c l) (hm : l.length = m) (hd : Acc w b2 B cc d) (hn : d.length = n) (hk : m + n = k) (hb : base ≤ w.heap.size) (hs : k ≤ 1099511627776) :
    ∃ A' c' w', (Builtin.append_ #[52, 52] 52 #[.slice A m c, .slice B n cc]).run Try.prog w = .ok (.slice A' k c') w' ∧ Acc w' base A' c' (l ++ d) ∧ w.grownBy w' (blk A) := by
  subst hm; subst hn; subst hk
  obtain ⟨A', c', w', r, a, g, _⟩ := acc_append (cc := cc) h hd.bts hb (by omega) 52
  exact ⟨A', c', w', r, a, g⟩
theorem acc_blk15 {w : World} {base c g : Nat} {T' : TypeId} {A : Option Addr} {l : List UInt8} {vs : List Value} (h : Acc w base A c l) (hb : Blk w g T' vs) (hne : 5 ≠ T') (e : blk A = some g) : False := by
  rcases h.2 with ⟨hv, _⟩ | ⟨a, cap, cur, hv, _, hh, _⟩
  · injection hv with e1 _ _
    subst e1; cases e
  · injection hv with e1 _ _
    subst e1
    injection e with e
    simp only at e
    subst e
    unfold Blk at hb
    rw [hh] at hb
    injection hb with hb
    injection hb with _ hb _
    exact hne hb
def RB15 (a : Ad) (w : World) (e : Ending) (w' : World) : Prop := ∃ A c, e = .returned (.slice A 88 c) ∧ Acc w' w.heap.size A c (adB a) ∧ Below w.heap.size w w'
/-- The first four bytes. -/
def h4 (a : Ad) : List UInt8 := dig 1 a.k.f.toNat ++ dig 1 a.k.t.toNat ++ dig 1 (bnum a.up) ++ dig 1 0
theorem hd15_h4 (a : Ad) : h4 a ++ dig 4 a.q.toNat ++ dig 8 a.k.c.toNat ++ dig 4 a.k.m.toNat ++ dig 4 a.k.g.toNat = hd15 a := rfl
set_option maxHeartbeats 6400000 in
theorem rbytes15_calls (a : Ad) (ha : AdOk a) (hv : vldA a = true) (w : World) : Calls Try.prog 41 #[.agg (adc a).toArray] w (RB15 a w) := by
  have hvh := hv
  unfold vldA at hvh
  rw [Bool.and_eq_true] at hvh
  obtain ⟨v1, v2, v3, v4, v5, v6, v7, v8, v9⟩ := vldH_iff.1 hvh.1
  have hc0 := ha.c0
  have hc1 := ha.c1
  have hg0 := ha.g0
  have hg1 := ha.g1
  have HALL := Lib.hid (wr15_all a ha.len)
  have HSN := Lib.hid (fun p (hp : p < 8) => wr15_snoc a ha.len hp)
  have HWL := Lib.hid (fun p (hp : p ≤ 8) => wr15_length a ha.len hp)
  have HLN := Lib.hid (show ∀ p, p < 8 → a.f.getD p 0 < 18446744073709551616 from fun p hp => by
    rw [List.getD_eq_getElem?_getD, List.getElem?_eq_getElem (by rw [ha.len]; exact hp), Option.getD_some]
    exact ha.num _ (List.getElem_mem _))
  have B0 := Lib.hid (show Blk (w.alloc (.cells (adc a).toArray 42)) w.heap.size 42 (adc a) from Blk.new w _ _)
  have L0 := Lib.hid (bel_new (Below.refl w.heap.size w) (.cells (adc a).toArray 42))
  have e0 := dig_byte (f := a.k.f) v1 (by omega)
  have e1 := dig_byte (f := a.k.t) v3 (by omega)
  have E0 := Lib.hid (And.intro e0 e1)
  obtain ⟨up, hup⟩ : ∃ up, a.up = up := ⟨_, rfl⟩
  have HUP := Lib.hid hup
  have HDI := Lib.hid (fun (n u : Nat) (W : World) (hn : n ≤ 8) (hu : u < 18446744073709551616) => digits_calls n u W hn hu)
  unfold DigitsPost at HDI
  clear ha hv hvh e0 e1 hup
  go_enter Try.func41, Try.ntmps41
  go_upto_region 1 with fail
  generalize (w.alloc (.cells (adc a).toArray 42)) = w1 at *
  have x0 : w1.cell? ⟨w.heap.size, 0, none⟩ = some (.int .i64 a.k.f) := B0.out.cell 0
  have x1 : w1.cell? ⟨w.heap.size, 1, none⟩ = some (.int .i64 a.k.t) := B0.out.cell 1
  have x6 : w1.cell? ⟨w.heap.size, 6, none⟩ = some (.bool up) := by rw [← HUP.out]; exact B0.out.cell 6
  cases up with
  | true =>
    have eu : (dig 1 (bnum true)).map bv = [.int .u8 1] := rfl
    have hbl := bel_new (Below.refl w1.heap.size w1) (.cells #[.int .u8 a.k.f, .int .u8 a.k.t, .int .u8 1, .int .u8 0] 5)
    have O1 := Lib.hid (show Own (w1.alloc (.cells #[.int .u8 a.k.f, .int .u8 a.k.t, .int .u8 1, .int .u8 0] 5)) w1.heap.size (h4 a) from own_alloc w1 (h4 a) _ (by
      unfold h4
      rw [List.map_append, List.map_append, List.map_append, E0.out.1, E0.out.2, HUP.out, eu]; rfl))
    have B9 := Lib.hid (B0.out.below hbl)
    have L9 := Lib.hid (L0.out.trans (hbl.mono L0.out.size))
    have Q9 := Lib.hid L0.out.size
    clear hbl B0 L0 eu
    go_upto_region 5 with fail
    clear x0 x1 x6
    generalize w1.alloc _ = u1 at *
    generalize w1.heap.size = q at *
    have A1 := Lib.hid (show Acc u1 w.heap.size (some ⟨q, 0, none⟩) 4 (h4 a) from O1.out.acc Q9.out (by simp [h4, dig_length]))
    have B1 := Lib.hid B9.out
    have L1 := Lib.hid L9.out
    clear O1 B9 L9 Q9
    have y0 : u1.cell? ⟨w.heap.size, 5, none⟩ = some (.int .i64 a.q) := B1.out.cell 5
    have hdc : Calls Try.prog 55 #[.int .i64 4, .int .u64 a.q] u1 fun e w' => ∃ A c, e = .returned (.slice A 4 c) ∧ Acc w' u1.heap.size A c (dig 4 a.q.toNat) ∧ Below u1.heap.size u1 w' := by
      have := HDI.out 4 a.q.toNat u1 (by omega) (by omega)
      rwa [Int.toNat_of_nonneg (by omega)] at this
    have HDC := Lib.hid hdc
    clear hdc
    go_wp2_with fail
    ((with_reducible refine HDC.out.mono ?_))
    rintro e u2 ⟨D2, d2, rfl, hacc, hb⟩
    obtain ⟨P2, c2, w2, r8, a8, g8⟩ := app15 (m := 4) (n := 4) (k := 8) (A1.out.bel hb) (by simp [h4, dig_length]) hacc (dig_length _ _) (by omega) (Nat.le_trans L1.out.size hb.size) (by omega)
    have R8 := Lib.hid r8
    have ll2 := L1.out.trans (hb.mono L1.out.size)
    have L2 := Lib.hid (show Below w.heap.size w w2 from bel_acc ll2 (A1.out.bel hb) g8)
    have A2 := Lib.hid (show Acc w2 w.heap.size P2 c2 (h4 a ++ dig 4 a.q.toNat) from a8)
    have B2 := Lib.hid ((B1.out.below hb).same (g8.block _ (B1.out.below hb).lt (fun e => acc_blk15 (A1.out.bel hb) (B1.out.below hb) (by decide) e.symm)))
    clear hacc hb r8 a8 g8 ll2 HDC y0 A1 B1 L1
    go_upto_region 6 with (at_builtin; refine step_append rfl rfl rfl rfl R8.out ?_)
    clear R8
    have y0 : w2.cell? ⟨w.heap.size, 2, none⟩ = some (.int .u64 a.k.c) := B2.out.cell 2
    have hdc : Calls Try.prog 55 #[.int .i64 8, .int .u64 a.k.c] w2 fun e w' => ∃ A c, e = .returned (.slice A 8 c) ∧ Acc w' w2.heap.size A c (dig 8 a.k.c.toNat) ∧ Below w2.heap.size w2 w' := by
      have := HDI.out 8 a.k.c.toNat w2 (by omega) (by omega)
      rwa [Int.toNat_of_nonneg (by omega)] at this
    have HDC := Lib.hid hdc
    clear hdc
    go_wp2_with fail
    ((with_reducible refine HDC.out.mono ?_))
    rintro e u3 ⟨D3, d3, rfl, hacc, hb⟩
    obtain ⟨P3, c3, w3, r8, a8, g8⟩ := app15 (m := 8) (n := 8) (k := 16) (A2.out.bel hb) (by simp [h4, dig_length]) hacc (dig_length _ _) (by omega) (Nat.le_trans L2.out.size hb.size) (by omega)
    have R8 := Lib.hid r8
    have ll3 := L2.out.trans (hb.mono L2.out.size)
    have L3 := Lib.hid (show Below w.heap.size w w3 from bel_acc ll3 (A2.out.bel hb) g8)
    have A3 := Lib.hid (show Acc w3 w.heap.size P3 c3 (h4 a ++ dig 4 a.q.toNat ++ dig 8 a.k.c.toNat) from a8)
    have B3 := Lib.hid ((B2.out.below hb).same (g8.block _ (B2.out.below hb).lt (fun e => acc_blk15 (A2.out.bel hb) (B2.out.below hb) (by decide) e.symm)))
    clear hacc hb r8 a8 g8 ll3 HDC y0 A2 B2 L2
    go_upto_region 7 with (at_builtin; refine step_append rfl rfl rfl rfl R8.out ?_)
    clear R8
    have y0 : w3.cell? ⟨w.heap.size, 3, none⟩ = some (.int .i64 a.k.m) := B3.out.cell 3
    have hdc : Calls Try.prog 55 #[.int .i64 4, .int .u64 a.k.m] w3 fun e w' => ∃ A c, e = .returned (.slice A 4 c) ∧ Acc w' w3.heap.size A c (dig 4 a.k.m.toNat) ∧ Below w3.heap.size w3 w' := by
      have := HDI.out 4 a.k.m.toNat w3 (by omega) (by omega)
      rwa [Int.toNat_of_nonneg (by omega)] at this
    have HDC := Lib.hid hdc
    clear hdc
    go_wp2_with fail
    ((with_reducible refine HDC.out.mono ?_))
    rintro e u4 ⟨D4, d4, rfl, hacc, hb⟩
    obtain ⟨P4, c4, w4, r8, a8, g8⟩ := app15 (m := 16) (n := 4) (k := 20) (A3.out.bel hb) (by simp [h4, dig_length]) hacc (dig_length _ _) (by omega) (Nat.le_trans L3.out.size hb.size) (by omega)
    have R8 := Lib.hid r8
    have ll4 := L3.out.trans (hb.mono L3.out.size)
    have L4 := Lib.hid (show Below w.heap.size w w4 from bel_acc ll4 (A3.out.bel hb) g8)
    have A4 := Lib.hid (show Acc w4 w.heap.size P4 c4 (h4 a ++ dig 4 a.q.toNat ++ dig 8 a.k.c.toNat ++ dig 4 a.k.m.toNat) from a8)
    have B4 := Lib.hid ((B3.out.below hb).same (g8.block _ (B3.out.below hb).lt (fun e => acc_blk15 (A3.out.bel hb) (B3.out.below hb) (by decide) e.symm)))
    clear hacc hb r8 a8 g8 ll4 HDC y0 A3 B3 L3
    go_upto_region 8 with (at_builtin; refine step_append rfl rfl rfl rfl R8.out ?_)
    clear R8
    have y0 : w4.cell? ⟨w.heap.size, 4, none⟩ = some (.int .u32 a.k.g) := B4.out.cell 4
    have hdc : Calls Try.prog 55 #[.int .i64 4, .int .u64 a.k.g] w4 fun e w' => ∃ A c, e = .returned (.slice A 4 c) ∧ Acc w' w4.heap.size A c (dig 4 a.k.g.toNat) ∧ Below w4.heap.size w4 w' := by
      have := HDI.out 4 a.k.g.toNat w4 (by omega) (by omega)
      rwa [Int.toNat_of_nonneg (by omega)] at this
    have HDC := Lib.hid hdc
    clear hdc
    go_wp2_with fail
    ((with_reducible refine HDC.out.mono ?_))
    rintro e u5 ⟨D5, d5, rfl, hacc, hb⟩
    obtain ⟨P5, c5, w5, r8, a8, g8⟩ := app15 (m := 20) (n := 4) (k := 24) (A4.out.bel hb) (by simp [h4, dig_length]) hacc (dig_length _ _) (by omega) (Nat.le_trans L4.out.size hb.size) (by omega)
    have R8 := Lib.hid r8
    have ll5 := L4.out.trans (hb.mono L4.out.size)
    have L5 := Lib.hid (show Below w.heap.size w w5 from bel_acc ll5 (A4.out.bel hb) g8)
    have A5 := Lib.hid (show Acc w5 w.heap.size P5 c5 (h4 a ++ dig 4 a.q.toNat ++ dig 8 a.k.c.toNat ++ dig 4 a.k.m.toNat ++ dig 4 a.k.g.toNat) from a8)
    have B5 := Lib.hid ((B4.out.below hb).same (g8.block _ (B4.out.below hb).lt (fun e => acc_blk15 (A4.out.bel hb) (B4.out.below hb) (by decide) e.symm)))
    clear hacc hb r8 a8 g8 ll5 HDC y0 A4 B4 L4
    go_upto_region 9 with (at_builtin; refine step_append rfl rfl rfl rfl R8.out ?_)
    clear R8
    have W0 := Lib.hid (show Acc w5 w.heap.size P5 c5 (wr15 a 0) from by
      have := A5.out
      rw [hd15_h4] at this
      unfold wr15
      rw [List.take_zero, List.flatMap_nil, List.append_nil]
      exact this)
    clear A5
    go_wp2_with fail
    go_loopw [4, 5] (fun s t W => ∃ (p c9 m9 : Nat) (A9 : Option Addr), p ≤ 8 ∧ s = .slice A9 m9 c9 ∧ t = .int .i64 (p : Int) ∧ m9 = 24 + 8 * p ∧ Acc W w.heap.size A9 c9 (wr15 a p) ∧ Blk W w.heap.size 42 (adc a) ∧ Below w.heap.size w W) (fun s t W => 8 - (intOf t).toNat)
    case atStart => exact ⟨0, _, _, _, by omega, rfl, rfl, rfl, W0.out, B5.out, L5.out⟩
    case round =>
      clear W0 B5 L5
      obtain ⟨p, c9, m9, A9, hp, rfl, rfl, hm, ha, hb, hl⟩ := hrel
      have A8 := Lib.hid ha
      have B8 := Lib.hid hb
      have L8 := Lib.hid hl
      have M8 := Lib.hid hm
      clear ha hb hl hm
      by_cases hp8 : p < 8
      · have p1 : (p : Int) < 8 := by omega
        have HP8 := Lib.hid hp8
        have hlt := HLN.out p hp8
        have y0 : wr.cell? ⟨w.heap.size, 7 + p, none⟩ = some (.int .u64 ((a.f.getD p 0 : Nat) : Int)) := (B8.out.cell _).trans (adc_free _ hp8)
        have hsn := HSN.out p hp8
        obtain ⟨v, hv⟩ : ∃ v, a.f.getD p 0 = v := ⟨_, rfl⟩
        rw [hv] at y0 hlt hsn
        have HS := Lib.hid hsn
        have hdc : Calls Try.prog 55 #[.int .i64 8, .int .u64 (v : Int)] wr fun e w' => ∃ A c, e = .returned (.slice A 8 c) ∧ Acc w' wr.heap.size A c (dig 8 v) ∧ Below wr.heap.size wr w' := HDI.out 8 v wr (by omega) hlt
        have HDC := Lib.hid hdc
        clear hdc hlt hsn hv
        go_wp2_with fail
        ((with_reducible refine HDC.out.mono ?_))
        rintro e u9 ⟨D9, d9, rfl, hacc, hb⟩
        obtain ⟨A7, c7, w7, r8, a8, g8⟩ := app15 (k := m9 + 8) (A8.out.bel hb) (by rw [HWL.out p (by have := HP8.out; omega)]; exact M8.out.symm) hacc (dig_length _ _) rfl (Nat.le_trans L8.out.size hb.size) (by have := M8.out; omega)
        have R8 := Lib.hid r8
        have ll7 := L8.out.trans (hb.mono L8.out.size)
        have L7 := Lib.hid (show Below w.heap.size w w7 from bel_acc ll7 (A8.out.bel hb) g8)
        have A7' := Lib.hid (show Acc w7 w.heap.size A7 c7 (wr15 a (p + 1)) from by rw [HS.out]; exact a8)
        have B7 := Lib.hid ((B8.out.below hb).same (g8.block _ (B8.out.below hb).lt (fun e => acc_blk15 (A8.out.bel hb) (B8.out.below hb) (by decide) e.symm)))
        have M7 := Lib.hid (show m9 + 8 = 24 + 8 * (p + 1) by have := M8.out; omega)
        clear hacc hb r8 a8 g8 ll7 HDC y0 A8 B8 L8
        go_wp2_with (at_builtin; refine step_append rfl rfl rfl rfl R8.out ?_)
        go_roundw
        case rel => exact ⟨p + 1, c7, m9 + 8, A7, by have := HP8.out; omega, by first | rfl | (simp; omega), by first | rfl | (simp; omega), M7.out, A7'.out, B7.out, L7.out⟩
        case measure => have := HP8.out; simp [intOf]; omega
      · obtain rfl : p = 8 := by omega
        obtain rfl : m9 = 88 := M8.out
        clear hp hp8
        go_wp2_with fail
        go_ret
        exact ⟨A9, c9, rfl, by have := A8.out; rwa [HALL.out] at this, L8.out⟩

  | false =>
    have eu : (dig 1 (bnum false)).map bv = [.int .u8 0] := rfl
    have hbl := bel_new (Below.refl w1.heap.size w1) (.cells #[.int .u8 a.k.f, .int .u8 a.k.t, .int .u8 0, .int .u8 0] 5)
    have O1 := Lib.hid (show Own (w1.alloc (.cells #[.int .u8 a.k.f, .int .u8 a.k.t, .int .u8 0, .int .u8 0] 5)) w1.heap.size (h4 a) from own_alloc w1 (h4 a) _ (by
      unfold h4
      rw [List.map_append, List.map_append, List.map_append, E0.out.1, E0.out.2, HUP.out, eu]; rfl))
    have B9 := Lib.hid (B0.out.below hbl)
    have L9 := Lib.hid (L0.out.trans (hbl.mono L0.out.size))
    have Q9 := Lib.hid L0.out.size
    clear hbl B0 L0 eu
    go_upto_region 5 with fail
    clear x0 x1 x6
    generalize w1.alloc _ = u1 at *
    generalize w1.heap.size = q at *
    have A1 := Lib.hid (show Acc u1 w.heap.size (some ⟨q, 0, none⟩) 4 (h4 a) from O1.out.acc Q9.out (by simp [h4, dig_length]))
    have B1 := Lib.hid B9.out
    have L1 := Lib.hid L9.out
    clear O1 B9 L9 Q9
    have y0 : u1.cell? ⟨w.heap.size, 5, none⟩ = some (.int .i64 a.q) := B1.out.cell 5
    have hdc : Calls Try.prog 55 #[.int .i64 4, .int .u64 a.q] u1 fun e w' => ∃ A c, e = .returned (.slice A 4 c) ∧ Acc w' u1.heap.size A c (dig 4 a.q.toNat) ∧ Below u1.heap.size u1 w' := by
      have := HDI.out 4 a.q.toNat u1 (by omega) (by omega)
      rwa [Int.toNat_of_nonneg (by omega)] at this
    have HDC := Lib.hid hdc
    clear hdc
    go_wp2_with fail
    ((with_reducible refine HDC.out.mono ?_))
    rintro e u2 ⟨D2, d2, rfl, hacc, hb⟩
    obtain ⟨P2, c2, w2, r8, a8, g8⟩ := app15 (m := 4) (n := 4) (k := 8) (A1.out.bel hb) (by simp [h4, dig_length]) hacc (dig_length _ _) (by omega) (Nat.le_trans L1.out.size hb.size) (by omega)
    have R8 := Lib.hid r8
    have ll2 := L1.out.trans (hb.mono L1.out.size)
    have L2 := Lib.hid (show Below w.heap.size w w2 from bel_acc ll2 (A1.out.bel hb) g8)
    have A2 := Lib.hid (show Acc w2 w.heap.size P2 c2 (h4 a ++ dig 4 a.q.toNat) from a8)
    have B2 := Lib.hid ((B1.out.below hb).same (g8.block _ (B1.out.below hb).lt (fun e => acc_blk15 (A1.out.bel hb) (B1.out.below hb) (by decide) e.symm)))
    clear hacc hb r8 a8 g8 ll2 HDC y0 A1 B1 L1
    go_upto_region 6 with (at_builtin; refine step_append rfl rfl rfl rfl R8.out ?_)
    clear R8
    have y0 : w2.cell? ⟨w.heap.size, 2, none⟩ = some (.int .u64 a.k.c) := B2.out.cell 2
    have hdc : Calls Try.prog 55 #[.int .i64 8, .int .u64 a.k.c] w2 fun e w' => ∃ A c, e = .returned (.slice A 8 c) ∧ Acc w' w2.heap.size A c (dig 8 a.k.c.toNat) ∧ Below w2.heap.size w2 w' := by
      have := HDI.out 8 a.k.c.toNat w2 (by omega) (by omega)
      rwa [Int.toNat_of_nonneg (by omega)] at this
    have HDC := Lib.hid hdc
    clear hdc
    go_wp2_with fail
    ((with_reducible refine HDC.out.mono ?_))
    rintro e u3 ⟨D3, d3, rfl, hacc, hb⟩
    obtain ⟨P3, c3, w3, r8, a8, g8⟩ := app15 (m := 8) (n := 8) (k := 16) (A2.out.bel hb) (by simp [h4, dig_length]) hacc (dig_length _ _) (by omega) (Nat.le_trans L2.out.size hb.size) (by omega)
    have R8 := Lib.hid r8
    have ll3 := L2.out.trans (hb.mono L2.out.size)
    have L3 := Lib.hid (show Below w.heap.size w w3 from bel_acc ll3 (A2.out.bel hb) g8)
    have A3 := Lib.hid (show Acc w3 w.heap.size P3 c3 (h4 a ++ dig 4 a.q.toNat ++ dig 8 a.k.c.toNat) from a8)
    have B3 := Lib.hid ((B2.out.below hb).same (g8.block _ (B2.out.below hb).lt (fun e => acc_blk15 (A2.out.bel hb) (B2.out.below hb) (by decide) e.symm)))
    clear hacc hb r8 a8 g8 ll3 HDC y0 A2 B2 L2
    go_upto_region 7 with (at_builtin; refine step_append rfl rfl rfl rfl R8.out ?_)
    clear R8
    have y0 : w3.cell? ⟨w.heap.size, 3, none⟩ = some (.int .i64 a.k.m) := B3.out.cell 3
    have hdc : Calls Try.prog 55 #[.int .i64 4, .int .u64 a.k.m] w3 fun e w' => ∃ A c, e = .returned (.slice A 4 c) ∧ Acc w' w3.heap.size A c (dig 4 a.k.m.toNat) ∧ Below w3.heap.size w3 w' := by
      have := HDI.out 4 a.k.m.toNat w3 (by omega) (by omega)
      rwa [Int.toNat_of_nonneg (by omega)] at this
    have HDC := Lib.hid hdc
    clear hdc
    go_wp2_with fail
    ((with_reducible refine HDC.out.mono ?_))
    rintro e u4 ⟨D4, d4, rfl, hacc, hb⟩
    obtain ⟨P4, c4, w4, r8, a8, g8⟩ := app15 (m := 16) (n := 4) (k := 20) (A3.out.bel hb) (by simp [h4, dig_length]) hacc (dig_length _ _) (by omega) (Nat.le_trans L3.out.size hb.size) (by omega)
    have R8 := Lib.hid r8
    have ll4 := L3.out.trans (hb.mono L3.out.size)
    have L4 := Lib.hid (show Below w.heap.size w w4 from bel_acc ll4 (A3.out.bel hb) g8)
    have A4 := Lib.hid (show Acc w4 w.heap.size P4 c4 (h4 a ++ dig 4 a.q.toNat ++ dig 8 a.k.c.toNat ++ dig 4 a.k.m.toNat) from a8)
    have B4 := Lib.hid ((B3.out.below hb).same (g8.block _ (B3.out.below hb).lt (fun e => acc_blk15 (A3.out.bel hb) (B3.out.below hb) (by decide) e.symm)))
    clear hacc hb r8 a8 g8 ll4 HDC y0 A3 B3 L3
    go_upto_region 8 with (at_builtin; refine step_append rfl rfl rfl rfl R8.out ?_)
    clear R8
    have y0 : w4.cell? ⟨w.heap.size, 4, none⟩ = some (.int .u32 a.k.g) := B4.out.cell 4
    have hdc : Calls Try.prog 55 #[.int .i64 4, .int .u64 a.k.g] w4 fun e w' => ∃ A c, e = .returned (.slice A 4 c) ∧ Acc w' w4.heap.size A c (dig 4 a.k.g.toNat) ∧ Below w4.heap.size w4 w' := by
      have := HDI.out 4 a.k.g.toNat w4 (by omega) (by omega)
      rwa [Int.toNat_of_nonneg (by omega)] at this
    have HDC := Lib.hid hdc
    clear hdc
    go_wp2_with fail
    ((with_reducible refine HDC.out.mono ?_))
    rintro e u5 ⟨D5, d5, rfl, hacc, hb⟩
    obtain ⟨P5, c5, w5, r8, a8, g8⟩ := app15 (m := 20) (n := 4) (k := 24) (A4.out.bel hb) (by simp [h4, dig_length]) hacc (dig_length _ _) (by omega) (Nat.le_trans L4.out.size hb.size) (by omega)
    have R8 := Lib.hid r8
    have ll5 := L4.out.trans (hb.mono L4.out.size)
    have L5 := Lib.hid (show Below w.heap.size w w5 from bel_acc ll5 (A4.out.bel hb) g8)
    have A5 := Lib.hid (show Acc w5 w.heap.size P5 c5 (h4 a ++ dig 4 a.q.toNat ++ dig 8 a.k.c.toNat ++ dig 4 a.k.m.toNat ++ dig 4 a.k.g.toNat) from a8)
    have B5 := Lib.hid ((B4.out.below hb).same (g8.block _ (B4.out.below hb).lt (fun e => acc_blk15 (A4.out.bel hb) (B4.out.below hb) (by decide) e.symm)))
    clear hacc hb r8 a8 g8 ll5 HDC y0 A4 B4 L4
    go_upto_region 9 with (at_builtin; refine step_append rfl rfl rfl rfl R8.out ?_)
    clear R8
    have W0 := Lib.hid (show Acc w5 w.heap.size P5 c5 (wr15 a 0) from by
      have := A5.out
      rw [hd15_h4] at this
      unfold wr15
      rw [List.take_zero, List.flatMap_nil, List.append_nil]
      exact this)
    clear A5
    go_wp2_with fail
    go_loopw [4, 5] (fun s t W => ∃ (p c9 m9 : Nat) (A9 : Option Addr), p ≤ 8 ∧ s = .slice A9 m9 c9 ∧ t = .int .i64 (p : Int) ∧ m9 = 24 + 8 * p ∧ Acc W w.heap.size A9 c9 (wr15 a p) ∧ Blk W w.heap.size 42 (adc a) ∧ Below w.heap.size w W) (fun s t W => 8 - (intOf t).toNat)
    case atStart => exact ⟨0, _, _, _, by omega, rfl, rfl, rfl, W0.out, B5.out, L5.out⟩
    case round =>
      clear W0 B5 L5
      obtain ⟨p, c9, m9, A9, hp, rfl, rfl, hm, ha, hb, hl⟩ := hrel
      have A8 := Lib.hid ha
      have B8 := Lib.hid hb
      have L8 := Lib.hid hl
      have M8 := Lib.hid hm
      clear ha hb hl hm
      by_cases hp8 : p < 8
      · have p1 : (p : Int) < 8 := by omega
        have HP8 := Lib.hid hp8
        have hlt := HLN.out p hp8
        have y0 : wr.cell? ⟨w.heap.size, 7 + p, none⟩ = some (.int .u64 ((a.f.getD p 0 : Nat) : Int)) := (B8.out.cell _).trans (adc_free _ hp8)
        have hsn := HSN.out p hp8
        obtain ⟨v, hv⟩ : ∃ v, a.f.getD p 0 = v := ⟨_, rfl⟩
        rw [hv] at y0 hlt hsn
        have HS := Lib.hid hsn
        have hdc : Calls Try.prog 55 #[.int .i64 8, .int .u64 (v : Int)] wr fun e w' => ∃ A c, e = .returned (.slice A 8 c) ∧ Acc w' wr.heap.size A c (dig 8 v) ∧ Below wr.heap.size wr w' := HDI.out 8 v wr (by omega) hlt
        have HDC := Lib.hid hdc
        clear hdc hlt hsn hv
        go_wp2_with fail
        ((with_reducible refine HDC.out.mono ?_))
        rintro e u9 ⟨D9, d9, rfl, hacc, hb⟩
        obtain ⟨A7, c7, w7, r8, a8, g8⟩ := app15 (k := m9 + 8) (A8.out.bel hb) (by rw [HWL.out p (by have := HP8.out; omega)]; exact M8.out.symm) hacc (dig_length _ _) rfl (Nat.le_trans L8.out.size hb.size) (by have := M8.out; omega)
        have R8 := Lib.hid r8
        have ll7 := L8.out.trans (hb.mono L8.out.size)
        have L7 := Lib.hid (show Below w.heap.size w w7 from bel_acc ll7 (A8.out.bel hb) g8)
        have A7' := Lib.hid (show Acc w7 w.heap.size A7 c7 (wr15 a (p + 1)) from by rw [HS.out]; exact a8)
        have B7 := Lib.hid ((B8.out.below hb).same (g8.block _ (B8.out.below hb).lt (fun e => acc_blk15 (A8.out.bel hb) (B8.out.below hb) (by decide) e.symm)))
        have M7 := Lib.hid (show m9 + 8 = 24 + 8 * (p + 1) by have := M8.out; omega)
        clear hacc hb r8 a8 g8 ll7 HDC y0 A8 B8 L8
        go_wp2_with (at_builtin; refine step_append rfl rfl rfl rfl R8.out ?_)
        go_roundw
        case rel => exact ⟨p + 1, c7, m9 + 8, A7, by have := HP8.out; omega, by first | rfl | (simp; omega), by first | rfl | (simp; omega), M7.out, A7'.out, B7.out, L7.out⟩
        case measure => have := HP8.out; simp [intOf]; omega
      · obtain rfl : p = 8 := by omega
        obtain rfl : m9 = 88 := M8.out
        clear hp hp8
        go_wp2_with fail
        go_ret
        exact ⟨A9, c9, rfl, by have := A8.out; rwa [HALL.out] at this, L8.out⟩

end Go.Proofs.Ytmfmjdkeoiebpaa
