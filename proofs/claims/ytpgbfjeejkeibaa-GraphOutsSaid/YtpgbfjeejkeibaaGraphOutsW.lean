/-
  The walk of the statement GraphOuts: for any links and any node it answers true, and nothing that was there has turned. No condition.
-/
import Derived.Test.YtpgbfjeejkeibaaGraphAlive
namespace Go.Proofs.Ytpgbfjeejkeibaa
open Go.RowKit

set_option maxRecDepth 100000 in
set_option maxHeartbeats 3200000 in
theorem outs_walk (p : Option Addr) (n c : Nat) (node : Int) (w : World) (h : n ≤ c ∧ c ≤ maxLen ∧ ∃ L, Row lkc w w.heap.size p n L) :
    Calls Try.prog 8 #[.slice p n c, .int .i64 node] w fun e w' => e = .returned (.bool true) ∧ Below w.heap.size w w' := by
  obtain ⟨_, hcm, L, hR⟩ := h
  have HR := Lib.hid hR
  have HL := Lib.hid hR.1
  have hb63 : n ≤ 9223372036854775807 := by simp only [maxLen] at hcm; omega
  clear hR hcm
  go_enter Try.func8, Try.ntmps8
  go_wp2_with fail
  ((with_reducible refine (alive9_calls w).mono ?_))
  rintro e w1 ⟨rfl, b1⟩
  have B1 := Lib.hid b1
  clear b1
  by_cases hn : 200 < n
  · have hn2 : (200 : Int) < (n : Int) := by omega
    go_wp2_with fail
    go_ret
    exact ⟨rfl, B1.out⟩
  have hn2 : ¬ (200 : Int) < (n : Int) := by omega
  go_wp2_with fail
  refine (outs_calls node p n c L w1 ((HR.out.below B1.out).more B1.out.size) (by omega)).mono ?_
  rintro e w2 ⟨ol, A, c2, rfl, a2, ho, b2⟩
  have B2 := Lib.hid (bel_more B1.out (Nat.le_refl _) b2)
  have A2 := Lib.hid (AccR.row a2)
  have HO := Lib.hid ho
  have hlo := ho.len
  have HLO := Lib.hid hlo
  have hgl := gat_len L node L.length
  have hol : ol.length ≤ 200 := by have := HL.out; omega
  clear a2 ho b2 hlo hn2 hgl
  go_wp2_with fail
  go_loopw [6, 21] (fun s t wr => ∃ i : Nat, i ≤ n ∧ t = .int .i64 (i : Int) ∧ s = .int .i64 (((gat L node i).length : Nat) : Int) ∧ Below w2.heap.size w2 wr) (fun s t wr => n - (intOf t).toNat)
  case atStart => exact ⟨0, Nat.zero_le _, rfl, rfl, Below.refl _ _⟩
  case round =>
    obtain ⟨i, hi, rfl, rfl, hB⟩ := hrel
    have HB := Lib.hid hB
    clear hB
    have hgi := gat_len L node i
    have HRr := Lib.hid ((HR.out.below B2.out).more B2.out.size)
    by_cases hlt : i < n
    · obtain ⟨b, o, rfl, hbw, hcell⟩ := row_link HRr.out (by omega)
      have hil : i < L.length := by have := HL.out; omega
      have hat2 : wr.rangeAt b (o + i * 5) (lkc L[i]) := fun j v hv => (World.cell?_of_block (w := w2) (HB.out.block b hbw)).trans (hcell i hil j v hv)
      have hx : L[i] = L.getD i default := by simp [List.getD_eq_getElem?_getD, List.getElem?_eq_getElem hil]
      rw [hx] at hat2
      have hg := gat_succ L node i
      generalize hxx : L.getD i default = x at *
      obtain ⟨d0, d1, d2, d3, d4⟩ := link_cells hat2
      have B5 := Lib.hid (bel_alloc HB.out (Nat.le_refl _) (.cells (lkc x).toArray 50))
      unfold lkc at B5
      clear hcell hat2 hx hxx
      by_cases hf : x.f = node
      · have hfb : (x.f == node) = true := by simp [hf]
        rw [hfb, if_pos rfl] at hg
        have HG := Lib.hid (show (gat L node (i + 1)).length = (gat L node i).length + 1 by rw [hg]; simp)
        clear hg hf
        generalize (gat L node i).length = gl at *
        go_wp2_with fail
        go_roundw
        case rel => exact ⟨i + 1, by omega, rfl, by rw [HG.out]; rfl, B5.out⟩
        case measure => simp [intOf]; omega
      · have hfb : (x.f == node) = false := by simp [hf]
        rw [hfb, if_neg (by simp), List.append_nil] at hg
        have HG := Lib.hid hg
        clear hg hf
        go_wp2_with fail
        go_roundw
        case rel => exact ⟨i + 1, by omega, rfl, by rw [HG.out], B5.out⟩
        case measure => simp [intOf]; omega
    · obtain rfl : i = L.length := by have := HL.out; omega
      have hln : L.length = n := HL.out
      have hee : (((ol.length : Nat) : Int) != (((gat L node L.length).length : Nat) : Int)) = false := by rw [HLO.out]; simp
      clear hgi hi hlt
      generalize (gat L node L.length).length = gl at *
      have A3 := Lib.hid (A2.out.below HB.out)
      have B3 := Lib.hid (bel_more B2.out (Nat.le_refl _) HB.out)
      have R3 := Lib.hid (HRr.out.below HB.out)
      clear HB
      go_wp2_with fail
      clear hee
      go_loopw [38] (fun t wq => ∃ i : Nat, i ≤ ol.length ∧ t = .int .i64 (i : Int) ∧ ∃ k, wq = wr.drewN k) (fun t wq => ol.length - (intOf t).toNat)
      case atStart => exact ⟨0, Nat.zero_le _, rfl, 0, rfl⟩
      case round =>
        obtain ⟨i, hi, rfl, k0, rfl⟩ := hrel
        by_cases hlt : i < ol.length
        · obtain ⟨b6, o6, rfl, hb6, hc6⟩ := row_int A3.out (by omega)
          obtain ⟨kk, hkL, hkf, hke⟩ := (HO.out.mem ol[i]).1 (List.getElem_mem hlt)
          obtain ⟨b, o, rfl, hbw, hcell⟩ := row_link R3.out (by omega)
          have e1 := hc6 i hlt
          rw [hke] at e1
          have hxk : L[kk] = L.getD kk default := by simp [List.getD_eq_getElem?_getD, List.getElem?_eq_getElem hkL]
          have hk5 := link_cells (hcell kk hkL)
          rw [hxk, hkf] at hk5
          have hkn : kk < n := by omega
          have gk1 : (node != node) = false := by simp
          have gk2 : decide ((n : Int) ≤ (kk : Int)) = false := by simp; omega
          have gk3 : decide (n ≤ kk) = false := by simp; omega
          have gk4 : decide ((kk : Int) < 0) = false := by simp
          have hi63 : i < 9223372036854775807 := by omega
          have E1 := Lib.hid e1
          obtain ⟨x, hx⟩ : ∃ x, x = (L.getD kk default).t := ⟨_, rfl⟩
          have c0 := hk5.1
          have c1 := hk5.2.1
          rw [← hx] at c1
          clear hk5
          by_cases hip : 0 < i
          · obtain ⟨ip, hipe⟩ : ∃ k, i = k + 1 := ⟨i - 1, by omega⟩
            have hipl : ip < ol.length := by omega
            obtain ⟨jj, hjL, hjf, hje⟩ := (HO.out.mem ol[ip]).1 (List.getElem_mem hipl)
            have e2 := hc6 ip hipl
            rw [hje] at e2
            have hxj : L[jj] = L.getD jj default := by simp [List.getD_eq_getElem?_getD, List.getElem?_eq_getElem hjL]
            have c2 := (link_cells (hcell jj hjL)).2.1
            rw [hxj] at c2
            obtain ⟨y, hy⟩ : ∃ y, y = (L.getD jj default).t := ⟨_, rfl⟩
            rw [← hy] at c2
            have hord := List.pairwise_iff_getElem.1 HO.out.order ip i hipl hlt (by omega)
            rw [hje, hke] at hord
            unfold keyT at hord
            rw [Int.toNat_natCast, Int.toNat_natCast, ← hx, ← hy] at hord
            have hjn : jj < n := by omega
            have wq : IntKind.i64.wrap ((i : Int) - 1) = (ip : Int) := by rw [IntWalk.i64_in _ (by omega)]; omega
            have gi1 : decide ((0 : Int) < (i : Int)) = true := by simp; omega
            have gi2 : decide (0 < i) = true := by simp; omega
            have HC := Lib.hid (show wr.cell? ⟨b, o + kk * 5, none⟩ = some (.int .i64 node) ∧ wr.cell? ⟨b, o + kk * 5 + 1, none⟩ = some (.int .i64 x) ∧ (0 < i → wr.cell? ⟨b6, o6 + ip, none⟩ = some (.int .i64 (jj : Int)) ∧ wr.cell? ⟨b, o + jj * 5 + 1, none⟩ = some (.int .i64 y)) from ⟨c0, c1, fun _ => ⟨e2, c2⟩⟩)
            have hipn : ip < ol.length := hipl
            have hord2 : ¬ x < y := by omega
            have go1 : decide (x < y) = false := by simpa using hord2
            clear hc6 hcell hkf hke hjf hje hxk hxj hx hy c0 c1 c2 e1 e2 hipe
            have e1 := E1.out
            by_cases hxy : x = y
            · have go2 : (x == y) = true := by simp [hxy]
              have go3 : decide ((kk : Int) ≤ (jj : Int)) = false := by simp; omega
              have go4 : decide (kk ≤ jj) = false := by simp; omega
              clear hxy hord hord2
              go_wp2_with fail
              refine region_seq (fun W => W.cell? ⟨b, o + kk * 5, none⟩ = some (.int .i64 node) ∧ W.cell? ⟨b, o + kk * 5 + 1, none⟩ = some (.int .i64 x) ∧ (0 < i → W.cell? ⟨b6, o6 + ip, none⟩ = some (.int .i64 (jj : Int)) ∧ W.cell? ⟨b, o + jj * 5 + 1, none⟩ = some (.int .i64 y))) [(0, true), (1, true), (2, true), (3, true), (4, true), (5, true), (6, true), (7, true), (8, true), (9, true), (10, true), (11, true), (12, true), (13, true), (14, true), (15, true), (16, true), (17, true), (18, true), (19, true), (20, true), (21, true), (22, true), (23, true), (24, true), (25, true), (26, true), (27, true), (28, true), (29, true), (30, true), (31, true), (32, true), (33, true), (34, true), (35, true), (36, true), (37, true), (38, true), (39, true), (40, true), (41, true), (42, true), (43, true), (44, true), (45, true), (46, true), (47, true), (48, true), (49, true), (50, true), (51, true), (52, true), (53, true), (54, true), (55, true), (56, true), (57, true), (58, true), (59, true), (60, true), (61, true), (62, true), (63, true)]
                (by kernel_rfl) (by kernel_rfl) (by kernel_rfl) (by kernel_rfl) (fun _ _ _ _ _ h => h) HC.out ?_
              repeat
                first
                | (refine seq_skip rfl (by rfl) ?_)
                | (refine seq_pure (v := ?_) rfl (by rfl) (fun W hW => ?_) ?_
                   rotate_left
                   · have t1 := hW.1
                     have t2 := hW.2.1
                     have t3 := (hW.2.2 hip).1
                     have t4 := (hW.2.2 hip).2
                     clear hW
                     go_simp
                     try with_reducible rfl)
                simp only [Act.put, List.setIfInBounds_toArray, List.set_cons_zero, List.set_cons_succ]
              refine seq_done ?_
              go_wp2_with fail
              go_roundw
              case rel => exact ⟨i + 1, by omega, rfl, k0 + 1, rfl⟩
              case measure => simp [intOf]; omega
            · have go2 : (x == y) = false := by simp [hxy]
              clear hxy hord hord2
              go_wp2_with fail
              refine region_seq (fun W => W.cell? ⟨b, o + kk * 5, none⟩ = some (.int .i64 node) ∧ W.cell? ⟨b, o + kk * 5 + 1, none⟩ = some (.int .i64 x) ∧ (0 < i → W.cell? ⟨b6, o6 + ip, none⟩ = some (.int .i64 (jj : Int)) ∧ W.cell? ⟨b, o + jj * 5 + 1, none⟩ = some (.int .i64 y))) [(0, true), (1, true), (2, true), (3, true), (4, true), (5, true), (6, true), (7, true), (8, true), (9, true), (10, true), (11, true), (12, true), (13, true), (14, true), (15, true), (16, true), (17, true), (18, true), (19, true), (20, true), (21, true), (22, true), (23, true), (24, true), (25, true), (26, true), (27, true), (28, true), (29, true), (30, true), (31, true), (32, true), (33, true), (34, true), (35, true), (36, true), (37, true), (38, true), (39, true), (40, true), (41, true), (42, true), (43, true), (44, true), (45, true), (46, true), (47, true), (48, true), (49, true), (50, true), (51, true), (52, true), (53, true), (54, true), (55, true), (56, true), (57, true), (58, true), (59, true), (60, true), (61, true), (62, true), (63, true)]
                (by kernel_rfl) (by kernel_rfl) (by kernel_rfl) (by kernel_rfl) (fun _ _ _ _ _ h => h) HC.out ?_
              repeat
                first
                | (refine seq_skip rfl (by rfl) ?_)
                | (refine seq_pure (v := ?_) rfl (by rfl) (fun W hW => ?_) ?_
                   rotate_left
                   · have t1 := hW.1
                     have t2 := hW.2.1
                     have t3 := (hW.2.2 hip).1
                     have t4 := (hW.2.2 hip).2
                     clear hW
                     go_simp
                     try with_reducible rfl)
                simp only [Act.put, List.setIfInBounds_toArray, List.set_cons_zero, List.set_cons_succ]
              refine seq_done ?_
              go_wp2_with fail
              go_roundw
              case rel => exact ⟨i + 1, by omega, rfl, k0 + 1, rfl⟩
              case measure => simp [intOf]; omega
          · have gi1 : decide ((0 : Int) < (i : Int)) = false := by simp; omega
            have gi2 : decide (0 < i) = false := by simp; omega
            clear hip
            have HC := Lib.hid (show wr.cell? ⟨b, o + kk * 5, none⟩ = some (.int .i64 node) ∧ wr.cell? ⟨b, o + kk * 5 + 1, none⟩ = some (.int .i64 x) from ⟨c0, c1⟩)
            clear hc6 hcell hkf hke hxk hx c0 c1 e1
            have e1 := E1.out
            go_wp2_with fail
            refine region_seq (fun W => W.cell? ⟨b, o + kk * 5, none⟩ = some (.int .i64 node) ∧ W.cell? ⟨b, o + kk * 5 + 1, none⟩ = some (.int .i64 x)) [(0, true), (1, true), (2, true), (3, true), (4, true), (5, true), (6, true), (7, true), (8, true), (9, true), (10, true), (11, true), (12, true), (13, true), (14, true), (15, true), (16, true), (17, true), (18, true), (19, true), (20, true), (21, true), (22, true), (23, true), (24, true), (25, true), (26, true), (27, true), (28, true), (29, true), (30, true), (31, true), (32, true), (33, true), (34, true), (35, true), (36, true), (37, true), (38, true), (39, true), (40, true), (41, true), (42, true), (43, true), (44, true), (45, true), (46, true), (47, true), (48, true), (49, true), (50, true), (51, true), (52, true), (53, true), (54, true), (55, true), (56, true), (57, true), (58, true), (59, true), (60, true), (61, true), (62, true), (63, true)]
              (by kernel_rfl) (by kernel_rfl) (by kernel_rfl) (by kernel_rfl) (fun _ _ _ _ _ h => h) HC.out ?_
            repeat
              first
              | (refine seq_skip rfl (by rfl) ?_)
              | (refine seq_pure (v := ?_) rfl (by rfl) (fun W hW => ?_) ?_
                 rotate_left
                 · have t1 := hW.1
                   have t2 := hW.2
                   clear hW
                   go_simp
                   try with_reducible rfl)
              simp only [Act.put, List.setIfInBounds_toArray, List.set_cons_zero, List.set_cons_succ]
            refine seq_done ?_
            go_wp2_with fail
            go_roundw
            case rel => exact ⟨i + 1, by omega, rfl, k0 + 1, rfl⟩
            case measure => simp [intOf]; omega
        · go_wp2_with fail
          go_ret
          exact ⟨rfl, bel_drewN B3.out k0⟩
end Go.Proofs.Ytpgbfjeejkeibaa
