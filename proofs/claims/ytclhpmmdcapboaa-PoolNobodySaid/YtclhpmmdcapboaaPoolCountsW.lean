/-
  The walk of the statement PoolCounts: for any bounds and any calls it answers true, and nothing that was there has turned. No condition.
-/
import Derived.Test.YtclhpmmdcapboaaPoolAlive
import Derived.Deep.CutRange
namespace Go.Proofs.Ytclhpmmdcapboaa
open Go.RowKit
set_option linter.unusedVariables false

theorem acci_at {w : World} {base c : Nat} {A : Option Addr} {l : List Int} (h : AccI w base A c l) (hi : 0 < l.length) : ∃ g, A = some ⟨g, 0, none⟩ ∧ base ≤ g ∧ ∀ (j : Nat) (x : Int), l[j]? = some x → w.cell? ⟨g, j, none⟩ = some (.int .i64 x) := by
  rcases h.2 with ⟨_, h0⟩ | ⟨g, cap, cur, hv, hg, hh, hnc, _, hcs, hx⟩
  · omega
  · have hA : A = some ⟨g, 0, none⟩ := by injection hv
    subst hA
    refine ⟨g, rfl, (AccR.ge h rfl).1, fun j x hjx => ?_⟩
    have := World.ownsRow.cells h (g := g) rfl j (.int .i64 x) (by rw [ei_flat, List.getElem?_map, hjx]; rfl)
    rwa [add_plain, Nat.zero_add] at this

theorem filter_len : ∀ {s : List Int} {x : Int}, s.Nodup → x ∈ s → (s.filter (fun y => !(y == x))).length + 1 = s.length
  | a :: s, x, hn, hx => by
    have hn' := List.nodup_cons.1 hn
    by_cases h : a = x
    · subst h
      have : s.filter (fun y => !(y == a)) = s := List.filter_eq_self.2 fun y hy => by
        have : y ≠ a := fun e => hn'.1 (e ▸ hy)
        simp [this]
      rw [List.filter_cons]
      simp [this]
    · have hx' : x ∈ s := by
        rcases List.mem_cons.1 hx with e | e
        · exact absurd e.symm h
        · exact e
      have := filter_len hn'.2 hx'
      rw [List.filter_cons]
      simp [h]
      omega

theorem rising_get : ∀ {s : List Int} {j k : Nat} {x y : Int}, Rising s → s[j]? = some x → s[k]? = some y → j < k → x < y
  | a :: s, 0, k + 1, x, y, h, hx, hy, _ => by
    simp at hx hy
    subst hx
    exact (List.pairwise_cons.1 h).1 y (List.mem_of_getElem? hy)
  | a :: s, j + 1, k + 1, x, y, h, hx, hy, hjk => by
    simp at hx hy
    exact rising_get (s := s) (List.pairwise_cons.1 h).2 hx hy (by omega)
  | _, _, 0, _, _, _, _, _, hjk => by omega
  | [], _, _, _, _, _, hx, _, _ => by simp at hx

/-- What stands behind each call. -/
def CutC (w : World) (pb mb : Nat) (low high : Int) (u : Value) (W : World) : Prop :=
  ∃ (bk next : Int) (s : List Int), u = .int .i64 bk ∧ Pool W pb mb low next high s ∧ (s.length : Int) + bk = next - low ∧ 0 ≤ bk ∧ Below w.heap.size w W

theorem counts_no (low high : Int) (a : Option Addr) (n c : Nat) (w : World) (hr : rightB low high = false) :
    Calls Try.prog 7 #[.int .i64 low, .int .i64 high, .slice a n c] w fun e w' => e = .returned (.bool true) ∧ Below w.heap.size w w' := by
  have hn : ¬ (16 ≤ low ∧ high ≤ 1048575 ∧ low ≤ high) := by simpa [rightB] using hr
  go_enter Try.func7, Try.ntmps7
  go_wp2_with fail
  ((with_reducible refine (alive_calls _).mono ?_))
  rintro e w1 ⟨rfl, b1⟩
  go_wp2_with fail
  ((with_reducible refine (new_no low high _ hn).mono ?_))
  rintro e w2 ⟨rfl, rfl⟩
  go_wp2_with fail
  ((with_reducible refine (right_calls low high _).mono ?_))
  rintro e w2 ⟨rfl, rfl⟩
  rw [hr]
  go_wp2
  go_ret
  exact ⟨rfl, b1⟩

set_option maxHeartbeats 3200000 in
set_option maxRecDepth 100000 in
theorem counts_yes (low high : Int) (a : Option Addr) (n c : Nat) (es : List (Bool × Bool × Int)) (w : World) (h : Acts w w.heap.size a n es) (hm : n ≤ maxLen) (h1 : 16 ≤ low) (h2 : high ≤ 1048575) (h3 : low ≤ high) :
    Calls Try.prog 7 #[.int .i64 low, .int .i64 high, .slice a n c] w fun e w' => e = .returned (.bool true) ∧ Below w.heap.size w w' := by
  unfold maxLen at hm
  have HA := Lib.hid h
  clear h
  go_enter Try.func7, Try.ntmps7
  go_wp2_with fail
  ((with_reducible refine (alive_calls _).mono ?_))
  rintro e w1 ⟨rfl, b1⟩
  have B1 := Lib.hid b1
  clear b1
  go_wp2_with fail
  ((with_reducible refine (new_yes low high _ h1 h2 h3).mono ?_))
  rintro e w2 ⟨pb, mb, rfl, hP, hpb, hmb, b2⟩
  have hS : ∀ k ∈ [pb, mb], w.heap.size ≤ k := by have := B1.out.size; simp; omega
  have HS := Lib.hid hS
  have B2 := Lib.hid (bel_more B1.out (Nat.le_refl _) b2)
  have HP := Lib.hid hP
  clear hP b2 hS
  go_wp2
  go_loopw [8, 9] (fun u v W => ∃ i : Nat, i ≤ 100 ∧ v = .int .i64 (i : Int) ∧ CutC w pb mb low high u W) (fun _ v _ => 100 - (intOf v).toNat)
  case atStart => exact ⟨0, by omega, rfl, 0, low, [], rfl, HP.out, by simp, by omega, B2.out⟩
  case round =>
    obtain ⟨i, hi, rfl, bk, next, s, rfl, hP, hcnt, hbk, hB⟩ := hrel
    have HP2 := Lib.hid hP
    have HB := Lib.hid hB
    have HA2 := Lib.hid (HA.out.below hB)
    obtain ⟨q1, q2, q3, q4⟩ := hP.2.2.1
    clear hP hB
    by_cases hlt : i < n ∧ i < 100
    · obtain ⟨hin, hi1⟩ := hlt
      obtain ⟨b, o, kb, fk, l, rfl, d0, d1, d2, hw, _⟩ := HA2.out.at hin
      go_upto_if 38 with fail
      go_cut [8] from 23 to 100 (fun u W => CutC w pb mb low high u W)
      case first =>
        cases kb
        · go_wp2_with fail
          ((with_reducible refine (take_calls HP2.out).mono ?_))
          rintro e w3 ⟨l3, er, nx, s3, rfl, hP3, hr, ht⟩
          have HP3 := Lib.hid hP3
          have HB3 := Lib.hid (Turn.bel HB.out (Nat.le_refl _) ht HS.out)
          have hc3 : (s3.length : Int) + bk = nx - low := by
            rcases hr with ⟨hle, rfl, rfl, rfl, rfl⟩ | ⟨hle, rfl, rfl, rfl, rfl⟩
            · simp; omega
            · omega
          clear hP3 ht d0 d1 d2 hr
          go_wp2
          go_meet
          exact ⟨bk, nx, s3, rfl, HP3.out, hc3, hbk, HB3.out⟩
        · go_wp2_with fail
          ((with_reducible refine (drop_calls HP2.out l hw).mono ?_))
          rintro e w3 ⟨er, s3, rfl, hP3, hr, ht⟩
          have HP3 := Lib.hid hP3
          have HB3 := Lib.hid (Turn.bel HB.out (Nat.le_refl _) ht HS.out)
          clear hP3 ht d0 d1 d2
          rcases hr with ⟨hm2, rfl, rfl⟩ | ⟨hm2, rfl, rfl⟩
          · have hc3 := filter_len HP2.out.2.1.1.nodup hm2
            have hsm := HP2.out.small
            go_wp2
            go_meet
            exact ⟨bk + 1, next, _, by first | rfl | (congr 1; go_num), HP3.out, by omega, by omega, HB3.out⟩
          · go_wp2
            go_meet
            exact ⟨bk, next, _, rfl, HP3.out, hcnt, hbk, HB3.out⟩
      case rest =>
        clear HP2 HB HA2 hcnt hbk q2 q3 d0 d1 d2
        obtain ⟨bk2, nx, s2, rfl, hP, hcnt, hbk2, hB⟩ := hcut
        have HP3 := Lib.hid hP
        have HB3 := Lib.hid hB
        obtain ⟨r1, r2, r3, r4⟩ := hP.2.2.1
        have hsm := hP.small
        clear hP hB
        go_wp2_with fail
        ((with_reducible refine (out_calls HP3.out).mono ?_))
        rintro e w4 ⟨A, c4, rfl, hA4, b4⟩
        have HP4 := Lib.hid (HP3.out.below b4)
        have HB4 := Lib.hid (bel_more HB3.out (Nat.le_refl _) b4)
        have A4 := Lib.hid hA4
        clear b4 hA4
        go_wp2_with fail
        ((with_reducible refine (left_calls_p HP4.out).mono ?_))
        rintro e w5 ⟨rfl, m5, rfl⟩
        have e0 : ((s2.length : Int) + bk2 + (high - nx + 1) != high - low + 1) = false := by simp; omega
        have HCN := Lib.hid hcnt
        have hbm : bk2 ≤ 1048576 := by omega
        clear hcnt
        go_wp2
        go_loopw [67] (fun t W => ∃ k : Nat, k ≤ s2.length ∧ t = .int .i64 (k : Int) ∧ ∃ m, W = w4.drewN m) (fun t _ => s2.length - (intOf t).toNat)
        case atStart => exact ⟨0, by omega, rfl, m5, rfl⟩
        case round =>
          obtain ⟨k, hk, rfl, m6, rfl⟩ := hrel
          by_cases hlt : k < s2.length
          · obtain ⟨g, rfl, _, hc⟩ := acci_at A4.out (by omega)
            obtain ⟨x, hx⟩ : ∃ x, s2[k]? = some x := ⟨s2[k], by simp [hlt]⟩
            have d1 := hc k x hx
            have hxm := HP4.out.2.2.2 x (List.mem_of_getElem? hx)
            have e1 : decide (x < low) = false := by simp; omega
            have e2 : decide (x > high) = false := by simp; omega
            have e2' : decide (high < x) = false := by simp; omega
            have hkI : (k : Int) < (s2.length : Int) := by omega
            by_cases k0 : k = 0
            · have e3 : decide ((k : Int) > 0) = false := by simp; omega
              have e3' : decide (0 < (k : Int)) = false := by simp; omega
              have e3'' : decide (0 < k) = false := by simp; omega
              have e3n : ¬ 0 < k := by omega
              have D1 := Lib.hid d1
              clear hc hx hxm k0 e0 d1
              go_wp2_with fail
              refine region_seq (fun W => W.cell? ⟨g, k, none⟩ = some (.int .i64 x)) [(0, true), (1, true), (2, true), (3, true), (4, true), (5, true), (6, true), (7, true), (8, true), (9, true), (10, true), (11, true), (12, true), (13, true), (14, true), (15, true), (16, true), (17, true), (18, true), (19, true), (20, true), (21, true), (22, true), (23, true), (24, true), (25, true), (26, true), (27, true), (28, true), (29, true)]
                (by kernel_rfl) (by kernel_rfl) (by kernel_rfl) (by kernel_rfl) (fun _ _ _ _ _ h => h) D1.out ?_
              repeat
                first
                | refine seq_skip rfl (by rfl) ?_
                | (refine seq_pure (v := ?_) rfl (by rfl) (fun W hW => ?_) ?_
                   rotate_left
                   · obtain d1 := hW
                     go_simp
                     try with_reducible rfl)
                simp only [Act.put, List.setIfInBounds_toArray, List.set_cons_zero, List.set_cons_succ]
              refine seq_done ?_
              go_wp2
              exact ⟨⟨k + 1, by omega, by go_num, m6 + 1, rfl⟩, by simp [intOf]; omega⟩
            · have e3 : decide ((k : Int) > 0) = true := by simp; omega
              have e3' : decide (0 < (k : Int)) = true := by simp; omega
              have e3'' : decide (0 < k) = true := by simp; omega
              have e3n : 0 < k := by omega
              obtain ⟨p, hp⟩ : ∃ p : Nat, k = p + 1 := ⟨k - 1, by omega⟩
              have hpl : p < s2.length := by omega
              have hpl2 : (p : Int) < (s2.length : Int) := by omega
              obtain ⟨y, hy⟩ : ∃ y, s2[p]? = some y := ⟨s2[p], by simp [hpl]⟩
              have D1 := Lib.hid (And.intro d1 (hc p y hy))
              have hwr : IntKind.i64.wrap ((k : Int) - 1) = (p : Int) := (IntWalk.i64_in _ (by omega)).trans (by omega)
              have hlt2 := rising_get HP4.out.2.1.1 hy hx (by omega)
              have e4 : decide (x ≤ y) = false := by simp; omega
              clear hc hx hy hxm k0 hlt2 hp e0 d1
              go_wp2_with fail
              refine region_seq (fun W => W.cell? ⟨g, k, none⟩ = some (.int .i64 x) ∧ W.cell? ⟨g, p, none⟩ = some (.int .i64 y)) [(0, true), (1, true), (2, true), (3, true), (4, true), (5, true), (6, true), (7, true), (8, true), (9, true), (10, true), (11, true), (12, true), (13, true), (14, true), (15, true), (16, true), (17, true), (18, true), (19, true), (20, true), (21, true), (22, true), (23, true), (24, true), (25, true), (26, true), (27, true), (28, true), (29, true)]
                (by kernel_rfl) (by kernel_rfl) (by kernel_rfl) (by kernel_rfl) (fun _ _ _ _ _ h => h) D1.out ?_
              repeat
                first
                | refine seq_skip rfl (by rfl) ?_
                | (refine seq_pure (v := ?_) rfl (by rfl) (fun W hW => ?_) ?_
                   rotate_left
                   · obtain ⟨d1, d2⟩ := hW
                     go_simp
                     try with_reducible rfl)
                simp only [Act.put, List.setIfInBounds_toArray, List.set_cons_zero, List.set_cons_succ]
              refine seq_done ?_
              go_wp2
              exact ⟨⟨k + 1, by omega, by go_num, m6 + 1, rfl⟩, by simp [intOf]; omega⟩
          · clear e0
            go_wp2
            go_roundw
            case rel => exact ⟨i + 1, by omega, by go_num, bk2, nx, s2, rfl, HP4.out.drewN _, HCN.out, hbk2, bel_drewN HB4.out _⟩
            case measure => simp [intOf]; omega
    · by_cases hin : i < n
      · have hi1 : ¬ i < 100 := fun h => hlt ⟨hin, h⟩
        clear hlt
        go_wp2
        go_ret
        exact ⟨rfl, HB.out⟩
      · clear hlt
        go_wp2
        go_ret
        exact ⟨rfl, HB.out⟩

theorem counts_walk (low high : Int) (a : Option Addr) (n c : Nat) (w : World) (h : n ≤ maxLen ∧ ∃ es, Acts w w.heap.size a n es) :
    Calls Try.prog 7 #[.int .i64 low, .int .i64 high, .slice a n c] w fun e w' => e = .returned (.bool true) ∧ Below w.heap.size w w' := by
  obtain ⟨hm, es, h⟩ := h
  cases hr : rightB low high
  · exact counts_no low high a n c w hr
  · obtain ⟨h1, h2, h3⟩ : 16 ≤ low ∧ high ≤ 1048575 ∧ low ≤ high := by simpa [rightB] using hr
    exact counts_yes low high a n c es w h hm h1 h2 h3
end Go.Proofs.Ytclhpmmdcapboaa
