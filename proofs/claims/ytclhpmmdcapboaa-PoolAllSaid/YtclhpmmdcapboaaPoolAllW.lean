/-
  The walk of the statement PoolAll: for any numbers it answers true, and nothing that was there has turned. No condition.
-/
import Derived.Test.YtclhpmmdcapboaaPoolCountsW
namespace Go.Proofs.Ytclhpmmdcapboaa
open Go.RowKit
set_option linter.unusedVariables false

theorem new_z (x y low high : Int) (w : World) (hx : x = low) (hy : y = high) (h1 : 16 ≤ low) (h2 : high ≤ 1048575) (h3 : low ≤ high) :
    Calls Try.prog 9 #[.int .i64 x, .int .i64 y] w (NewPost w low high) := by
  subst hx
  subst hy
  exact new_yes x y w h1 h2 h3

theorem wrapu_nonneg (x : Int) : 0 ≤ IntKind.u64.wrap x := by
  simp [IntKind.wrap, IntKind.signed, IntKind.bits]
  omega

theorem drop_filter {s : List Int} {k : Nat} {x : Int} (hr : Rising s) (hx : s[k]? = some x) : x ∈ s.drop k ∧ (s.drop k).filter (fun y => !(y == x)) = s.drop (k + 1) ∧ x ∉ s.drop (k + 1) := by
  have hk : k < s.length := by
    rcases Nat.lt_or_ge k s.length with h | h
    · exact h
    · rw [List.getElem?_eq_none h] at hx; cases hx
  have hxe : s[k] = x := by rw [List.getElem?_eq_getElem hk] at hx; injection hx
  have he : s.drop k = x :: s.drop (k + 1) := by rw [List.drop_eq_getElem_cons hk, hxe]
  have hn : (s.drop k).Nodup := hr.nodup.sublist (List.drop_sublist _ _)
  rw [he] at hn ⊢
  have hn' := List.nodup_cons.1 hn
  refine ⟨by simp, ?_, hn'.1⟩
  rw [List.filter_cons]
  simp
  intro y hy e
  exact hn'.1 (e ▸ hy)

theorem AccR.turn {α : Type} {enc : α → List Value} {k : Nat} {w w' : World} {base c : Nat} {T : TypeId} {A : Option Addr} {l : List α} {S : List Nat} (h : AccR enc k w base T A c l) (ht : Turn S w w') (hS : ∀ x ∈ S, x < base) : AccR enc k w' base T A c l := by
  obtain ⟨h1, h2⟩ := h
  refine ⟨h1, ?_⟩
  rcases h2 with h2 | ⟨g, cap, cur, hv, hg, hb, r⟩
  · exact .inl h2
  · have hgl : g < w.heap.size := (Array.getElem?_eq_some_iff.1 hb).1
    exact .inr ⟨g, cap, cur, hv, hg, (ht.block g hgl (fun hm => by have := hS g hm; omega)).trans hb, r⟩

set_option maxHeartbeats 3200000 in
set_option maxRecDepth 100000 in
theorem all_walk (low n keep : Int) (w : World) (hl : (Lit.int .i64 low).wf = true) (hn : (Lit.int .u8 n).wf = true) (hk : (Lit.int .u8 keep).wf = true) :
    Calls Try.prog 5 #[.int .i64 low, .int .u8 n, .int .u8 keep] w fun e w' => e = .returned (.bool true) ∧ Below w.heap.size w w' := by
  have ⟨n1, n2⟩ := wf_u8 hn
  have ⟨k1, k2⟩ := wf_u8 hk
  clear hl hn hk
  obtain ⟨R, hR⟩ : ∃ R, (IntKind.u64.wrap low).tmod 1000 = R := ⟨_, rfl⟩
  obtain ⟨hR1, hR2⟩ : 0 ≤ R ∧ R < 1000 := by
    rw [← hR, Int.tmod_eq_emod_of_nonneg (wrapu_nonneg low)]
    omega
  obtain ⟨L, hL⟩ : ∃ L, 16 + R = L := ⟨_, rfl⟩
  have hL1 : 16 ≤ L := by omega
  have hL2 : L ≤ 1015 := by omega
  obtain ⟨M, hM⟩ : ∃ M, n % 60 + 1 = M := ⟨_, rfl⟩
  have hM1 : 1 ≤ M := by omega
  have hM2 : M ≤ 60 := by omega
  obtain ⟨T, hT⟩ : ∃ T, L + M - 1 = T := ⟨_, rfl⟩
  obtain ⟨K, hK⟩ : ∃ K, keep % 4 + 1 = K := ⟨_, rfl⟩
  have hK1 : 1 ≤ K := by omega
  have hK2 : K ≤ 4 := by omega
  go_enter Try.func5, Try.ntmps5
  go_wp2_with fail
  ((with_reducible refine (alive_calls _).mono ?_))
  rintro e w1 ⟨rfl, b1⟩
  have B1 := Lib.hid b1
  clear b1
  go_wp2_with fail
  ((with_reducible refine (new_z _ _ L T _ rfl rfl hL1 (by omega) (by omega)).mono ?_))
  rintro e w2 ⟨pb, mb, rfl, hP, hpb, hmb, b2⟩
  have HT := Lib.hid hT
  have hS : ∀ k ∈ [pb, mb], w.heap.size ≤ k := by have := B1.out.size; simp; omega
  have HS := Lib.hid hS
  have B2 := Lib.hid (bel_more B1.out (Nat.le_refl _) b2)
  have HP := Lib.hid hP
  clear hP b2 hS hT hL hR hM
  go_wp2
  go_loopw [36] (fun t W => ∃ i : Nat, (i : Int) ≤ M ∧ t = .int .i64 (i : Int) ∧ ∃ s, Pool W pb mb L (L + (i : Int)) T s ∧ Below w.heap.size w W) (fun t _ => M.toNat - (intOf t).toNat)
  case atStart => exact ⟨0, by omega, rfl, [], by simpa using HP.out, B2.out⟩
  case round =>
    obtain ⟨i, hi, rfl, s, hP, hB⟩ := hrel
    have HP2 := Lib.hid hP
    have HB := Lib.hid hB
    clear hP hB
    by_cases hlt : (i : Int) < M
    · go_wp2_with fail
      ((with_reducible refine (take_calls HP2.out).mono ?_))
      rintro e w3 ⟨l3, er, nx, s3, rfl, hP3, hr, ht⟩
      have HB3 := Lib.hid (Turn.bel HB.out (Nat.le_refl _) ht HS.out)
      obtain ⟨rfl, rfl, rfl, rfl⟩ := hr.eq (by have := HT.out; omega)
      have HP3 := Lib.hid hP3
      clear hP3 hr ht
      go_wp2_with fail
      ((with_reducible refine (left_calls_p HP3.out).mono ?_))
      rintro e w4 ⟨rfl, m4, rfl⟩
      have e1 : T - (L + (i : Int) + 1) + 1 = M - 1 - (i : Int) := by have := HT.out; omega
      rw [e1]
      clear e1
      go_wp2_with fail
      · ((with_reducible refine (drop_calls (HP3.out.drewN m4) (L + (i : Int)) (WalkArith.wf_i64 (by omega))).mono ?_))
        rintro e w5 ⟨er, s5, rfl, hP5, hr, ht⟩
        obtain ⟨rfl, rfl⟩ := hr.eq (by simp)
        have HP5 := Lib.hid hP5
        have HB5 := Lib.hid (Turn.bel (bel_drewN HB3.out m4) (Nat.le_refl _) ht HS.out)
        clear hP5 hr ht
        go_wp2
        exact ⟨⟨i + 1, by omega, by go_num, _, by have := HP5.out; rwa [show L + (i : Int) + 1 = L + ((i + 1 : Nat) : Int) by omega] at this, HB5.out⟩, by simp [intOf]; omega⟩
      · exact ⟨⟨i + 1, by omega, by go_num, _, by have := HP3.out.drewN m4; rwa [show L + (i : Int) + 1 = L + ((i + 1 : Nat) : Int) by omega] at this, bel_drewN HB3.out m4⟩, by simp [intOf]; omega⟩
    · have hiM : (i : Int) = M := by omega
      have HP2' := Lib.hid (show Pool wr pb mb L (T + 1) T s by have := HP2.out; have h2 := HT.out; rwa [show L + (i : Int) = T + 1 by omega] at this)
      clear HP2
      go_wp2_with fail
      ((with_reducible refine (out_calls HP2'.out).mono ?_))
      rintro e w3 ⟨A, c3, rfl, hA3, b3⟩
      have HP3 := Lib.hid (HP2'.out.below b3)
      have HB3 := Lib.hid (bel_more HB.out (Nat.le_refl _) b3)
      have A3 := Lib.hid hA3
      have hlow : ∀ x ∈ [pb, mb], x < wr.heap.size := by have := HP2'.out.lt; simp; omega
      have HLO := Lib.hid hlow
      have hsm := HP2'.out.small
      have RS := Lib.hid HP2'.out.2.1.1
      have HIN := Lib.hid HP2'.out.2.2.2
      clear b3 hA3 hlow HP2' HB
      go_wp2
      go_loopw [79] (fun t W => ∃ k : Nat, k ≤ s.length ∧ t = .int .i64 (k : Int) ∧ Pool W pb mb L (T + 1) T (s.drop k) ∧ AccI W wr.heap.size A c3 s ∧ Below w.heap.size w W) (fun t _ => s.length - (intOf t).toNat)
      case atStart => exact ⟨0, by omega, rfl, HP3.out, A3.out, HB3.out⟩
      case round =>
        obtain ⟨k, hk, rfl, hP, hA, hB⟩ := hrel
        have HPk := Lib.hid hP
        have HAk := Lib.hid hA
        have HBk := Lib.hid hB
        clear hP hA hB A3 HP3 HB3
        by_cases hlt2 : k < s.length
        · obtain ⟨g, rfl, _, hc⟩ := acci_at HAk.out (by omega)
          obtain ⟨x, hx⟩ : ∃ x, s[k]? = some x := ⟨s[k], by simp [hlt2]⟩
          have d1 := hc k x hx
          have hxm := HIN.out x (List.mem_of_getElem? hx)
          obtain ⟨f1, f2, f3⟩ := drop_filter RS.out hx
          have F1 := Lib.hid f1
          have F2 := Lib.hid f2
          have F3 := Lib.hid f3
          have hTT := HT.out
          have hwx : (Lit.int .i64 x).wf = true := WalkArith.wf_i64 (by omega)
          clear hc hx hxm f1 f2 f3 hTT
          go_wp2_with fail
          ((with_reducible refine (drop_calls HPk.out x hwx).mono ?_))
          rintro e w5 ⟨er, s5, rfl, hP5, hr, ht⟩
          obtain ⟨rfl, rfl⟩ := hr.eq F1.out
          rw [F2.out] at hP5
          have HP5 := Lib.hid hP5
          have HB5 := Lib.hid (Turn.bel HBk.out (Nat.le_refl _) ht HS.out)
          have HA5 := Lib.hid (AccR.turn HAk.out ht HLO.out)
          clear hP5 hr ht d1
          go_wp2_with fail
          ((with_reducible refine (drop_calls HP5.out x hwx).mono ?_))
          rintro e w6 ⟨er, s6, rfl, hP6, hr, ht⟩
          obtain ⟨rfl, rfl⟩ := hr.none F3.out
          have HP6 := Lib.hid hP6
          have HB6 := Lib.hid (Turn.bel HB5.out (Nat.le_refl _) ht HS.out)
          have HA6 := Lib.hid (AccR.turn HA5.out ht HLO.out)
          clear hP6 hr ht
          go_wp2
          exact ⟨⟨k + 1, by omega, by go_num, HP6.out, HA6.out, HB6.out⟩, by simp [intOf]; omega⟩
        · have hd : s.drop k = [] := List.drop_eq_nil_of_le (by omega)
          rw [hd] at HPk
          clear hd
          go_wp2_with fail
          ((with_reducible refine (take_calls HPk.out).mono ?_))
          rintro e w5 ⟨l5, er, nx, s5, rfl, hP5, hr, ht⟩
          obtain ⟨rfl, rfl, rfl, rfl⟩ := hr.full (by omega)
          have HP5 := Lib.hid hP5
          have HB5 := Lib.hid (Turn.bel HBk.out (Nat.le_refl _) ht HS.out)
          clear hP5 hr ht
          go_wp2_with fail
          ((with_reducible refine (out_calls HP5.out).mono ?_))
          rintro e w6 ⟨A6, c6, rfl, _, b6⟩
          have HP6 := Lib.hid (HP5.out.below b6)
          have HB6 := Lib.hid (bel_more HB5.out (Nat.le_refl _) b6)
          clear b6
          go_wp2_with fail
          ((with_reducible refine (left_calls_p HP6.out).mono ?_))
          rintro e w7 ⟨rfl, m7, rfl⟩
          have e7 : T - (T + 1) + 1 = 0 := by omega
          rw [e7]
          go_wp2
          go_ret
          exact ⟨rfl, bel_drewN HB6.out _⟩
end Go.Proofs.Ytclhpmmdcapboaa
