/-
  The document's Reach. Condition: at most 2^30 links.
-/
import Derived.Test.YtkagfgnjfdlicaaGraphJ
import Derived.Test.YtkagfgnjfdlicaaGraphS
namespace Go.Proofs.Ytkagfgnjfdlicaa
set_option maxRecDepth 100000
open Go.RowKit

theorem count_setT : ∀ (bs : List Bool) (k : Nat), k < bs.length → bs.getD k false = false → (bs.set k true).count true = bs.count true + 1
  | [], k, hk, _ => by simp at hk
  | b :: bs, 0, _, h => by
    have : b = false := by simpa using h
    subst this
    simp
  | b :: bs, k + 1, hk, h => by
    have ih := count_setT bs k (by simpa using hk) (by simpa using h)
    rw [List.set_cons_succ, List.count_cons, List.count_cons]
    omega
/-- From each marked node all links lead to marked ones. -/
def Clo (L : List Lk) (bs : List Bool) : Prop := ∀ z ∈ L, bat bs z.f = true → bat bs z.t = true
/-- What is marked can be come to; the first one is marked. -/
structure Mrk (n : Nat) (L : List Lk) (a : Int) (bs : List Bool) : Prop where
  len : bs.length = n
  start : bat bs a = true
  sound : ∀ x : Int, 0 ≤ x → x < n → bat bs x = true → Rch L a x
theorem Mrk.done {n : Nat} {L : List Lk} {a : Int} {bs : List Bool} (h : Mrk n L a bs) (hc : Clo L bs) (x : Int) (h0 : 0 ≤ x) (h1 : x < n) : bat bs x = true ↔ Rch L a x := by
  refine ⟨h.sound x h0 h1, fun hr => ?_⟩
  clear h0 h1
  induction hr with
  | refl => exact h.start
  | step _ hx ih => exact hc _ hx ih
/-- Within a round that began with bs0: nothing is new, and the first links lead to marked ones; or more are marked. -/
structure Rnd (L : List Lk) (bs0 bs : List Bool) (i : Nat) : Prop where
  or : (bs = bs0 ∧ ∀ j (hj : j < L.length), j < i → bat bs L[j].f = true → bat bs L[j].t = true) ∨ bs0.count true < bs.count true
  calm : Clo L bs0 → bs = bs0
theorem bat_setT {n : Nat} {L : List Lk} {bs : List Bool} (hl : bs.length = n) (hE : EndsIn n L) {z : Lk} (hz : z ∈ L) (x : Int) (h0 : 0 ≤ x) : bat (bs.set z.t.toNat true) x = (if x = z.t then true else bat bs x) := by
  have he := hE z hz
  have := bat_set (bs := bs) (k := z.t.toNat) (by omega) x h0
  rw [this, show ((z.t.toNat : Nat) : Int) = z.t by omega]
theorem Mrk.mark {n : Nat} {L : List Lk} {a : Int} {bs : List Bool} (h : Mrk n L a bs) (ha : 0 ≤ a) (hE : EndsIn n L) {z : Lk} (hz : z ∈ L) (hf : bat bs z.f = true) : Mrk n L a (bs.set z.t.toNat true) := by
  have he := hE z hz
  refine ⟨by rw [List.length_set]; exact h.len, by rw [bat_setT h.len hE hz a ha]; split; rfl; exact h.start, fun x h0 h1 hb => ?_⟩
  rw [bat_setT h.len hE hz x h0] at hb
  by_cases hxt : x = z.t
  · rw [hxt]; exact (h.sound z.f he.1 he.2.1 hf).step hz
  · rw [if_neg hxt] at hb; exact h.sound x h0 h1 hb
theorem set_same {bs : List Bool} {k : Nat} (h : bs.getD k false = true) : bs.set k true = bs := by
  apply List.ext_getElem?
  intro j
  rw [List.getElem?_set]
  by_cases hj : k = j
  · subst hj
    rw [if_pos rfl]
    rcases Nat.lt_or_ge k bs.length with hk | hk
    · rw [if_pos hk, List.getElem?_eq_getElem hk]
      rw [List.getD_eq_getElem?_getD, List.getElem?_eq_getElem hk] at h
      simpa using h.symm
    · rw [List.getD_eq_getElem?_getD, List.getElem?_eq_none hk] at h
      cases h
  · rw [if_neg hj]
theorem Rnd.mark {n : Nat} {L : List Lk} {bs0 bs : List Bool} {i : Nat} (h : Rnd L bs0 bs i) (hl : bs.length = n) (hE : EndsIn n L) (hi : i < L.length) (hf : bat bs L[i].f = true) : Rnd L bs0 (bs.set L[i].t.toNat true) (i + 1) := by
  have he := hE L[i] (List.getElem_mem hi)
  by_cases hb : bat bs L[i].t = true
  · rw [set_same (show bs.getD L[i].t.toNat false = true from hb)]
    refine ⟨?_, h.calm⟩
    rcases h.or with ⟨h1, h2⟩ | h1
    · refine .inl ⟨h1, fun j hj hlt hjf => ?_⟩
      by_cases hji : j < i
      · exact h2 j hj hji hjf
      · obtain rfl : j = i := by omega
        exact hb
    · exact .inr h1
  · have hb2 : bs.getD L[i].t.toNat false = false := by
      have : bat bs L[i].t = bs.getD L[i].t.toNat false := rfl
      rw [← this]; simpa using hb
    have hc := count_setT bs L[i].t.toNat (by omega) hb2
    refine ⟨?_, fun hcl => ?_⟩
    · rcases h.or with ⟨h1, _⟩ | h1
      · subst h1; exact .inr (by omega)
      · exact .inr (by omega)
    · have h1 := h.calm hcl
      subst h1
      exact absurd (hcl _ (List.getElem_mem hi) hf) hb
theorem Rnd.skip {L : List Lk} {bs0 bs : List Bool} {i : Nat} (h : Rnd L bs0 bs i) (hi : i < L.length) (hf : bat bs L[i].f = false) : Rnd L bs0 bs (i + 1) := by
  refine ⟨?_, h.calm⟩
  rcases h.or with ⟨h1, h2⟩ | h1
  · refine .inl ⟨h1, fun j hj hlt hjf => ?_⟩
    by_cases hji : j < i
    · exact h2 j hj hji hjf
    · obtain rfl : j = i := by omega
      rw [hf] at hjf; cases hjf
  · exact .inr h1
theorem Rnd.next {L : List Lk} {bs0 bs : List Bool} {k : Nat} (h : Rnd L bs0 bs L.length) (hq : Clo L bs0 ∨ k + 1 ≤ bs0.count true) : Clo L bs ∨ k + 1 + 1 ≤ bs.count true := by
  rcases h.or with ⟨h1, h2⟩ | h1
  · refine .inl fun z hz hf => ?_
    obtain ⟨j, hj, rfl⟩ := List.mem_iff_getElem.1 hz
    exact h2 j hj hj hf
  · rcases hq with hq | hq
    · have := h.calm hq
      subst this
      omega
    · exact .inr (by omega)

set_option maxRecDepth 100000 in
set_option maxHeartbeats 3200000 in
theorem rreach_calls (n a : Int) (p : Option Addr) (m c : Nat) (L : List Lk) (w : World) (h : Row lkc w w.heap.size p m L) (hm : m ≤ 1073741824) :
    Calls Try.prog 19 #[.int .i64 n, .slice p m c, .int .i64 a] w (RchPost w n L a) := by
  have hck := rcheck_calls n p m c L w h hm
  by_cases hz : chk n L = 0
  case neg =>
    have hzb : (chk n L != 0) = true := by simp [hz]
    have HZ := Lib.hid hz
    clear hz h
    go_enter Try.func19, Try.ntmps19
    go_wp2_with fail
    ((with_reducible refine hck.mono ?_))
    rintro e w1 ⟨rfl, b1⟩
    go_wp2_with fail
    all_goals
      go_ret
      exact ⟨b1, .inl ⟨fun hc => HZ.out hc.1, rfl⟩⟩
  obtain ⟨z1, z2, z3, z4⟩ := chk_zero hz
  have hzb : (chk n L != 0) = false := by simp [hz]
  by_cases ha0 : a < 0
  · have HZ := Lib.hid (show ¬ (0 ≤ a ∧ a < n) by omega)
    clear hz h z4
    go_enter Try.func19, Try.ntmps19
    go_wp2_with fail
    ((with_reducible refine hck.mono ?_))
    rintro e w1 ⟨rfl, b1⟩
    go_wp2_with fail
    all_goals
      go_ret
      exact ⟨b1, .inl ⟨fun hc => HZ.out hc.2, rfl⟩⟩
  by_cases ha1 : n ≤ a
  · have HZ := Lib.hid (show ¬ (0 ≤ a ∧ a < n) by omega)
    clear hz h z4
    go_enter Try.func19, Try.ntmps19
    go_wp2_with fail
    ((with_reducible refine hck.mono ?_))
    rintro e w1 ⟨rfl, b1⟩
    go_wp2_with fail
    all_goals
      go_ret
      exact ⟨b1, .inl ⟨fun hc => HZ.out hc.2, rfl⟩⟩
  obtain ⟨N, rfl⟩ : ∃ N : Nat, n = (N : Int) := ⟨n.toNat, by omega⟩
  have hE := net_ends z4
  have HE := Lib.hid hE
  have HZ := Lib.hid hz
  have HA := Lib.hid (show 0 ≤ a ∧ a < (N : Int) by omega)
  have HR := Lib.hid h
  have HLN := Lib.hid h.1
  have hmk := make_bools N (by omega)
  have hN16 : N ≤ 16 := by omega
  have HS := Lib.hid (Srch.begin (L := L) HA.out hE)
  have hm64 : m ≤ 64 := by have := h.1; omega
  obtain ⟨k0, hk0⟩ : ∃ k : Nat, a = (k : Int) := ⟨a.toNat, by omega⟩
  subst hk0
  have hk1 : k0 < N := by omega
  have hk2 : (k0 : Int) < (N : Int) := by omega
  clear hz h z4 hE
  go_enter Try.func19, Try.ntmps19
  go_wp2_with fail
  ((with_reducible refine hck.mono ?_))
  rintro e w2 ⟨rfl, b1⟩
  have HB1 := Lib.hid b1
  clear b1 hck
  go_upto_region 4 with fail
  obtain ⟨rb, hrb⟩ : ∃ rb, rb = w2.heap.size := ⟨_, rfl⟩
  have M0 := Lib.hid (show Mks (w2.alloc (.cells (Array.replicate N (Value.bool false)) 4)) rb (List.replicate N false) by
    have e : Array.replicate N (Value.bool false) = ((List.replicate N false).map Value.bool).toArray := by simp
    rw [hrb, e]; exact Blk.new w2 _ _)
  have B0 := Lib.hid (bel_alloc HB1.out (Nat.le_refl _) (.cells (Array.replicate N (Value.bool false)) 4))
  have hwrb : w.heap.size ≤ rb := by have := HB1.out.size; omega
  rw [← hrb]
  clear hrb hmk
  generalize hw3 : w2.alloc (.cells (Array.replicate N (Value.bool false)) 4) = w3 at *
  clear hw3
  have cc := M0.out.cell (k0 : Int) (by omega) (by simp; omega)
  rw [Int.toNat_natCast] at cc
  have ff := Blk.free M0.out k0
  go_upto_region 5 with fail
  have M1 := Lib.hid (M0.out.set k0)
  have B1 := Lib.hid (bel_upd B0.out (upd_set_p w3 rb k0 (.bool true)) (Nat.le_refl _) hwrb)
  clear cc ff
  generalize hw4 : w3.setCell ⟨rb, k0, none⟩ (.bool true) = w4 at *
  clear hw4
  have S2 := HS.out
  rw [Int.toNat_natCast] at S2
  have K2 := Lib.hid (show Mrk N L (k0 : Int) ((List.replicate N false).set k0 true) from ⟨S2.len, S2.start, S2.sound⟩)
  have C2 := Lib.hid (show 0 + 1 ≤ ((List.replicate N false).set k0 true).count true by
    have := count_setT (List.replicate N false) k0 (by simpa using hk1) (by rw [List.getD_eq_getElem?_getD, List.getElem?_replicate]; split <;> rfl)
    omega)
  clear S2 HS
  go_wp2_with fail
  go_loopw [8] (fun t wr => ∃ (k : Nat) (bs : List Bool), k ≤ N ∧ t = .int .i64 (k : Int) ∧ Mks wr rb bs ∧ Mrk N L (k0 : Int) bs ∧ (Clo L bs ∨ k + 1 ≤ bs.count true) ∧ Below w.heap.size w wr) (fun t wr => N - (intOf t).toNat)
  case atStart => exact ⟨0, _, Nat.zero_le _, rfl, M1.out, K2.out, .inr C2.out, B1.out⟩
  case round =>
    obtain ⟨k, bs0, hkN, rfl, hM, hK, hC, hB⟩ := hrel
    clear M1 B1 K2 C2 M0 B0
    have HM := Lib.hid hM
    have HK := Lib.hid hK
    have HC := Lib.hid hC
    have HB := Lib.hid hB
    clear hM hK hC hB
    by_cases hlt : k < N
    · go_wp2_with fail
      go_loopw [9] (fun t wr => ∃ (i : Nat) (bs : List Bool), i ≤ m ∧ t = .int .i64 (i : Int) ∧ Mks wr rb bs ∧ Mrk N L (k0 : Int) bs ∧ Rnd L bs0 bs i ∧ Below w.heap.size w wr) (fun t wr => m - (intOf t).toNat)
      case atStart => exact ⟨0, bs0, Nat.zero_le _, rfl, HM.out, HK.out, ⟨.inl ⟨rfl, fun j _ hj => by omega⟩, fun _ => rfl⟩, HB.out⟩
      case round =>
        obtain ⟨i, bs, hi, rfl, hM, hK, hR, hB⟩ := hrel
        clear HM HK HB
        have HM := Lib.hid hM
        have HK := Lib.hid hK
        have HRD := Lib.hid hR
        have HB := Lib.hid hB
        clear hM hK hR hB
        by_cases hlt2 : i < m
        · have hRw : Row lkc wr w.heap.size p m L := HR.out.below HB.out
          obtain ⟨b7, o7, rfl, hb7, hc7⟩ := row_link hRw (by omega)
          have hil : i < L.length := by have := HLN.out; omega
          have hat := link_cells (hc7 i hil)
          have hze := HE.out _ (List.getElem_mem hil)
          have hbl := HK.out.len
          obtain ⟨ff, hff⟩ : ∃ q : Nat, L[i].f = (q : Int) := ⟨L[i].f.toNat, by omega⟩
          obtain ⟨tt, htt⟩ : ∃ q : Nat, L[i].t = (q : Int) := ⟨L[i].t.toNat, by omega⟩
          have d1 := hat.1
          have d2 := hat.2.1
          rw [hff] at d1
          rw [htt] at d2
          have d3 := HM.out.cell (ff : Int) (by omega) (by omega)
          have d4 := HM.out.cell (tt : Int) (by omega) (by omega)
          rw [Int.toNat_natCast] at d3 d4
          have f4 := Blk.free HM.out tt
          have hfn : ff < N := by omega
          have htn : tt < N := by omega
          have hfn2 : (ff : Int) < (N : Int) := by omega
          have htn2 : (tt : Int) < (N : Int) := by omega
          have HFT := Lib.hid (And.intro hff htt)
          clear hRw hc7 hat hze hff htt
          cases hbf : bat bs (ff : Int) with
          | false =>
            have R2 := Lib.hid (HRD.out.skip hil (by rw [HFT.out.1]; exact hbf))
            rw [hbf] at d3
            clear hbf
            go_wp2_with fail
            go_roundw
            case rel => exact ⟨i + 1, bs, by omega, rfl, HM.out, HK.out, R2.out, HB.out⟩
            case measure => simp [intOf]; omega
          | true =>
            have hbf2 : bat bs L[i].f = true := by rw [HFT.out.1]; exact hbf
            have R2 := HRD.out.mark hbl HE.out hil hbf2
            have K2 := HK.out.mark (by omega) HE.out (List.getElem_mem hil) hbf2
            rw [HFT.out.2, Int.toNat_natCast] at R2 K2
            have R3 := Lib.hid R2
            have K3 := Lib.hid K2
            have M3 := Lib.hid (HM.out.set tt)
            have B3 := Lib.hid (bel_upd HB.out (upd_set_p wr rb tt (.bool true)) (Nat.le_refl _) hwrb)
            rw [hbf] at d3
            clear hbf hbf2 R2 K2
            go_wp2_with fail
            go_roundw
            case rel => exact ⟨i + 1, bs.set tt true, by omega, rfl, M3.out, K3.out, R3.out, B3.out⟩
            case measure => simp [intOf]; omega
        · have hiL : i = L.length := by have := HLN.out; omega
          have N2 := Lib.hid (show Clo L bs ∨ k + 1 + 1 ≤ bs.count true from (show Rnd L bs0 bs L.length by rw [← hiL]; exact HRD.out).next HC.out)
          clear hiL
          go_wp2_with fail
          go_roundw
          case rel => exact ⟨k + 1, bs, by omega, rfl, HM.out, HK.out, N2.out, HB.out⟩
          case measure => simp [intOf]; omega
    · have hcl : Clo L bs0 := by
        rcases HC.out with h1 | h1
        · exact h1
        · have h2 := HK.out.len
          have h3 : bs0.count true ≤ bs0.length := List.count_le_length
          omega
      have HCL := Lib.hid hcl
      have hln := HK.out.len
      clear hcl
      go_wp2_with fail
      go_ret
      exact ⟨HB.out, .inr ⟨HZ.out, HA.out.1, HA.out.2, rb, bs0, by rw [hln]; rfl, hwrb, HM.out, by rw [hln], fun x h0 h1 => HK.out.done HCL.out x h0 h1⟩⟩
end Go.Proofs.Ytkagfgnjfdlicaa
