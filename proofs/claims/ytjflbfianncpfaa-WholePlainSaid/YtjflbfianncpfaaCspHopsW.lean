/-
  The law CspfHops, walked, under what the code must keep: for any case and any question the answer is true, and nothing that was there has turned. Condition: FindOk17; the arguments' numbers are as large as their types allow.
-/
import Derived.Test.YtjflbfianncpfaaCspB
import Derived.Test.YtjflbfianncpfaaPruOpen
import Derived.Test.YtjflbfianncpfaaSpfRB
namespace Go.Proofs.Ytjflbfianncpfaa
set_option maxRecDepth 100000
set_option linter.unusedVariables false
open Go.RowKit

theorem chk17 {n : Int} {L : List Lk} (h : chk n L = 0) : 1 ≤ n ∧ n ≤ 16 ∧ NetOk n L := by
  unfold chk at h
  split at h
  · split at h
    · omega
    · split at h
      · rename_i h1 h2 h3
        refine ⟨h1.1, h1.2, fun z hz => ?_⟩
        simp only [netB, Bool.and_eq_true, List.all_eq_true] at h3
        have := h3.1 z hz
        simp only [vld, gwn, Bool.and_eq_true, decide_eq_true_eq] at this
        omega
      · omega
  · omega
theorem lks_sub {l : List Ad} {a : Ak} {z : Lk} (h : z ∈ lks16 l a) : ∃ x ∈ l, fit16 a x = true ∧ x.k = z := by
  unfold lks16 at h
  obtain ⟨x, hx, rfl⟩ := List.mem_map.1 h
  obtain ⟨h1, h2⟩ := List.mem_filter.1 hx
  exact ⟨x, h1, h2, rfl⟩
theorem ok17_net {n H f t : Int} {l : List Ad} {a : Ak} (h : ok17 n l a H f t) : NetOk n (lks16 l a) ∧ n ≤ 16 := by
  have hc := chk17 h.1
  refine ⟨fun z hz => ?_, hc.2.1⟩
  obtain ⟨x, hx, _, rfl⟩ := lks_sub hz
  exact hc.2.2 _ (List.mem_map.2 ⟨x, hx, rfl⟩)
/-- What is found has two nodes at least, and sixteen at most. -/
theorem ok17_len {n H f t c : Int} {l : List Ad} {a : Ak} {r : List Int} (h : ok17 n l a H f t) (hw : Wy (lks16 l a) f t c r) : 2 ≤ r.length ∧ r.length ≤ 16 := by
  have hn := ok17_net h
  refine ⟨?_, by have := hw.short hn.1 h.2.1; have := hn.2; omega⟩
  cases hw with
  | one => exact absurd rfl h.2.2.2.1
  | ext z hw hz hf hnt =>
    have := hw.len
    simp only [List.length_append, List.length_singleton]
    omega
theorem ok17_hops {n H H' f t : Int} {l : List Ad} {a : Ak} (h : ok17 n l a H f t) (hh : 0 ≤ H') : ok17 n l a H' f t := ⟨h.1, h.2.1, h.2.2.1, h.2.2.2.1, h.2.2.2.2.1, hh⟩
theorem csp17_ok {ok : Prop} {L : List Lk} {H f t : Int} {r : List Int} {c : Int} (h : Csp17 ok L H f t r c 0) : ok ∧ Best17 L H f t c r := by
  by_cases hk : ok
  · rcases h.good hk with ⟨_, h2⟩ | ⟨h1, _⟩
    · exact ⟨hk, h2⟩
    · cases h1
  · have := (h.bad hk).2.2
    cases this
def zakh : List Value := #[.int .u64 0, .int .i64 0, .int .i64 0, .int .u32 0, .int .u32 0, .int .u32 0, .slice none 0 0, .slice none 0 0, .slice none 0 0, .int .i64 0].toList
/-- The same question, with so many links. -/
def plh (p : Pl) (h : Int) : Pl := ⟨p.a1, p.n1, p.c1, p.a2, p.n2, p.c2, p.a3, p.n3, p.c3, h⟩
set_option maxHeartbeats 12800000 in
theorem chops17_walk (hF : FindOk17) (n f t : Int) (b : Option Addr) (m c : Nat) (a : Ak) (p : Pl) (w : World) (hi : I15 n ∧ I15 f ∧ I15 t ∧ I15 p.h) (ho : ∃ l, Row adc w w.heap.size b m l ∧ ∀ x ∈ l, AdOk x ∧ I15 x.q) (hk : AkOk a ∧ AkRow w a p) :
    Calls Try.prog 7 #[.agg (csc n b m c f t).toArray, .agg (akc a.w p).toArray] w fun e w' => e = .returned (.bool true) ∧ Below w.heap.size w w' := by
  obtain ⟨l, hr, hx⟩ := ho
  have HX := Lib.hid (fun x h => (hx x h).1)
  have HAK := Lib.hid hk.1
  have HI := Lib.hid hi
  obtain ⟨b0, b1, bl⟩ := alloc2 w (csc n b m c f t) (akc a.w p) 24 33
  have HB := Lib.hid b0
  have HQ := Lib.hid b1
  have HL := Lib.hid bl
  have HR0 := Lib.hid hr
  have HAR0 := Lib.hid hk.2
  have HIA := Lib.hid (fun q => (show (Try.prog.info? 33).map (·.size) = some (akc a.w q).length from infoAkR))
  have HIA0 := Lib.hid (HIA.out p)
  have HIC := Lib.hid (show (Try.prog.info? 24).map (·.size) = some (csc n b m c f t).length from by kernel_rfl)
  have HFN := Lib.hid (fun (q : Pl) W (hq : AkIn W W.heap.size a q) (hr : Row adc W W.heap.size b m l) (hm : m ≤ 1073741824) (hh : I15 q.h) => find17_calls hF n f t b m c l a q W HX.out HAK.out hq hr hm HI.out.1 HI.out.2.1 HI.out.2.2.1 hh)
  have HAL := Lib.hid (fun W => alive17_calls hF W)
  unfold Fnd17 at HFN
  clear hx hr hk b0 b1 bl hi hF
  go_enter Try.func7, Try.ntmps7
  go_upto_region 1 with fail
  generalize ((w.alloc (.cells (csc n b m c f t).toArray 24)).alloc _) = w1 at *
  go_wp2_with fail
  ((with_reducible refine (HAL.out w1).mono ?_))
  rintro e w2 ⟨rfl, hb⟩
  have L2 := Lib.hid (HL.out.trans (hb.mono HL.out.size))
  have B2 := Lib.hid (HB.out.below hb)
  have Q2 := Lib.hid (HQ.out.below hb)
  clear hb HL HB HQ HAL
  have hsm := small16_calls b m c a.w p w2
  unfold Yes15 at hsm
  obtain ⟨sm, hs⟩ : ∃ sm, sml16 m p = sm := ⟨_, rfl⟩
  rw [hs] at hsm
  have HS := Lib.hid hs
  have HSM := Lib.hid hsm
  have x1 : w2.cell? ⟨w.heap.size, 1, none⟩ = some (.slice b m c) := B2.out.cell 1
  clear hs hsm
  go_wp2_with (refine step_load (o := ⟨some 19, _, _, _, _, _⟩) rfl rfl rfl Q2.out Try.underlying33 rfl HIA0.out ?_)
  ((with_reducible refine HSM.out.mono ?_))
  rintro e w3 ⟨rfl, hb⟩
  have L3 := Lib.hid (L2.out.trans (hb.mono L2.out.size))
  have B3 := Lib.hid (B2.out.below hb)
  have Q3 := Lib.hid (Q2.out.below hb)
  clear hb L2 B2 Q2 HSM x1
  cases sm with
  | false =>
    go_wp2_with fail
    go_ret
    exact ⟨rfl, L3.out⟩
  | true =>
  have HM1 := Lib.hid (show m ≤ 100 by have := HS.out; unfold sml16 at this; simp only [Bool.and_eq_true, decide_eq_true_eq] at this; exact this.1)
  have hfi := HFN.out p w3 ((HAR0.out.below L3.out).akin HS.out) ((HR0.out.below L3.out).more L3.out.size) (by have := HM1.out; omega) HI.out.2.2.2
  have HFI := Lib.hid hfi
  clear hfi
  go_wp2_with (first | refine step_load (o := ⟨some 23, _, _, _, _, _⟩) rfl rfl rfl B3.out Try.underlying24 rfl HIC.out ?_ | refine step_load (o := ⟨some 24, _, _, _, _, _⟩) rfl rfl rfl Q3.out Try.underlying33 rfl HIA0.out ?_)
  ((with_reducible refine HFI.out.mono ?_))
  rintro e w4 ⟨A4, c4, r, co, er, rfl, hac, hb, hcs⟩
  have L4 := Lib.hid (L3.out.trans (hb.mono L3.out.size))
  have B4 := Lib.hid (B3.out.below hb)
  have Q4 := Lib.hid (Q3.out.below hb)
  have G4 := Lib.hid (AccR.row hac)
  have HCS := Lib.hid hcs
  clear hb hac hcs HFI L3 B3 Q3
  by_cases he : er = 0
  case neg =>
    have q1 : (er != 0) = true := by simpa using he
    clear he
    go_wp2_with fail
    go_ret
    exact ⟨rfl, L4.out⟩
  subst he
  obtain ⟨hok, hbest⟩ := csp17_ok HCS.out
  have hln := ok17_len hok hbest.1.1
  have hH0 := hok.2.2.2.2.2
  obtain ⟨N, hN⟩ : ∃ N, r.length = N := ⟨_, rfl⟩
  have HOK := Lib.hid hok
  have HBE := Lib.hid hbest
  have HH0 := Lib.hid hH0
  have HN := Lib.hid hN
  have hN1 : 2 ≤ N := by rw [← hN]; exact hln.1
  have hN2 : N ≤ 16 := by rw [← hN]; exact hln.2
  have G4' := Lib.hid (show Row ei w4 w4.heap.size A4 N r from by rw [← hN]; exact G4.out)
  rw [hN]
  clear hok hbest hln hH0 hN HCS G4
  have hbz := bel_new (Below.refl w4.heap.size w4) (.cells #[.int .u64 0, .int .i64 0, .int .i64 0, .int .u32 0, .int .u32 0, .int .u32 0, .slice none 0 0, .slice none 0 0, .slice none 0 0, .int .i64 0] 33)
  have BZ := Lib.hid (show Blk (w4.alloc (.cells #[.int .u64 0, .int .i64 0, .int .i64 0, .int .u32 0, .int .u32 0, .int .u32 0, .slice none 0 0, .slice none 0 0, .slice none 0 0, .int .i64 0] 33)) w4.heap.size 33 zakh from Blk.new w4 _ zakh)
  have HBZ := Lib.hid hbz
  clear hbz
  go_upto_region 9 with (first | (refine step_load (o := ⟨some 31, _, _, _, _, _⟩) rfl rfl rfl Q4.out Try.underlying33 rfl HIA0.out ?_) | ((with_reducible refine step_store (o := ⟨none, _, _, _, _, _⟩) (vs := akc a.w p) (ty := 33) (x := .tmp 8) (y := .tmp 31) ?_ ?_ ?_ ?_ BZ.out HIA0.out rfl (akc_one _ _) ?_); (rfl); (rfl); (rfl); (rfl); intro w5 hb5 hg5 hs5))
  have hb : Below w4.heap.size w4 w5 := bel_upd HBZ.out hg5 (Nat.le_refl _) (Nat.le_refl _)
  have C5 := Lib.hid hb5
  have L5 := Lib.hid (L4.out.trans (hb.mono L4.out.size))
  have B5 := Lib.hid (B4.out.below hb)
  have G5 := Lib.hid (G4'.out.below hb)
  have HQL := Lib.hid (show w.heap.size < w4.heap.size ∧ w4.heap.size < w5.heap.size from ⟨B4.out.lt, C5.out.lt⟩)
  clear hb hb5 hg5 hs5 BZ HBZ L4 B4 Q4 G4'
  generalize w4.heap.size = qb at *
  have y9 : w5.cell? ⟨qb, 9, none⟩ = some (.int .i64 p.h) := C5.out.cell 9
  have f9 := C5.out.free 9
  have i1 : (2 : Int) ≤ (N : Int) := by omega
  have i2 : (N : Int) ≤ 16 := by omega
  go_upto_region 10 with fail
  clear y9 f9
  have C6 := Lib.hid (show Blk (w5.setCell ⟨qb, 9, none⟩ (.int .i64 ((N : Int) - 1))) qb 33 (akc a.w (plh p ((N : Int) - 1))) from C5.out.set 9 _)
  have B6 := Lib.hid (B5.out.other (p := ⟨qb, 9, none⟩) (by have := HQL.out.1; simp only; omega) (.int .i64 ((N : Int) - 1)))
  have L6 := Lib.hid (show Below w.heap.size w (w5.setCell ⟨qb, 9, none⟩ (.int .i64 ((N : Int) - 1))) from L5.out.setCell (p := ⟨qb, 9, none⟩) (Nat.le_of_lt HQL.out.1) _)
  have S6 := Lib.hid (show (w5.setCell ⟨qb, 9, none⟩ (.int .i64 ((N : Int) - 1))).heap.size = w5.heap.size by simp)
  have K6 := Lib.hid (show Below qb w5 (w5.setCell ⟨qb, 9, none⟩ (.int .i64 ((N : Int) - 1))) from (Below.refl qb w5).setCell (p := ⟨qb, 9, none⟩) (Nat.le_refl _) _)
  have GQ6 := Lib.hid (G5.out.below K6.out)
  have G6 := Lib.hid ((G5.out.below K6.out).more (show qb ≤ (w5.setCell ⟨qb, 9, none⟩ (.int .i64 ((N : Int) - 1))).heap.size by rw [S6.out]; exact Nat.le_of_lt HQL.out.2))
  clear C5 B5 L5 K6 G5 S6
  generalize w5.setCell ⟨qb, 9, none⟩ (.int .i64 ((N : Int) - 1)) = w6 at *
  have hfi := HFN.out (plh p ((N : Int) - 1)) w6 (show AkIn w6 w6.heap.size a (plh p ((N : Int) - 1)) from by
    have h := (HAR0.out.below L6.out).akin HS.out
    exact ⟨h.nn, h.nl, h.ow, h.b1, h.b2, h.b3⟩) ((HR0.out.below L6.out).more L6.out.size) (by have := HM1.out; omega) (show I15 ((N : Int) - 1) by unfold I15; omega)
  have HFI := Lib.hid hfi
  have HIB := Lib.hid (HIA.out (plh p ((N : Int) - 1)))
  clear hfi
  go_wp2_with (first | refine step_load (o := ⟨some 37, _, _, _, _, _⟩) rfl rfl rfl B6.out Try.underlying24 rfl HIC.out ?_ | refine step_load (o := ⟨some 38, _, _, _, _, _⟩) rfl rfl rfl C6.out Try.underlying33 rfl HIB.out ?_)
  ((with_reducible refine HFI.out.mono ?_))
  rintro e w7 ⟨A7, c7, r7, co7, er7, rfl, hac, hb, hcs⟩
  have hun := csp17_unique hcs ⟨fun h => absurd (ok17_hops HOK.out (show (0 : Int) ≤ (plh p ((N : Int) - 1)).h by show (0 : Int) ≤ (N : Int) - 1; omega)) h, fun _ => .inl ⟨rfl, show Best17 (lks16 l a) ((N : Int) - 1) f t co r from by
    have := best17_again HBE.out (by have := HN.out; omega) HH0.out
    rwa [HN.out] at this⟩⟩
  obtain ⟨rfl, rfl, rfl⟩ := hun
  rw [HN.out]
  have L7 := Lib.hid (L6.out.trans (hb.mono L6.out.size))
  have B7 := Lib.hid (B6.out.below hb)
  have C7 := Lib.hid (C6.out.below hb)
  have G7 := Lib.hid ((G6.out.below hb).more hb.size)
  have GQ7 := Lib.hid (GQ6.out.below (hb.mono (Nat.le_of_lt C6.out.lt)))
  have K7 := Lib.hid (show Row ei w7 w7.heap.size A7 N r7 from by have := AccR.row hac; rwa [HN.out] at this)
  clear hb hac hcs HFI L6 B6 C6 G6 GQ6
  have hI := sameints_calls A4 A7 N N c4 c7 _ _ r7 r7 w7 G7.out K7.out (by omega) (by omega)
  rw [decide_eq_true rfl] at hI
  have HII := Lib.hid hI
  have q0 : (co7 != co7) = false := by simp
  clear hI
  go_wp2_with fail
  ((with_reducible refine HII.out.mono ?_))
  rintro e w8 ⟨rfl, j, rfl⟩
  have L8 := Lib.hid (bel_drewN L7.out j)
  have B8 := Lib.hid (B7.out.drewN j)
  have C8 := Lib.hid (C7.out.drewN j)
  have GQ8 := Lib.hid (GQ7.out.drewN j)
  have G8 := Lib.hid (show Row ei (w7.drewN j) (w7.drewN j).heap.size A4 N r7 from G7.out.drewN j)
  clear HII L7 B7 C7 G7 K7 q0 GQ7
  generalize w7.drewN j = w8 at *
  have y9 : w8.cell? ⟨qb, 9, none⟩ = some (.int .i64 ((N : Int) - 1)) := C8.out.cell 9
  by_cases hN3 : N = 2
  · have q1 : ((N : Int) - 1 == 1) = true := by simp; omega
    clear hN3
    go_wp2_with fail
    go_ret
    exact ⟨rfl, L8.out⟩
  have q1 : ((N : Int) - 1 == 1) = false := by simp; omega
  have f9 := C8.out.free 9
  have i3 : (3 : Int) ≤ (N : Int) := by omega
  go_upto_region 16 with fail
  clear y9 f9 q1 i1 hN3
  have C9 := Lib.hid (show Blk (w8.setCell ⟨qb, 9, none⟩ (.int .i64 ((N : Int) - 1 - 1))) qb 33 (akc a.w (plh p ((N : Int) - 1 - 1))) from C8.out.set 9 _)
  have B9 := Lib.hid (B8.out.other (p := ⟨qb, 9, none⟩) (by have := HQL.out.1; simp only; omega) (.int .i64 ((N : Int) - 1 - 1)))
  have L9 := Lib.hid (show Below w.heap.size w (w8.setCell ⟨qb, 9, none⟩ (.int .i64 ((N : Int) - 1 - 1))) from L8.out.setCell (p := ⟨qb, 9, none⟩) (Nat.le_of_lt HQL.out.1) _)
  have S9 := Lib.hid (show (w8.setCell ⟨qb, 9, none⟩ (.int .i64 ((N : Int) - 1 - 1))).heap.size = w8.heap.size by simp)
  have K9 := Lib.hid (show Below qb w8 (w8.setCell ⟨qb, 9, none⟩ (.int .i64 ((N : Int) - 1 - 1))) from (Below.refl qb w8).setCell (p := ⟨qb, 9, none⟩) (Nat.le_refl _) _)
  have G9 := Lib.hid (((GQ8.out).below K9.out).more (show qb ≤ (w8.setCell ⟨qb, 9, none⟩ (.int .i64 ((N : Int) - 1 - 1))).heap.size by rw [S9.out]; exact Nat.le_of_lt C8.out.lt))
  clear C8 B8 L8 K9 G8 S9 GQ8
  generalize w8.setCell ⟨qb, 9, none⟩ (.int .i64 ((N : Int) - 1 - 1)) = w9 at *
  have hfi := HFN.out (plh p ((N : Int) - 1 - 1)) w9 (show AkIn w9 w9.heap.size a (plh p ((N : Int) - 1 - 1)) from by
    have h := (HAR0.out.below L9.out).akin HS.out
    exact ⟨h.nn, h.nl, h.ow, h.b1, h.b2, h.b3⟩) ((HR0.out.below L9.out).more L9.out.size) (by have := HM1.out; omega) (show I15 ((N : Int) - 1 - 1) by unfold I15; omega)
  have HFI := Lib.hid hfi
  have HIB := Lib.hid (HIA.out (plh p ((N : Int) - 1 - 1)))
  clear hfi
  go_wp2_with (first | refine step_load (o := ⟨some 64, _, _, _, _, _⟩) rfl rfl rfl B9.out Try.underlying24 rfl HIC.out ?_ | refine step_load (o := ⟨some 65, _, _, _, _, _⟩) rfl rfl rfl C9.out Try.underlying33 rfl HIB.out ?_)
  ((with_reducible refine HFI.out.mono ?_))
  rintro e w10 ⟨A10, c10, r2, k2, g2, rfl, hac, hb, hcs⟩
  have L10 := Lib.hid (L9.out.trans (hb.mono L9.out.size))
  have G10 := Lib.hid ((G9.out.below hb).more hb.size)
  have K10 := Lib.hid (show Row ei w10 w10.heap.size A10 r2.length r2 from AccR.row hac)
  have hgo := hcs.good (ok17_hops HOK.out (show (0 : Int) ≤ (plh p ((N : Int) - 1 - 1)).h by show (0 : Int) ≤ (N : Int) - 1 - 1; omega))
  have HGO := Lib.hid hgo
  clear hb hac hcs HFI L9 B9 C9 G9 hgo
  by_cases hg : g2 = 0
  case neg =>
    have hg8 : g2 = 8 := by
      rcases HGO.out with h | h
      · exact absurd h.1 hg
      · exact h.1
    subst hg8
    clear hg
    go_wp2_with fail
    go_ret
    exact ⟨rfl, L10.out⟩
  subst hg
  have hb2 : Best17 (lks16 l a) ((N : Int) - 2) f t k2 r2 := by
    rcases HGO.out with h | h
    · have := h.2
      rwa [show (plh p ((N : Int) - 1 - 1)).h = (N : Int) - 2 from by show (N : Int) - 1 - 1 = (N : Int) - 2; omega] at this
    · cases h.1
  have hfw := best17_fewer HBE.out (by rw [HN.out]; omega) HH0.out (by rw [HN.out]; exact hb2)
  rw [HN.out] at hfw
  obtain ⟨T, hT⟩ : ∃ T, r2.length = T := ⟨_, rfl⟩
  rw [hT] at hfw K10 ⊢
  have i4 : (T : Int) < (N : Int) := by have := hfw.1; omega
  have hbt := rbetter_calls k2 co7 A10 A4 T N c10 c4 _ _ r2 r7 w10 K10.out G10.out (by have := hfw.1; omega) (by omega)
  unfold BetPost at hbt
  rw [decide_eq_false hfw.2] at hbt
  have HBT := Lib.hid hbt
  clear hbt hfw hb2 hT HGO
  go_wp2_with fail
  ((with_reducible refine HBT.out.mono ?_))
  rintro e w11 ⟨rfl, j2, rfl⟩
  have L11 := Lib.hid (bel_drewN L10.out j2)
  clear HBT L10 G10 K10
  go_wp2_with fail
  go_ret
  exact ⟨rfl, L11.out⟩
end Go.Proofs.Ytjflbfianncpfaa
