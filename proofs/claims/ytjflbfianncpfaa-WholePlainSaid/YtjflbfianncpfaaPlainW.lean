/-
  The law WholePlain, walked: where nothing is asked, the best route that meets it is the best route. Condition: what spf.Best and cspf.Find must keep (BestOk, FindOk17).
-/
import Derived.Test.YtjflbfianncpfaaCspB
import Derived.Test.YtjflbfianncpfaaSpfC
import Derived.Test.YtjflbfianncpfaaTedOpen
import Derived.Deep.CutBlock
namespace Go.Proofs.Ytjflbfianncpfaa
set_option maxRecDepth 100000
set_option linter.unusedVariables false
open Go.RowKit

/-- Adverts of links that are up, of which nothing else is known. -/
def pla17 (L : List Lk) : List Ad := L.map (fun x => ⟨x, 0, true, lz17⟩)
theorem pla17_map (L : List Lk) : (pla17 L).map (·.k) = L := by
  unfold pla17
  rw [List.map_map]
  exact List.map_id'' (fun _ => rfl) L
theorem fit17_plain (x : Lk) : fit16 ak17 ⟨x, 0, true, lz17⟩ = true := by
  have h1 : wRight w016 = true := by decide
  unfold fit16 exc16 room16 had16
  have ho : own16 [] x.f x.t = 0 := rfl
  simp only [ak17, h1, ho]
  simp [wAllows_none, w016, lz17]
theorem lks17_plain (L : List Lk) : lks16 (pla17 L) ak17 = L := by
  unfold lks16
  rw [List.filter_eq_self.2 (fun x hx => by
    obtain ⟨y, _, rfl⟩ := List.mem_map.1 hx
    exact fit17_plain y)]
  exact pla17_map L
theorem pla17_ok {L : List Lk} (h : ∀ x ∈ L, LkB x) : ∀ x ∈ pla17 L, AdOk x := by
  intro x hx
  obtain ⟨y, hy, rfl⟩ := List.mem_map.1 hx
  obtain ⟨h1, h2, h3, h4⟩ := h y hy
  exact ⟨rfl, (by decide : ∀ n ∈ lz17, n < 18446744073709551616), h1, h2, h3, h4⟩
/-- What both answer is the same. -/
theorem plain17 {n a b : Int} {L : List Lk} {r : List Int} {c e : Int} (h : Csp17 (ok17 n (pla17 L) ak17 0 a b) (lks16 (pla17 L) ak17) 0 a b r c e) :
    (¬ GoodQ n L a b → r = [] ∧ c = 0 ∧ e = 2) ∧ (GoodQ n L a b → (e = 0 ∧ BestW L a b c r) ∨ (e = 8 ∧ r = [] ∧ c = 0 ∧ ∀ c' r', ¬ Wy L a b c' r')) := by
  have hg : ok17 n (pla17 L) ak17 0 a b ↔ GoodQ n L a b := by
    unfold ok17 GoodQ
    rw [pla17_map]
    have h1 : wRight ak17.w = true := by decide
    constructor
    · rintro ⟨g1, g2, g3, g4, _⟩
      exact ⟨g1, g2.1, g2.2, g3.1, g3.2, fun e => g4 e.symm⟩
    · rintro ⟨g1, g2, g3, g4, g5, g6⟩
      exact ⟨g1, ⟨g2, g3⟩, ⟨g4, g5⟩, fun e => g6 e.symm, h1, Int.le_refl _⟩
  rw [lks17_plain] at h
  refine ⟨fun hn => h.bad (fun hk => hn (hg.1 hk)), fun hk => ?_⟩
  rcases h.good (hg.2 hk) with ⟨h1, h2⟩ | ⟨h1, h2, h3, h4⟩
  · exact .inl ⟨h1, best17_zero.1 h2⟩
  · exact .inr ⟨h1, h2, h3, fun c' r' hw => h4 c' r' hw (.inl rfl)⟩
def net1 : List Lk := [⟨0, 1, 0, 1, 0⟩]
theorem net1_chk : chk 2 net1 = 0 := by decide
theorem net1_best : BestW net1 0 1 1 [0, 1] :=
  (rnds_all (L := net1) (n := 2) (a := 0) (net_of_chk net1_chk).2.2.2 (by omega) (by omega)).best 1 1 [0, 1] (by omega) (by omega) (by decide +kernel)

set_option maxHeartbeats 12800000 in
theorem plain_walk (hS : BestOk) (hF : FindOk17) (n : Int) (hn : I15 n) (p : Option Addr) (m cl : Nat) (a b : Int) (hab : I15 a ∧ I15 b) (w : World) (hm : m ≤ maxLen) (h : ∃ L, Row lkc w w.heap.size p m L ∧ ∀ x ∈ L, LkB x) :
    Calls Try.prog 8 #[.int .i64 n, .slice p m cl, .agg #[.int .i64 a, .int .i64 b]] w fun e w' => e = .returned (.bool true) ∧ Below w.heap.size w w' := by
  obtain ⟨L, hR, hLB⟩ := h
  unfold maxLen at hm
  have hb1 := bel_new (Below.refl w.heap.size w) (.cells #[.int .i64 a, .int .i64 b] 51)
  have X1 := Lib.hid (Blk.new w 51 [.int .i64 a, .int .i64 b])
  have B1 := Lib.hid hb1
  have R1 := Lib.hid ((hR.below hb1).more hb1.size)
  have HS := Lib.hid hS
  have HF := Lib.hid hF
  have HNI := Lib.hid (And.intro hn hab)
  have HLB := Lib.hid hLB
  have HML := Lib.hid hR.1
  clear hb1 hR hS hF hLB hn hab
  go_enter Try.func8, Try.ntmps8
  go_upto_region 1 with fail
  obtain ⟨eb, heb⟩ : ∃ eb, eb = w.heap.size := ⟨_, rfl⟩
  rw [← heb] at X1 ⊢
  have HEB := Lib.hid heb
  clear heb
  generalize w.alloc (.cells #[.int .i64 a, .int .i64 b] 51) = w1 at *
  have q0 := Blk.new w1 53 (net1.flatMap lkc)
  have b0 := bel_new (Below.refl w1.heap.size w1) (.cells (net1.flatMap lkc).toArray 53)
  rw [show net1.flatMap lkc = [.int .i64 0, .int .i64 1, .int .u64 0, .int .i64 1, .int .u32 0] from rfl] at q0 b0
  go_upto_region 2 with fail
  have hq0 : Row lkc (w1.alloc (.cells #[.int .i64 0, .int .i64 1, .int .u64 0, .int .i64 1, .int .u32 0] 53)) (w1.heap.size + 1) (some ⟨w1.heap.size, 0, none⟩) 1 net1 := blk_rowS (l := net1) q0
  have R2 := Lib.hid (hq0.more (Blk.lt q0))
  have X2 := Lib.hid (X1.out.below b0)
  have B2 := Lib.hid (show Below w.heap.size w (w1.alloc (.cells #[.int .i64 0, .int .i64 1, .int .u64 0, .int .i64 1, .int .u32 0] 53)) from B1.out.trans (b0.mono B1.out.size))
  have RL := Lib.hid ((R1.out.below b0).more b0.size)
  clear q0 b0 hq0 X1 B1 R1
  generalize w1.heap.size = xb at *
  generalize w1.alloc (.cells #[.int .i64 0, .int .i64 1, .int .u64 0, .int .i64 1, .int .u32 0] 53) = w2 at *
  have hc := HS.out 2 (some ⟨xb, 0, none⟩) 1 1 net1 0 1 w2 (by omega) (by omega) R2.out (by omega)
  go_wp2_with fail
  ((with_reducible refine hc.mono ?_))
  rintro e w3 ⟨hb3, hcase⟩
  obtain ⟨A, c', he, hrow⟩ : ∃ A c', e = .returned (.tuple #[.slice A 2 c', .int .i64 1, .int .i64 0]) ∧ Row ei w3 w3.heap.size A 2 [0, 1] := by
    rcases hcase with ⟨h1, _⟩ | ⟨_, h1, _⟩ | ⟨_, A, c', c, r, h1, he, _, hr⟩
    · exact absurd ⟨net1_chk, by omega, by omega, by omega, by omega, by omega⟩ h1
    · exact absurd net1_best.1 (h1 _ _)
    · obtain ⟨rfl, rfl⟩ := best_unique h1 net1_best
      exact ⟨A, c', he, hr⟩
  subst he
  have B3 := Lib.hid (B2.out.trans (hb3.mono B2.out.size))
  have X3 := Lib.hid (X2.out.below hb3)
  have L3 := Lib.hid ((RL.out.below hb3).more hb3.size)
  have I3 := Lib.hid hrow
  clear hb3 hcase hrow hc R2 X2 B2 RL
  have hb4 := bel_new (Below.refl w3.heap.size w3) (.cells #[.int .i64 0, .int .i64 1] 3)
  have hk4 := blk_rowS (enc := ei) (l := [0, 1]) (Blk.new w3 3 [.int .i64 0, .int .i64 1])
  have hsi := sameints_calls A (some ⟨w3.heap.size, 0, none⟩) 2 2 c' 2 _ _ [0, 1] [0, 1] _ ((I3.out.below hb4).more hb4.size) hk4 (by omega) (by omega)
  rw [show decide ([(0 : Int), 1] = [0, 1]) = true by decide] at hsi
  have HSI := Lib.hid hsi
  have B4 := Lib.hid (B3.out.trans (hb4.mono B3.out.size))
  have X4 := Lib.hid (X3.out.below hb4)
  have L4 := Lib.hid ((L3.out.below hb4).more hb4.size)
  clear hb4 hk4 hsi B3 X3 L3 I3
  go_wp2_with fail
  ((with_reducible refine HSI.out.mono ?_))
  rintro e w5 ⟨rfl, kd, hkd⟩
  have B5 := Lib.hid (show Below w.heap.size w w5 from by rw [hkd]; exact bel_drewN B4.out kd)
  have X5 := Lib.hid (show Blk w5 eb 51 [.int .i64 a, .int .i64 b] from by rw [hkd]; exact X4.out)
  have L5 := Lib.hid (show Row lkc w5 w5.heap.size p m L from by rw [hkd]; exact L4.out.drewN kd)
  clear hkd HSI B4 X4 L4
  by_cases h1 : 100 < m
  · have g1 : (100 : Int) < (m : Int) := by omega
    go_wp2
    go_ret
    exact ⟨rfl, B5.out⟩
  have g1 : ¬ (100 : Int) < (m : Int) := by omega
  have HM := Lib.hid h1
  clear h1
  go_wp2_with fail
  go_loopw [11, 42] (fun s u W => ∃ (i c : Nat) (A : Option Addr), i ≤ m ∧ s = .slice A i c ∧ u = .int .i64 (i : Int) ∧ AccT15 W w5.heap.size A c ((pla17 L).take i) ∧ Below w5.heap.size w5 W) (fun s u W => m - (intOf u).toNat)
  case atStart => exact ⟨0, 0, none, by omega, rfl, rfl, AccR.nil _ _ _, Below.refl _ _⟩
  case round =>
    obtain ⟨i, c, A, hi, rfl, rfl, hac, hbl⟩ := hrel
    have HAC := Lib.hid hac
    have HBL := Lib.hid hbl
    clear hac hbl
    by_cases hin : i < m
    · have i1 : (i : Int) < (m : Int) := by omega
      obtain ⟨bb, o, x, rfl, hx, hbb, hc⟩ := cells15 lkc_length L5.out hin
      have HXA := Lib.hid (show (pla17 L)[i]? = some ⟨x, 0, true, lz17⟩ from by unfold pla17; rw [List.getElem?_map, hx]; rfl)
      have HII := Lib.hid hin
      have z0 : wr.cell? ⟨bb, o + i * 5, none⟩ = some (.int .i64 x.f) := by have := hc wr HBL.out 0 _ rfl; simpa using this
      have z1 : wr.cell? ⟨bb, o + i * 5 + 1, none⟩ = some (.int .i64 x.t) := by have := hc wr HBL.out 1 _ rfl; simpa using this
      have z2 : wr.cell? ⟨bb, o + i * 5 + 2, none⟩ = some (.int .u64 x.c) := by have := hc wr HBL.out 2 _ rfl; simpa using this
      have z3 : wr.cell? ⟨bb, o + i * 5 + 3, none⟩ = some (.int .i64 x.m) := by have := hc wr HBL.out 3 _ rfl; simpa using this
      have z4 : wr.cell? ⟨bb, o + i * 5 + 4, none⟩ = some (.int .u32 x.g) := by have := hc wr HBL.out 4 _ rfl; simpa using this
      clear hx hbb hc hin hi
      go_upto_region 11 with fail
      clear z0 z1 z2 z3 z4
      have hb := bel_new (Below.refl wr.heap.size wr) (.cells #[.int .i64 x.f, .int .i64 x.t, .int .u64 x.c, .int .i64 x.m, .int .u32 x.g] 53)
      have H6 := Lib.hid (show Blk (wr.alloc (.cells #[.int .i64 x.f, .int .i64 x.t, .int .u64 x.c, .int .i64 x.m, .int .u32 x.g] 53)) wr.heap.size 53 (lkc x) from Blk.new wr _ (lkc x))
      have L6 := Lib.hid (HBL.out.trans (hb.mono HBL.out.size))
      have A6 := Lib.hid (AccR.bel HAC.out hb)
      clear hb HBL HAC
      generalize wr.alloc _ = w6 at *
      generalize wr.heap.size = qx at *
      have y0 : w6.cell? ⟨qx, 0, none⟩ = some (.int .i64 x.f) := H6.out.cell 0
      have y1 : w6.cell? ⟨qx, 1, none⟩ = some (.int .i64 x.t) := H6.out.cell 1
      have y2 : w6.cell? ⟨qx, 2, none⟩ = some (.int .u64 x.c) := H6.out.cell 2
      have y3 : w6.cell? ⟨qx, 3, none⟩ = some (.int .i64 x.m) := H6.out.cell 3
      have y4 : w6.cell? ⟨qx, 4, none⟩ = some (.int .u32 x.g) := H6.out.cell 4
      have hlen : ((pla17 L).take i).length = i := by
        have h1 := HII.out
        have h2 : (pla17 L).length = m := by unfold pla17; rw [List.length_map]; exact HML.out
        rw [List.length_take]; omega
      have hi100 : i < 100 := by have := HM.out; have := HII.out; omega
      obtain ⟨A8, c8, w8, r8, a8, g8⟩ := acct15_push A6.out ⟨x, 0, true, lz17⟩ L6.out.size (by rw [hlen]; omega)
      rw [hlen] at r8
      rw [← take_snoc15 HXA.out] at a8
      have r8' : (Builtin.append_ #[55, 55] 55 #[.slice A i c, .slice (some ⟨w6.heap.size, 0, none⟩) 1 1]).run Try.prog (w6.alloc (.cells #[.int .i64 x.f, .int .i64 x.t, .int .u64 x.c, .int .i64 x.m, .int .u32 x.g, .int .i64 0, .bool true, .int .u64 0, .int .u64 0, .int .u64 0, .int .u64 0, .int .u64 0, .int .u64 0, .int .u64 0, .int .u64 0] 58)) = .ok (.slice A8 (i + 1) c8) w8 := r8
      have B8 := Lib.hid (show Below w5.heap.size w5 w8 from belr_acc L6.out A6.out g8)
      have A8' := Lib.hid a8
      have R8 := Lib.hid r8'
      clear r8 r8' a8 g8 hlen
      go_wp2_with (at_builtin; refine step_append (o := ⟨some 50, _, _, _, _, _⟩) rfl rfl rfl rfl R8.out ?_)
      go_roundw
      case rel => exact ⟨i + 1, c8, A8, HII.out, by first | rfl | (simp; omega), by first | rfl | (simp; omega), A8'.out, B8.out⟩
      case measure => have := HII.out; simp [intOf]; omega
    · obtain rfl : i = m := by omega
      have i1 : ¬ (i : Int) < (i : Int) := by omega
      have hi100 : i ≤ 100 := by have := HM.out; omega
      have B6 := Lib.hid (B5.out.trans (HBL.out.mono B5.out.size))
      have X6 := Lib.hid (X5.out.below HBL.out)
      have L6 := Lib.hid ((L5.out.below HBL.out).more HBL.out.size)
      have hR6 : Row adc wr wr.heap.size A i (pla17 L) := by
        have h1 := AccR.row HAC.out
        have h2 : (pla17 L).length = i := by unfold pla17; rw [List.length_map]; exact HML.out
        rw [List.take_of_length_le (Nat.le_of_eq h2), h2] at h1
        exact h1
      have R6 := Lib.hid hR6
      clear hin hi HBL HAC B5 X5 L5 hR6
      have t0 : wr.cell? ⟨eb, 0, none⟩ = some (.int .i64 a) := X6.out.cell 0
      have t1 : wr.cell? ⟨eb, 1, none⟩ = some (.int .i64 b) := X6.out.cell 1
      have hc := HS.out n p i cl L a b wr HNI.out.1.1 HNI.out.1.2 L6.out (by omega)
      have HC := Lib.hid hc
      clear hc
      go_wp2_with fail
      ((with_reducible refine HC.out.mono ?_))
      rintro e w7 ⟨hb7, hcase⟩
      obtain ⟨A7, c7, r, co, er, he, hrow, hsum⟩ : ∃ A7 c7 r co er, e = .returned (.tuple #[.slice A7 r.length c7, .int .i64 co, .int .i64 er]) ∧ Row ei w7 w7.heap.size A7 r.length r ∧
          ((¬ GoodQ n L a b ∧ r = [] ∧ co = 0 ∧ er = 2) ∨ (GoodQ n L a b ∧ (∀ c r, ¬ Wy L a b c r) ∧ r = [] ∧ co = 0 ∧ er = 8) ∨ (GoodQ n L a b ∧ BestW L a b co r ∧ er = 0)) := by
        rcases hcase with ⟨h1, A, cA, he⟩ | ⟨h1, h2, A, cA, he⟩ | ⟨h1, A, cA, c, r, h2, he, _, hr⟩
        · exact ⟨A, cA, [], 0, 2, he, ⟨rfl, fun h => absurd h (Nat.lt_irrefl 0)⟩, .inl ⟨h1, rfl, rfl, rfl⟩⟩
        · exact ⟨A, cA, [], 0, 8, he, ⟨rfl, fun h => absurd h (Nat.lt_irrefl 0)⟩, .inr (.inl ⟨h1, h2, rfl, rfl, rfl⟩)⟩
        · exact ⟨A, cA, r, c, 0, he, hr, .inr (.inr ⟨h1, h2, rfl⟩)⟩
      subst he
      have SUM := Lib.hid hsum
      have B7 := Lib.hid (B6.out.trans (hb7.mono B6.out.size))
      have X7 := Lib.hid (X6.out.below hb7)
      have R7 := Lib.hid ((R6.out.below hb7).more hb7.size)
      have I7 := Lib.hid hrow
      clear hb7 hcase hsum hrow HC t0 t1 B6 X6 L6 R6
      have t0 : w7.cell? ⟨eb, 0, none⟩ = some (.int .i64 a) := X7.out.cell 0
      have t1 : w7.cell? ⟨eb, 1, none⟩ = some (.int .i64 b) := X7.out.cell 1
      have hfi := HF.out n a b A i c (pla17 L) ak17 ⟨none, 0, 0, none, 0, 0, none, 0, 0, 0⟩ w7 (pla17_ok HLB.out) (no16 w7 w016 ⟨by decide, by decide, by decide⟩).1 ⟨Row.nil, Row.nil, Row.nil, by simp, by simp, by simp⟩ R7.out (by omega) HNI.out.1 HNI.out.2.1 HNI.out.2.2 (show I15 0 by unfold I15; decide)
      have hfi2 : Calls Try.prog 19 #[.int .i64 n, .slice A i c, .agg #[.int .u64 0, .int .i64 0, .int .i64 0, .int .u32 0, .int .u32 0, .int .u32 0, .slice none 0 0, .slice none 0 0, .slice none 0 0, .int .i64 0], .int .i64 a, .int .i64 b] w7 (Fnd17 n (pla17 L) ak17 0 a b w7) := hfi
      unfold Fnd17 at hfi2
      have HFI := Lib.hid hfi2
      clear hfi hfi2
      obtain ⟨N, hN⟩ : ∃ N, r.length = N := ⟨_, rfl⟩
      rw [hN] at I7 ⊢
      have HN := Lib.hid hN
      clear hN
      go_wp2_with fail
      ((with_reducible refine HFI.out.mono ?_))
      rintro e w8 ⟨A8, c8, r', co', er', rfl, hac, hb, hcs⟩
      have hp := plain17 hcs
      obtain ⟨rfl, rfl, rfl⟩ : r' = r ∧ co' = co ∧ er' = er := by
        rcases SUM.out with ⟨h1, h2, h3, h4⟩ | ⟨h1, h2, h3, h4, h5⟩ | ⟨h1, h2, h3⟩
        · obtain ⟨e1, e2, e3⟩ := hp.1 h1
          exact ⟨e1.trans h2.symm, e2.trans h3.symm, e3.trans h4.symm⟩
        · rcases hp.2 h1 with ⟨e1, e2⟩ | ⟨e1, e2, e3, _⟩
          · exact absurd e2.1 (h2 _ _)
          · exact ⟨e2.trans h3.symm, e3.trans h4.symm, e1.trans h5.symm⟩
        · rcases hp.2 h1 with ⟨e1, e2⟩ | ⟨e1, e2, e3, e4⟩
          · obtain ⟨e3, e4⟩ := best_unique e2 h2
            exact ⟨e4, e3, e1.trans h3.symm⟩
          · exact absurd h2.1 (e4 _ _)
      have hN := HN.out
      rw [hN]
      have B8 := Lib.hid (B7.out.trans (hb.mono B7.out.size))
      have I8 := Lib.hid ((I7.out.below hb).more hb.size)
      have K8 := Lib.hid (show Row ei w8 w8.heap.size A8 N r' from by have := AccR.row hac; rwa [hN] at this)
      have hn16 : N ≤ 1099511627776 := by
        rcases SUM.out with ⟨_, h2, _⟩ | ⟨_, _, h2, _⟩ | ⟨h1, h2, _⟩
        · rw [← hN, h2]; simp
        · rw [← hN, h2]; simp
        · have h3 := net_of_chk h1.1
          have h4 := h2.1.short h3.2.2.2 ⟨h1.2.1, h1.2.2.1⟩
          omega
      have hsi := sameints_calls A7 A8 N N c7 c8 _ _ r' r' w8 I8.out K8.out hn16 hn16
      rw [decide_eq_true rfl] at hsi
      have HSI := Lib.hid hsi
      have q1 : (er' == er') = true := by simp
      have q2 : (co' == co') = true := by simp
      clear hac hb hcs hp hsi HFI t0 t1 B7 X7 R7 I7 SUM hN
      go_wp2_with fail
      ((with_reducible refine HSI.out.mono ?_))
      rintro e w9 ⟨rfl, kd, rfl⟩
      have B9 := Lib.hid (show Below w.heap.size w (w8.drewN kd) from bel_drewN B8.out kd)
      generalize w8.drewN kd = w9 at *
      go_wp2_with fail
      go_ret
      exact ⟨rfl, B9.out⟩
end Go.Proofs.Ytjflbfianncpfaa
