/-
  Contract of package tedb: New. Condition: a number of 64 bits in each link; at most 2^30 links.
-/
import Derived.Test.YtmfmjdkeoiebpaaTecC
namespace Go.Proofs.Ytmfmjdkeoiebpaa
set_option maxRecDepth 100000
set_option linter.unusedVariables false
open Go.RowKit

/-- An append's world, where the row that it turns is from B on. -/
theorem bel_upd' {B : Nat} {a w w' : World} {r : Option Nat} (h : Below B a w) (hg : w.grownBy w' r) (hr : ∀ x, r = some x → B ≤ x) (hB : B ≤ a.heap.size := by exact Nat.le_refl _) : Below B a w' :=
  h.grown hg (Nat.le_trans hB h.size) (fun k hk => hr k hk)
/-- A row's block is none that holds another type. -/
theorem accr_blk15 {α : Type} {enc : α → List Value} {k base c g : Nat} {w : World} {T T' : TypeId} {A : Option Addr} {l : List α} {vs : List Value} (h : AccR enc k w base T A c l) (hb : Blk w g T' vs) (hne : T ≠ T') (e : blk A = some g) : False := by
  rcases h.2 with ⟨hv, _⟩ | ⟨a, cap, cur, hv, _, hh, _⟩
  · injection hv with e1 _ _
    subst e1; cases e
  · injection hv with e1 _ _
    subst e1
    injection e with e
    simp only at e
    subst e
    unfold Blk at hb
    rw [hh] at hb
    injection hb with hb
    injection hb with _ hb _
    exact hne hb
theorem unused15_lit (f t m g : Int) (C : Nat) (w : World) : Calls Try.prog 32 #[.agg #[.int .i64 f, .int .i64 t, .int .u64 (C : Int), .int .i64 m, .int .u32 g]] w fun e w' => e = .returned (.agg #[.int .i64 f, .int .i64 t, .int .u64 (C : Int), .int .i64 m, .int .u32 g, .int .i64 0, .bool true, .int .u64 (C : Int), .int .u64 (C : Int), .int .u64 (C : Int), .int .u64 (C : Int), .int .u64 (C : Int), .int .u64 (C : Int), .int .u64 (C : Int), .int .u64 (C : Int)]) ∧ Below w.heap.size w w' := unused15_calls f t m g C w
/-- What New answers for a network that may be. -/
def Nw15 (L : List Lk) (w : World) (e : Ending) (w' : World) : Prop :=
  ∃ q S, e = .returned (.pointer (some ⟨q, 0, none⟩)) ∧ BasC w' q (bnew L) S ∧ (∀ x ∈ S, w.heap.size ≤ x) ∧ Below w.heap.size w w'
theorem chk_small {n : Int} {L : List Lk} (h : chk n L = 0) : L.length ≤ 64 ∧ (∀ x ∈ L, 0 ≤ x.f ∧ x.f < 16 ∧ 0 ≤ x.t ∧ x.t < 16 ∧ x.f ≠ x.t ∧ 1 ≤ x.m ∧ x.m ≤ 65535) ∧ (L.map ends15).Nodup := by
  unfold chk at h
  split at h
  · rename_i hn
    split at h
    · simp at h
    · split at h
      · rename_i h64 hb
        unfold netB at hb
        rw [Bool.and_eq_true, List.all_eq_true, decide_eq_true_eq] at hb
        refine ⟨by omega, fun x hx => ?_, ?_⟩
        · have := hb.1 x hx
          simp only [vld, gwn, Bool.and_eq_true, decide_eq_true_eq, Bool.not_eq_true', beq_eq_false_iff_ne] at this
          exact ⟨this.1.1.1.1, by omega, this.1.1.2.1, by omega, this.1.2, this.2.1, this.2.2⟩
        · unfold List.Nodup
          rw [List.pairwise_map]
          refine hb.2.imp ?_
          intro a b hab e
          have he : a.f = b.f ∧ a.t = b.t := by simpa [ends15] using e
          have : sameE b a = true := (sameE_iff b a).2 ⟨he.1.symm, he.2.symm⟩
          rw [hab] at this
          cases this
      · simp at h
  · simp at h
theorem fl15_all (C : Nat) : fl15 8 C = List.replicate 8 C := by simp [fl15]
theorem new15_no (n : Int) (a : Option Addr) (m c : Nat) (L : List Lk) (w : World) (hr : Row lkc w w.heap.size a m L) (h1 : -9223372036854775808 ≤ n) (h2 : n ≤ 9223372036854775807) (hm : m ≤ 1073741824) (hz0 : chk n L ≠ 0) :
    Calls Try.prog 12 #[.int .i64 n, .slice a m c] w fun e w' => e = .returned (.pointer none) ∧ Below w.heap.size w w' := by
  have hck := check_calls n a m c L w hr h1 h2 (by omega)
  generalize chk n L = z at *
  have HCK := Lib.hid hck
  have hzb : (z != 0) = true := by simpa using hz0
  clear hck hr h1 h2 hz0
  go_enter Try.func12, Try.ntmps12
  go_wp2_with fail
  ((with_reducible refine HCK.out.mono ?_))
  rintro e w1 ⟨rfl, hb⟩
  have HB := Lib.hid hb
  clear hb HCK
  go_wp2_with fail
  go_ret
  exact ⟨rfl, HB.out⟩
set_option maxHeartbeats 6400000 in
theorem new15_yes (n : Int) (a : Option Addr) (m c : Nat) (L : List Lk) (hc : ∀ x ∈ L, 0 ≤ x.c ∧ x.c < 18446744073709551616 ∧ 0 ≤ x.g ∧ x.g < 4294967296) (w : World) (hr : Row lkc w w.heap.size a m L) (h1 : -9223372036854775808 ≤ n) (h2 : n ≤ 9223372036854775807) (hm : m ≤ 1073741824) (hz : chk n L = 0) :
    Calls Try.prog 12 #[.int .i64 n, .slice a m c] w (Nw15 L w) := by
    have hck := check_calls n a m c L w hr h1 h2 (by omega)
    have HR := Lib.hid hr
    have HML := Lib.hid hr.1
    have HC := Lib.hid hc
    have HM := Lib.hid hm
    have HZ := Lib.hid hz
    rw [hz] at hck
    have HCK := Lib.hid hck
    clear hck hr hc hz h1 h2
    have HSM := Lib.hid (chk_small HZ.out)
    go_enter Try.func12, Try.ntmps12
    go_wp2_with fail
    ((with_reducible refine HCK.out.mono ?_))
    rintro e w1 ⟨rfl, hb⟩
    have HB := Lib.hid hb
    clear hb HCK
    go_upto_region 4 with fail
    have B2 := Lib.hid (show Blk (w1.alloc (.cells #[.bool true, .slice none 0 0] 66)) w1.heap.size 66 (bsc none 0 0) from Blk.new w1 _ _)
    have L2 := Lib.hid (bel_new HB.out (.cells #[.bool true, .slice none 0 0] 66))
    have S2 := Lib.hid (show (w1.alloc (.cells #[.bool true, .slice none 0 0] 66)).heap.size = w1.heap.size + 1 by simp)
    have Q2 := Lib.hid HB.out.size
    clear HB
    generalize w1.alloc (.cells #[.bool true, .slice none 0 0] 66) = w2 at *
    generalize w1.heap.size = qb at *
    clear w1
    go_wp2_with fail
    go_loopw [16] (fun t W => ∃ (i c1 : Nat) (A : Option Addr), t = .int .i64 (i : Int) ∧ i ≤ m ∧ Blk W qb 66 (bsc A i c1) ∧ AccT15 W (qb + 1) A c1 ((bnew L).take i) ∧ Below w.heap.size w W) (fun t W => m - (intOf t).toNat)
    case atStart => exact ⟨0, 0, none, rfl, Nat.zero_le _, B2.out, AccR.nil _ _ _, L2.out⟩
    case round =>
      clear B2 L2 S2
      obtain ⟨i, c1, A, rfl, hin, hb, ha, hl⟩ := hrel
      have HB := Lib.hid hb
      have HA := Lib.hid ha
      have HL := Lib.hid hl
      clear hb ha hl
      by_cases hin2 : i < m
      · have i1 : (i : Int) < (m : Int) := by omega
        have HII := Lib.hid hin2
        obtain ⟨b, o, x, rfl, hx, hb, hcc⟩ := cells15 lkc_length HR.out hin2
        have hxc := (HC.out x (List.mem_of_getElem? hx)).1
        obtain ⟨f, t, c0, m9, g⟩ := x
        obtain ⟨C, rfl⟩ : ∃ C : Nat, c0 = (C : Int) := ⟨c0.toNat, by simp only at hxc; omega⟩
        have HX := Lib.hid (show (bnew L)[i]? = some ⟨⟨f, t, (C : Int), m9, g⟩, 0, true, fl15 8 C⟩ from by unfold bnew; rw [List.getElem?_map, hx]; rfl)
        have z0 : wr.cell? ⟨b, o + i * 5, none⟩ = some (.int .i64 f) := hcc wr HL.out 0 _ rfl
        have z1 : wr.cell? ⟨b, o + i * 5 + 1, none⟩ = some (.int .i64 t) := hcc wr HL.out 1 _ rfl
        have z2 : wr.cell? ⟨b, o + i * 5 + 2, none⟩ = some (.int .u64 (C : Int)) := hcc wr HL.out 2 _ rfl
        have z3 : wr.cell? ⟨b, o + i * 5 + 3, none⟩ = some (.int .i64 m9) := hcc wr HL.out 3 _ rfl
        have z4 : wr.cell? ⟨b, o + i * 5 + 4, none⟩ = some (.int .u32 g) := hcc wr HL.out 4 _ rfl
        clear hx hb hcc hin hin2 hxc
        go_upto_region 7 with fail
        clear z0 z1 z2 z3 z4
        have K5 := Lib.hid (show Blk (wr.alloc (.cells #[.int .i64 f, .int .i64 t, .int .u64 (C : Int), .int .i64 m9, .int .u32 g] 37)) wr.heap.size 37 (lkc ⟨f, t, (C : Int), m9, g⟩) from Blk.new wr 37 (lkc ⟨f, t, (C : Int), m9, g⟩))
        have L5 := Lib.hid (bel_new HL.out (.cells #[.int .i64 f, .int .i64 t, .int .u64 (C : Int), .int .i64 m9, .int .u32 g] 37))
        have A5 := Lib.hid (AccR.alloc HA.out (.cells #[.int .i64 f, .int .i64 t, .int .u64 (C : Int), .int .i64 m9, .int .u32 g] 37))
        have B5 := Lib.hid (HB.out.below (bel_new (Below.refl wr.heap.size wr) (.cells #[.int .i64 f, .int .i64 t, .int .u64 (C : Int), .int .i64 m9, .int .u32 g] 37)))
        have Q5 := Lib.hid HB.out.lt
        clear HA HL HB
        generalize wr.alloc _ = w5 at *
        generalize wr.heap.size = qk at *
        have HU := Lib.hid (unused15_lit f t m9 g C)
        go_wp2_with fail
        refine region_way (fun W => Blk W qk 37 (lkc ⟨f, t, (C : Int), m9, g⟩)) (.step 0 true (.step 1 true (.step 2 true (.step 3 true (.step 5 true (.both 4 6 (.step 6 false (.step 7 false (.step 8 false (.step 9 true (.step 10 true (.step 11 false .done)))))) (.both 4 7 (.step 7 false (.step 8 false (.step 9 true (.step 10 true (.step 11 false .done))))) (.step 4 false (.step 8 false (.step 9 true (.step 10 true (.step 11 false .done))))))))))))
          (by kernel_rfl) (by kernel_rfl) (by kernel_rfl) (by kernel_rfl) (fun _ _ _ _ _ h => h) K5.out.drew ?_
        repeat
          refine way_pure (v := ?_) rfl (by rfl) (fun W hW => ?_) ?_
          rotate_left
          · have k0 : W.cell? ⟨qk, 0, none⟩ = some (.int .i64 f) := hW.cell 0
            have k1 : W.cell? ⟨qk, 1, none⟩ = some (.int .i64 t) := hW.cell 1
            have k2 : W.cell? ⟨qk, 2, none⟩ = some (.int .u64 (C : Int)) := hW.cell 2
            have k3 : W.cell? ⟨qk, 3, none⟩ = some (.int .i64 m9) := hW.cell 3
            have k4 : W.cell? ⟨qk, 4, none⟩ = some (.int .u32 g) := hW.cell 4
            clear hW
            go_simp
            with_reducible rfl
          simp only [Act.put, List.setIfInBounds_toArray, List.set_cons_zero, List.set_cons_succ]
        have L6 := Lib.hid L5.out.drew
        have A6 := Lib.hid (AccR.drew A5.out)
        have B6 := Lib.hid B5.out.drew
        have K6 := Lib.hid K5.out.drew
        clear L5 A5 B5 K5
        generalize w5.drew = w6 at *
        refine way_both rfl (by rfl) rfl (by rfl) (fun K hK => ?_) (fun K hK => ?_)
        · skip
          have c1' : w6.cell? ⟨qb, 1, none⟩ = some (.slice A i c1) := B6.out.cell 1
          go_simp
          clear c1'
          refine hK _ _ (fun W => Blk W qk 37 (lkc ⟨f, t, (C : Int), m9, g⟩)) (fun W h => h) K6.out ?_
          clear hK K
          refine way_make rfl (by rfl) (fun K hK => ?_)
          go_simp
          ((with_reducible refine (HU.out w6).mono ?_))
          rintro e w11 ⟨rfl, hb⟩
          have L11 := Lib.hid (L6.out.trans (hb.mono L6.out.size))
          have A11 := Lib.hid (AccR.bel A6.out hb)
          have B11 := Lib.hid (B6.out.below hb)
          have K11 := Lib.hid (K6.out.below hb)
          clear hb L6 A6 B6 K6
          go_simp
          refine hK _ _ (fun W => Blk W qk 37 (lkc ⟨f, t, (C : Int), m9, g⟩)) (fun W h => h) K11.out ?_
          clear hK K
          refine way_make rfl (by rfl) (fun K hK => ?_)
          go_simp
          have hln : ((bnew L).take i).length = i := by rw [List.length_take]; unfold bnew; rw [List.length_map]; have := HML.out; have := HII.out; omega
          obtain ⟨A8, c8, w8, r8, a8, g8⟩ := acct15_push A11.out ⟨⟨f, t, (C : Int), m9, g⟩, 0, true, fl15 8 C⟩ (show qb + 1 ≤ w11.heap.size from B11.out.lt) (by rw [hln]; have := HM.out; have := HII.out; omega)
          rw [hln] at r8
          rw [← take_snoc15 HX.out] at a8
          have R8 := Lib.hid r8
          have A8' := Lib.hid a8
          have G8 := Lib.hid g8
          clear r8 a8 g8 hln
          have W8 := Lib.hid (show Below w.heap.size w w8 from bel_upd' L11.out G8.out (fun x hx => Nat.le_trans Q2.out (Nat.le_trans (Nat.le_succ _) (AccR.ge A11.out hx).1)))
          have B8 := Lib.hid (show Blk w8 qb 66 (bsc A i c1) from B11.out.same (G8.out.block _ B11.out.lt (fun e => by have := (AccR.ge A11.out e.symm).1; omega)))
          have K8 := Lib.hid (show Blk w8 qk 37 (lkc ⟨f, t, (C : Int), m9, g⟩) from K11.out.same (G8.out.block _ K11.out.lt (fun e => accr_blk15 A11.out K11.out (by decide) e.symm)))
          have B12 := Lib.hid (B11.out.alloc (.cells #[.int .i64 f, .int .i64 t, .int .u64 (C : Int), .int .i64 m9, .int .u32 g, .int .i64 0, .bool true, .int .u64 (C : Int), .int .u64 (C : Int), .int .u64 (C : Int), .int .u64 (C : Int), .int .u64 (C : Int), .int .u64 (C : Int), .int .u64 (C : Int), .int .u64 (C : Int)] 40))
          have K12 := Lib.hid (K11.out.alloc (.cells #[.int .i64 f, .int .i64 t, .int .u64 (C : Int), .int .i64 m9, .int .u32 g, .int .i64 0, .bool true, .int .u64 (C : Int), .int .u64 (C : Int), .int .u64 (C : Int), .int .u64 (C : Int), .int .u64 (C : Int), .int .u64 (C : Int), .int .u64 (C : Int), .int .u64 (C : Int)] 40))
          clear L11 A11 B11 K11
          refine hK _ _ (fun W => Blk W qk 37 (lkc ⟨f, t, (C : Int), m9, g⟩)) (fun W h => h) K12.out ?_
          clear hK K
          refine way_make rfl (by rfl) (fun K hK => ?_)
          refine op_append rfl rfl rfl R8.out ?_
          refine hK _ _ (fun W => Blk W qk 37 (lkc ⟨f, t, (C : Int), m9, g⟩)) (fun W h => h) K8.out ?_
          clear hK K R8
          repeat
            refine way_pure (v := ?_) rfl (by rfl) (fun W hW => ?_) ?_
            rotate_left
            · have k0 : W.cell? ⟨qk, 0, none⟩ = some (.int .i64 f) := hW.cell 0
              have k1 : W.cell? ⟨qk, 1, none⟩ = some (.int .i64 t) := hW.cell 1
              have k2 : W.cell? ⟨qk, 2, none⟩ = some (.int .u64 (C : Int)) := hW.cell 2
              have k3 : W.cell? ⟨qk, 3, none⟩ = some (.int .i64 m9) := hW.cell 3
              have k4 : W.cell? ⟨qk, 4, none⟩ = some (.int .u32 g) := hW.cell 4
              clear hW
              go_simp
              with_reducible rfl
            simp only [Act.put, List.setIfInBounds_toArray, List.set_cons_zero, List.set_cons_succ]
          refine way_make rfl (by rfl) (fun K hK => ?_)
          have c1' : w8.cell? ⟨qb, 1, none⟩ = some (.slice A i c1) := B8.out.cell 1
          have f1' := B8.out.free 1
          go_simp
          clear c1' f1'
          refine hK _ _ (fun W => Blk W qk 37 (lkc ⟨f, t, (C : Int), m9, g⟩)) (fun W h => h) (K8.out.other (p := ⟨qb, 1, none⟩) (by have := Q5.out; simp only; omega) _) ?_
          clear hK K
          refine way_done ?_
          go_wp2_with fail
          go_roundw
          case rel => exact ⟨i + 1, c8, A8, by first | rfl | (simp; omega), HII.out, B8.out.set 1 _, accr_same15 A8'.out (fun y hy => Below.heap_setCell _ _ _ _ (by have := (AccR.ge A8'.out hy).1; simp only; omega)), W8.out.setCell (p := ⟨qb, 1, none⟩) (show w.heap.size ≤ qb from Q2.out) _⟩
          case measure => have := HII.out; simp [intOf]; omega
        · skip
          go_simp
          ((with_reducible refine (HU.out w6).mono ?_))
          rintro e w13 ⟨rfl, hb⟩
          have L13 := Lib.hid (L6.out.trans (hb.mono L6.out.size))
          have A13 := Lib.hid (AccR.bel A6.out hb)
          have B13 := Lib.hid (B6.out.below hb)
          have K13 := Lib.hid (K6.out.below hb)
          clear hb L6 A6 B6 K6
          go_simp
          refine hK _ _ (fun W => Blk W qk 37 (lkc ⟨f, t, (C : Int), m9, g⟩)) (fun W h => h) K13.out ?_
          clear hK K
          refine way_both rfl (by rfl) rfl (by rfl) (fun K hK => ?_) (fun K hK => ?_)
          · skip
            have c1' : w13.cell? ⟨qb, 1, none⟩ = some (.slice A i c1) := B13.out.cell 1
            go_simp
            clear c1'
            refine hK _ _ (fun W => Blk W qk 37 (lkc ⟨f, t, (C : Int), m9, g⟩)) (fun W h => h) K13.out ?_
            clear hK K
            refine way_make rfl (by rfl) (fun K hK => ?_)
            go_simp
            have hln : ((bnew L).take i).length = i := by rw [List.length_take]; unfold bnew; rw [List.length_map]; have := HML.out; have := HII.out; omega
            obtain ⟨A8, c8, w8, r8, a8, g8⟩ := acct15_push A13.out ⟨⟨f, t, (C : Int), m9, g⟩, 0, true, fl15 8 C⟩ (show qb + 1 ≤ w13.heap.size from B13.out.lt) (by rw [hln]; have := HM.out; have := HII.out; omega)
            rw [hln] at r8
            rw [← take_snoc15 HX.out] at a8
            have R8 := Lib.hid r8
            have A8' := Lib.hid a8
            have G8 := Lib.hid g8
            clear r8 a8 g8 hln
            have W8 := Lib.hid (show Below w.heap.size w w8 from bel_upd' L13.out G8.out (fun x hx => Nat.le_trans Q2.out (Nat.le_trans (Nat.le_succ _) (AccR.ge A13.out hx).1)))
            have B8 := Lib.hid (show Blk w8 qb 66 (bsc A i c1) from B13.out.same (G8.out.block _ B13.out.lt (fun e => by have := (AccR.ge A13.out e.symm).1; omega)))
            have K8 := Lib.hid (show Blk w8 qk 37 (lkc ⟨f, t, (C : Int), m9, g⟩) from K13.out.same (G8.out.block _ K13.out.lt (fun e => accr_blk15 A13.out K13.out (by decide) e.symm)))
            have B14 := Lib.hid (B13.out.alloc (.cells #[.int .i64 f, .int .i64 t, .int .u64 (C : Int), .int .i64 m9, .int .u32 g, .int .i64 0, .bool true, .int .u64 (C : Int), .int .u64 (C : Int), .int .u64 (C : Int), .int .u64 (C : Int), .int .u64 (C : Int), .int .u64 (C : Int), .int .u64 (C : Int), .int .u64 (C : Int)] 40))
            have K14 := Lib.hid (K13.out.alloc (.cells #[.int .i64 f, .int .i64 t, .int .u64 (C : Int), .int .i64 m9, .int .u32 g, .int .i64 0, .bool true, .int .u64 (C : Int), .int .u64 (C : Int), .int .u64 (C : Int), .int .u64 (C : Int), .int .u64 (C : Int), .int .u64 (C : Int), .int .u64 (C : Int), .int .u64 (C : Int)] 40))
            clear L13 A13 B13 K13
            refine hK _ _ (fun W => Blk W qk 37 (lkc ⟨f, t, (C : Int), m9, g⟩)) (fun W h => h) K14.out ?_
            clear hK K
            refine way_make rfl (by rfl) (fun K hK => ?_)
            refine op_append rfl rfl rfl R8.out ?_
            refine hK _ _ (fun W => Blk W qk 37 (lkc ⟨f, t, (C : Int), m9, g⟩)) (fun W h => h) K8.out ?_
            clear hK K R8
            repeat
              refine way_pure (v := ?_) rfl (by rfl) (fun W hW => ?_) ?_
              rotate_left
              · have k0 : W.cell? ⟨qk, 0, none⟩ = some (.int .i64 f) := hW.cell 0
                have k1 : W.cell? ⟨qk, 1, none⟩ = some (.int .i64 t) := hW.cell 1
                have k2 : W.cell? ⟨qk, 2, none⟩ = some (.int .u64 (C : Int)) := hW.cell 2
                have k3 : W.cell? ⟨qk, 3, none⟩ = some (.int .i64 m9) := hW.cell 3
                have k4 : W.cell? ⟨qk, 4, none⟩ = some (.int .u32 g) := hW.cell 4
                clear hW
                go_simp
                with_reducible rfl
              simp only [Act.put, List.setIfInBounds_toArray, List.set_cons_zero, List.set_cons_succ]
            refine way_make rfl (by rfl) (fun K hK => ?_)
            have c1' : w8.cell? ⟨qb, 1, none⟩ = some (.slice A i c1) := B8.out.cell 1
            have f1' := B8.out.free 1
            go_simp
            clear c1' f1'
            refine hK _ _ (fun W => Blk W qk 37 (lkc ⟨f, t, (C : Int), m9, g⟩)) (fun W h => h) (K8.out.other (p := ⟨qb, 1, none⟩) (by have := Q5.out; simp only; omega) _) ?_
            clear hK K
            refine way_done ?_
            go_wp2_with fail
            go_roundw
            case rel => exact ⟨i + 1, c8, A8, by first | rfl | (simp; omega), HII.out, B8.out.set 1 _, accr_same15 A8'.out (fun y hy => Below.heap_setCell _ _ _ _ (by have := (AccR.ge A8'.out hy).1; simp only; omega)), W8.out.setCell (p := ⟨qb, 1, none⟩) (show w.heap.size ≤ qb from Q2.out) _⟩
            case measure => have := HII.out; simp [intOf]; omega
          · skip
            go_simp
            have hln : ((bnew L).take i).length = i := by rw [List.length_take]; unfold bnew; rw [List.length_map]; have := HML.out; have := HII.out; omega
            obtain ⟨A8, c8, w8, r8, a8, g8⟩ := acct15_push A13.out ⟨⟨f, t, (C : Int), m9, g⟩, 0, true, fl15 8 C⟩ (show qb + 1 ≤ w13.heap.size from B13.out.lt) (by rw [hln]; have := HM.out; have := HII.out; omega)
            rw [hln] at r8
            rw [← take_snoc15 HX.out] at a8
            have R8 := Lib.hid r8
            have A8' := Lib.hid a8
            have G8 := Lib.hid g8
            clear r8 a8 g8 hln
            have W8 := Lib.hid (show Below w.heap.size w w8 from bel_upd' L13.out G8.out (fun x hx => Nat.le_trans Q2.out (Nat.le_trans (Nat.le_succ _) (AccR.ge A13.out hx).1)))
            have B8 := Lib.hid (show Blk w8 qb 66 (bsc A i c1) from B13.out.same (G8.out.block _ B13.out.lt (fun e => by have := (AccR.ge A13.out e.symm).1; omega)))
            have K8 := Lib.hid (show Blk w8 qk 37 (lkc ⟨f, t, (C : Int), m9, g⟩) from K13.out.same (G8.out.block _ K13.out.lt (fun e => accr_blk15 A13.out K13.out (by decide) e.symm)))
            have B15 := Lib.hid (B13.out.alloc (.cells #[.int .i64 f, .int .i64 t, .int .u64 (C : Int), .int .i64 m9, .int .u32 g, .int .i64 0, .bool true, .int .u64 (C : Int), .int .u64 (C : Int), .int .u64 (C : Int), .int .u64 (C : Int), .int .u64 (C : Int), .int .u64 (C : Int), .int .u64 (C : Int), .int .u64 (C : Int)] 40))
            have K15 := Lib.hid (K13.out.alloc (.cells #[.int .i64 f, .int .i64 t, .int .u64 (C : Int), .int .i64 m9, .int .u32 g, .int .i64 0, .bool true, .int .u64 (C : Int), .int .u64 (C : Int), .int .u64 (C : Int), .int .u64 (C : Int), .int .u64 (C : Int), .int .u64 (C : Int), .int .u64 (C : Int), .int .u64 (C : Int)] 40))
            clear L13 A13 B13 K13
            refine hK _ _ (fun W => Blk W qk 37 (lkc ⟨f, t, (C : Int), m9, g⟩)) (fun W h => h) K15.out ?_
            clear hK K
            refine way_make rfl (by rfl) (fun K hK => ?_)
            have c1' := (show (w13.alloc (.cells #[.int .i64 f, .int .i64 t, .int .u64 (C : Int), .int .i64 m9, .int .u32 g, .int .i64 0, .bool true, .int .u64 (C : Int), .int .u64 (C : Int), .int .u64 (C : Int), .int .u64 (C : Int), .int .u64 (C : Int), .int .u64 (C : Int), .int .u64 (C : Int), .int .u64 (C : Int)] 40)).cell? ⟨qb, 1, none⟩ = some (.slice A i c1) from B15.out.cell 1)
            go_simp
            clear c1'
            refine hK _ _ (fun W => Blk W qk 37 (lkc ⟨f, t, (C : Int), m9, g⟩)) (fun W h => h) K15.out ?_
            clear hK K
            refine way_make rfl (by rfl) (fun K hK => ?_)
            refine op_append rfl rfl rfl R8.out ?_
            refine hK _ _ (fun W => Blk W qk 37 (lkc ⟨f, t, (C : Int), m9, g⟩)) (fun W h => h) K8.out ?_
            clear hK K R8
            repeat
              refine way_pure (v := ?_) rfl (by rfl) (fun W hW => ?_) ?_
              rotate_left
              · have k0 : W.cell? ⟨qk, 0, none⟩ = some (.int .i64 f) := hW.cell 0
                have k1 : W.cell? ⟨qk, 1, none⟩ = some (.int .i64 t) := hW.cell 1
                have k2 : W.cell? ⟨qk, 2, none⟩ = some (.int .u64 (C : Int)) := hW.cell 2
                have k3 : W.cell? ⟨qk, 3, none⟩ = some (.int .i64 m9) := hW.cell 3
                have k4 : W.cell? ⟨qk, 4, none⟩ = some (.int .u32 g) := hW.cell 4
                clear hW
                go_simp
                with_reducible rfl
              simp only [Act.put, List.setIfInBounds_toArray, List.set_cons_zero, List.set_cons_succ]
            refine way_make rfl (by rfl) (fun K hK => ?_)
            have c1' : w8.cell? ⟨qb, 1, none⟩ = some (.slice A i c1) := B8.out.cell 1
            have f1' := B8.out.free 1
            go_simp
            clear c1' f1'
            refine hK _ _ (fun W => Blk W qk 37 (lkc ⟨f, t, (C : Int), m9, g⟩)) (fun W h => h) (K8.out.other (p := ⟨qb, 1, none⟩) (by have := Q5.out; simp only; omega) _) ?_
            clear hK K
            refine way_done ?_
            go_wp2_with fail
            go_roundw
            case rel => exact ⟨i + 1, c8, A8, by first | rfl | (simp; omega), HII.out, B8.out.set 1 _, accr_same15 A8'.out (fun y hy => Below.heap_setCell _ _ _ _ (by have := (AccR.ge A8'.out hy).1; simp only; omega)), W8.out.setCell (p := ⟨qb, 1, none⟩) (show w.heap.size ≤ qb from Q2.out) _⟩
            case measure => have := HII.out; simp [intOf]; omega
      · obtain rfl : i = m := by omega
        have i1 : ¬ (i : Int) < (i : Int) := by omega
        clear hin hin2
        go_wp2_with fail
        go_ret
        have hA := HA.out
        rw [List.take_of_length_le (by unfold bnew; rw [List.length_map, HML.out]; exact Nat.le_refl _)] at hA
        have hB := HB.out
        have hlb : (bnew L).length = i := by unfold bnew; rw [List.length_map]; exact HML.out
        have hS := HSM.out
        have hbs := bs15_new hS.2.1 HC.out
        unfold Nw15
        refine ⟨qb, qb :: (blk A).toList, rfl, ⟨A, c1, by rw [hlb]; exact hB, AccR.lower hA (Nat.zero_le _), fun y hy => ?_, rfl, fun y hy => ⟨hbs.ok y hy, ?_⟩, by have := HML.out; omega⟩, fun y hy => ?_, HL.out⟩
        · have := (AccR.ge hA hy).1; omega
        · have := hbs.vld y hy
          unfold vldA at this
          rw [Bool.and_eq_true] at this
          have := vldH_iff.1 this.1
          unfold I15; omega
        · rcases List.mem_cons.1 hy with rfl | hy
          · exact Q2.out
          · have := (AccR.ge hA (by simpa using hy)).1
            have := Q2.out
            omega
end Go.Proofs.Ytmfmjdkeoiebpaa
