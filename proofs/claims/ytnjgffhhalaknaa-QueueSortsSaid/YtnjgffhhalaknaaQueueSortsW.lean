/-
  The law QueueSorts, walked: for every slice of items the answer is true, and nothing that was there has turned. No condition.
-/
import Derived.Test.YtnjgffhhalaknaaQueueLeastW
import Derived.Test.YtnjgffhhalaknaaQueueEq
import Derived.Test.YtnjgffhhalaknaaGrT
namespace Go.Proofs.Ytnjgffhhalaknaa
open Go.RowKit

theorem infoBoolQ : (Try.prog.info? 4).map (fun i => (i.zero, i.size, i.bytes)) = some (some (.bool false), 1, 1) := by kernel_rfl
theorem make_boolsQ (n : Nat) (hn : n ≤ 1099511627776) (W : World) : (Instr.makeSlice 46 (.int .i64 (n : Int)) (.int .i64 (n : Int))).run Try.prog W =
      .ok (.slice (some ⟨W.heap.size, 0, none⟩) n n) (W.alloc (.cells (Array.replicate n (Value.bool false)) 4)) := by
  have h := run_make_row' (P := Try.prog) 46 4 (.bool false) 1 Try.underlying46 infoBoolQ rfl .i64 .i64 n (by omega) (by omega) W
  have hm : madeCells (Value.bool false).cells n = Array.replicate n (Value.bool false) := by
    apply Array.ext
    · simp [madeCells]
    · intro i h1 h2
      simp [madeCells, Value.cells, Nat.mod_one]
  rw [← hm]
  exact h
/-- Marks in a block. -/
def MksQ (w : World) (q : Nat) (bs : List Bool) : Prop := Blk w q 4 (bs.map Value.bool)
theorem MksQ.cell {w : World} {q : Nat} {bs : List Bool} (h : MksQ w q bs) {k : Nat} {b : Bool} (hk : bs[k]? = some b) : w.cell? ⟨q, k, none⟩ = some (.bool b) := by
  have := Blk.cell h k
  rw [this, List.getElem?_map, hk]; rfl
theorem MksQ.set {w : World} {q : Nat} {bs : List Bool} (h : MksQ w q bs) (k : Nat) : MksQ (w.setCell ⟨q, k, none⟩ (.bool true)) q (bs.set k true) := by
  have := Blk.set h k (.bool true)
  unfold MksQ
  rw [List.map_set]; exact this

/-- While items are popped: what the queue still has, what was struck out, and what came last. -/
structure Sts (w W : World) (q p g hb lb m i : Nat) (es : List Itm) (bs : List Bool) (lst : Itm) (ql : List Itm) : Prop where
  qe : Qe W w.heap.size q p g ql
  mks : MksQ W hb bs
  la : Blk W lb 23 (itL lst)
  ne : hb ≠ p ∧ hb ≠ g ∧ hb ≠ q ∧ lb ≠ p ∧ lb ≠ g ∧ lb ≠ q ∧ hb ≠ lb ∧ w.heap.size ≤ hb ∧ w.heap.size ≤ lb
  bel : Below w.heap.size w W
  len : ql.length + i = m
  bl : bs.length = m
  perm : ql.Perm (rmn (es.take m) bs)
  le : 0 < i → ∀ y ∈ ql, iLe lst y

theorem Qe.sorted {w : World} {base q p g : Nat} {l : List Itm} (h : Qe w base q p g l) : l.Pairwise iLe := by obtain ⟨c, f, _, h3⟩ := h.items; exact h3.order

set_option maxRecDepth 100000 in
set_option maxHeartbeats 3200000 in
theorem sorts_walk (a : Option Addr) (n c : Nat) (w : World) (h : n ≤ c ∧ c ≤ maxLen ∧ ∃ es, Row itL w w.heap.size a n es) : Calls Try.prog 5 #[.slice a n c] w fun e w' => e = .returned (.bool true) ∧ Below w.heap.size w w' := by
  obtain ⟨hnc, hcm, es, hes⟩ := h
  have hmx : n ≤ maxLen := by omega
  have ha := alive10_calls w
  have HR := Lib.hid hes
  unfold maxLen at hmx
  clear hnc hcm hes
  go_enter Try.func5, Try.ntmps5
  go_wp2_with fail
  ((with_reducible refine ha.mono ?_))
  rintro e w1 ⟨rfl, b1⟩
  have hn := qs_new b1
  have B1 := Lib.hid b1
  clear ha b1
  go_wp2_with fail
  ((with_reducible refine hn.mono ?_))
  rintro e w2 ⟨q, rfl, h2⟩
  have H2 := Lib.hid h2
  clear hn h2
  go_upto_block 0 with fail
  go_cut [4] from 18 to 35 (fun s W => ∃ m : Nat, s = .int .i64 (m : Int) ∧ m ≤ n ∧ m ≤ 400 ∧ Qs w W q (pushQ (es.take m)))
  case first =>
    go_wp2_with fail
    go_loopw [4] (fun t wr => ∃ i : Nat, i ≤ n ∧ i ≤ 400 ∧ t = .int .i64 (i : Int) ∧ Qs w wr q (pushQ (es.take i))) (fun t wr => 400 - (intOf t).toNat)
    case atStart => exact ⟨0, Nat.zero_le _, by omega, rfl, H2.out⟩
    case round =>
      obtain ⟨i, hin, hi4, rfl, h3⟩ := hrel
      have H3 := Lib.hid h3
      clear h3
      by_cases hlt : i < n ∧ i < 400
      · obtain ⟨hl1, hl2⟩ := hlt
        obtain ⟨b, o, x, rfl, hx, hb, hr⟩ := row_itemQ HR.out (i := i) hl1
        have hr' := fun k v h => (H3.out.1.cell (p := ⟨b, o + i * 3 + k, none⟩) hb).trans (hr k v h)
        have c0 : wr.cell? ⟨b, o + i * 3, none⟩ = some (.int .i64 x.cost) := hr' 0 _ rfl
        have c1 : wr.cell? ⟨b, o + i * 3 + 1, none⟩ = some (.int .i64 x.hops) := hr' 1 _ rfl
        have c2 : wr.cell? ⟨b, o + i * 3 + 2, none⟩ = some (.int .i64 x.node) := hr' 2 _ rfl
        have i1 : (i : Int) < (n : Int) := by omega
        have i2 : (i : Int) < 400 := by omega
        have ht : Calls Try.prog 9 #[.agg #[.int .i64 x.cost, .int .i64 x.hops, .int .i64 x.node]] wr (AggPost x wr) := theirs10_calls x wr
        have HXX := Lib.hid hx
        clear hr hr' hx hb
        go_wp2_with fail
        ((with_reducible refine ht.mono ?_))
        rintro e w3 ⟨rfl, b3⟩
        have H4 := Lib.hid (H3.out.bel b3)
        have hp := qs_push H4.out x
        have HPL := Lib.hid (show ¬ 1024 ≤ (pushQ (es.take i)).length by have := (pushQ_perm (es.take i)).length_eq; rw [List.length_take] at this; omega)
        unfold QsPush at hp
        rw [if_neg HPL.out, if_neg HPL.out, ← pushQ_snoc, ← take_snoc HXX.out] at hp
        clear ht b3 c0 c1 c2
        go_wp2_with fail
        ((with_reducible refine hp.mono ?_))
        rintro e w5 ⟨rfl, h5⟩
        have H5 := Lib.hid h5
        clear hp h5
        go_wp2_with fail
        go_roundw
        case rel => exact ⟨i + 1, by omega, by omega, rfl, H5.out⟩
        case measure => simp [intOf]; omega
      · by_cases hl1 : i < n
        · have i1 : (i : Int) < (n : Int) := by omega
          have i2 : ¬ (i : Int) < 400 := by omega
          go_wp2_with fail
          go_meet
          exact ⟨i, rfl, hin, hi4, H3.out⟩
        · have i1 : ¬ (i : Int) < (n : Int) := by omega
          go_wp2_with fail
          go_meet
          exact ⟨i, rfl, hin, hi4, H3.out⟩
  case rest =>
    obtain ⟨m, rfl, hmn, hm4, h3⟩ := hcut
    have H3 := Lib.hid h3
    have hmk := make_boolsQ m (by omega)
    have HM := Lib.hid (And.intro hmn hm4)
    have HMK := Lib.hid hmk
    clear h3 hmn hmk
    have hmk' := HMK.out wc
    go_wp2_with fail
    obtain ⟨bw, p, g, hqe⟩ := H3.out
    have hst : Sts w ((wc.alloc (.cells (Array.replicate m (Value.bool false)) 4)).alloc (.cells #[.int .i64 0, .int .i64 0, .int .i64 0] 23)) q p g wc.heap.size (wc.heap.size + 1) m 0 es (List.replicate m false) ⟨0, 0, 0⟩ (pushQ (es.take m)) := by
      have hlt := hqe.lt
      have bl := bel_new (bel_new (Below.refl wc.heap.size wc) (.cells (Array.replicate m (Value.bool false)) 4)) (.cells #[.int .i64 0, .int .i64 0, .int .i64 0] 23)
      have hlen : (es.take m).length = m := by rw [List.length_take]; have := HR.out.1; have := HM.out; omega
      refine ⟨hqe.bel bl, ?_, ?_, by have := bw.size; omega, bw.trans (bl.mono bw.size), by have := (pushQ_perm (es.take m)).length_eq; omega, by simp, ?_, by omega⟩
      · have := (Blk.new wc 4 ((List.replicate m false).map Value.bool)).alloc (.cells #[.int .i64 0, .int .i64 0, .int .i64 0] 23)
        simpa [MksQ] using this
      · have := Blk.new (wc.alloc (.cells (Array.replicate m (Value.bool false)) 4)) 23 (itL ⟨0, 0, 0⟩)
        simpa [itL] using this
      · have := rmn_none (es.take m)
        rw [hlen] at this
        rw [this]
        exact pushQ_perm _
    generalize hlb : wc.heap.size + 1 = lb at hst ⊢
    generalize (wc.alloc (.cells (Array.replicate m (Value.bool false)) 4)).alloc (.cells #[.int .i64 0, .int .i64 0, .int .i64 0] 23) = w8 at hst ⊢
    generalize hhb : wc.heap.size = hb at hst ⊢
    have ST := Lib.hid hst
    clear hst hqe bw hmk' hlb hhb HMK H3 H2 B1
    go_wp2_with fail
    go_loopw [40] (fun t wr => ∃ (i : Nat) (bs : List Bool) (lst : Itm) (ql : List Itm), i ≤ m ∧ t = .int .i64 (i : Int) ∧ Sts w wr q p g hb lb m i es bs lst ql) (fun t wr => m - (intOf t).toNat)
    case atStart => exact ⟨0, _, _, _, Nat.zero_le _, rfl, ST.out⟩
    case round =>
      obtain ⟨i, bs, lst, ql, him, rfl, hst⟩ := hrel
      have S1 := Lib.hid hst
      clear hst ST
      by_cases hlt : i < m
      · obtain ⟨z, r, hz⟩ : ∃ z r, ql = z :: r := by
          cases ql with
          | nil => have := S1.out.len; simp at this; omega
          | cons z r => exact ⟨z, r, rfl⟩
        subst hz
        have hpp := qpop_calls S1.out.qe
        unfold QPopPost at hpp
        have ez : (Value.agg (itL (hdQ (z :: r))).toArray) = .agg #[.int .i64 z.cost, .int .i64 z.hops, .int .i64 z.node] := rfl
        have ee : erQ (z :: r) = 0 := rfl
        rw [ez, ee] at hpp
        clear ez ee
        go_wp2_with fail
        ((with_reducible refine hpp.mono ?_))
        rintro e w5 ⟨rfl, h5, t5⟩
        have H5 := Lib.hid (show Qe w5 w.heap.size q p g r from h5)
        have M5 := Lib.hid (show MksQ w5 hb bs from S1.out.mks.same (t5.block hb S1.out.mks.lt (by have := S1.out.ne; simp; omega)))
        have L5 := Lib.hid (show Blk w5 lb 23 (itL lst) from S1.out.la.same (t5.block lb S1.out.la.lt (by have := S1.out.ne; simp; omega)))
        have B5 := Lib.hid (show Below w.heap.size w w5 from t5.bel S1.out.bel (Nat.le_refl _) (by have := S1.out.qe.lo; simp; omega))
        clear h5 t5 hpp
        go_upto_region 17 with fail
        have bz : Below w5.heap.size w5 (w5.alloc (.cells #[.int .i64 z.cost, .int .i64 z.hops, .int .i64 z.node] 25)) := bel_new (Below.refl _ _) _
        have H6 := Lib.hid (H5.out.bel bz)
        have M6 := Lib.hid (show MksQ (w5.alloc (.cells #[.int .i64 z.cost, .int .i64 z.hops, .int .i64 z.node] 25)) hb bs from M5.out.below bz)
        have L6 := Lib.hid (L5.out.below bz)
        have B6 := Lib.hid (B5.out.trans (bz.mono B5.out.size))
        have Z6 := Lib.hid (show Blk (w5.alloc (.cells #[.int .i64 z.cost, .int .i64 z.hops, .int .i64 z.node] 25)) w5.heap.size 25 (itL z) from Blk.new w5 _ (itL z))
        clear bz
        generalize w5.alloc (.cells #[.int .i64 z.cost, .int .i64 z.hops, .int .i64 z.node] 25) = w6 at *
        generalize w5.heap.size = zb at *
        go_cut [59] from 48 to 58 (fun s W => s = Value.bool false ∧ Below w6.heap.size w6 W)
        case first =>
          by_cases i0 : i = 0
          · subst i0
            refine region_seq (fun W => Below w6.heap.size w6 W) [(0, true), (1, true), (2, true), (3, true), (4, true), (5, true), (6, true), (8, true), (7, false), (9, false), (10, true), (11, true)]
              (by kernel_rfl) (by kernel_rfl) (by kernel_rfl) (by kernel_rfl) (fun _ _ _ _ _ h => h) (Below.refl _ _).drew ?_
            repeat first
              | refine seq_load8 rfl (by rfl) rfl rfl (fun W hW => Z6.out.below hW) Try.underlying25 rfl infoItem ?_
                simp only [Act.put, List.setIfInBounds_toArray, List.set_cons_zero, List.set_cons_succ]
              | refine seq_load8 rfl (by rfl) rfl rfl (fun W hW => L6.out.below hW) Try.underlying23 rfl infoItemR ?_
                simp only [Act.put, List.setIfInBounds_toArray, List.set_cons_zero, List.set_cons_succ]
              | refine seq_skip rfl (by rfl) ?_
                simp only [Act.put, List.setIfInBounds_toArray, List.set_cons_zero, List.set_cons_succ]
              | refine seq_pure (v := ?_) rfl (by rfl) (fun W hW => ?_) ?_
                rotate_left
                · clear hW
                  go_simp
                  with_reducible rfl
                simp only [Act.put, List.setIfInBounds_toArray, List.set_cons_zero, List.set_cons_succ]
            refine seq_unmakeQ rfl (by rfl) (Below.refl _ _).drew ?_
            simp only [Act.put, List.setIfInBounds_toArray, List.set_cons_zero, List.set_cons_succ]
            refine seq_unmakeQ rfl (by rfl) (Below.refl _ _).drew ?_
            simp only [Act.put, List.setIfInBounds_toArray, List.set_cons_zero, List.set_cons_succ]
            repeat first
              | refine seq_load8 rfl (by rfl) rfl rfl (fun W hW => Z6.out.below hW) Try.underlying25 rfl infoItem ?_
                simp only [Act.put, List.setIfInBounds_toArray, List.set_cons_zero, List.set_cons_succ]
              | refine seq_load8 rfl (by rfl) rfl rfl (fun W hW => L6.out.below hW) Try.underlying23 rfl infoItemR ?_
                simp only [Act.put, List.setIfInBounds_toArray, List.set_cons_zero, List.set_cons_succ]
              | refine seq_skip rfl (by rfl) ?_
                simp only [Act.put, List.setIfInBounds_toArray, List.set_cons_zero, List.set_cons_succ]
              | refine seq_pure (v := ?_) rfl (by rfl) (fun W hW => ?_) ?_
                rotate_left
                · clear hW
                  go_simp
                  with_reducible rfl
                simp only [Act.put, List.setIfInBounds_toArray, List.set_cons_zero, List.set_cons_succ]
            refine seq_done ?_
            go_wp2_with fail
            go_meet
            exact ⟨rfl, (Below.refl _ _).drew⟩
          · have i1 : (0 : Int) < (i : Int) := by omega
            have i2 : 0 < i := by omega
            have hg1 : decide (0 < i) = true := by simpa using i2
            have hg2 : decide ((0 : Int) < (i : Int)) = true := by simpa using i2
            have hd : decide (iLt z lst) = false := by simpa [iLe] using S1.out.le (by omega) z (List.mem_cons_self ..)
            have hlc : ∀ W, Calls Try.prog 10 #[.agg (itL z).toArray, .agg (itL lst).toArray] W fun e w' => e = .returned (.bool false) ∧ Below W.heap.size W w' := by
              intro W
              have := rless10_calls z lst W
              unfold LessPost at this
              rwa [hd] at this
            have htc : ∀ W, Calls Try.prog 15 #[.agg (itL z).toArray] W fun e w' => e = .returned (.agg (itL z).toArray) ∧ Below W.heap.size W w' := fun W => ours10_calls z W
            have HLC := Lib.hid hlc
            have HTC := Lib.hid htc
            clear hd hlc htc i0
            refine region_seq (fun W => Below w6.heap.size w6 W) [(0, true), (1, true), (2, true), (3, true), (4, true), (5, true), (6, true), (8, true), (7, false), (9, false), (10, true), (11, true)]
              (by kernel_rfl) (by kernel_rfl) (by kernel_rfl) (by kernel_rfl) (fun _ _ _ _ _ h => h) (Below.refl _ _).drew ?_
            repeat first
              | refine seq_load8 rfl (by rfl) rfl rfl (fun W hW => Z6.out.below hW) Try.underlying25 rfl infoItem ?_
                simp only [Act.put, List.setIfInBounds_toArray, List.set_cons_zero, List.set_cons_succ]
              | refine seq_load8 rfl (by rfl) rfl rfl (fun W hW => L6.out.below hW) Try.underlying23 rfl infoItemR ?_
                simp only [Act.put, List.setIfInBounds_toArray, List.set_cons_zero, List.set_cons_succ]
              | refine seq_skip rfl (by rfl) ?_
                simp only [Act.put, List.setIfInBounds_toArray, List.set_cons_zero, List.set_cons_succ]
              | refine seq_pure (v := ?_) rfl (by rfl) (fun W hW => ?_) ?_
                rotate_left
                · clear hW
                  go_simp
                  with_reducible rfl
                simp only [Act.put, List.setIfInBounds_toArray, List.set_cons_zero, List.set_cons_succ]
            refine seq_make rfl (by rfl) (fun K hK => ?_)
            go_simp
            ((with_reducible refine (HTC.out w6.drew).mono ?_))
            rintro e w7 ⟨rfl, hb7⟩
            have C7 := Lib.hid (show Below w6.heap.size w6 w7 from below_of_drew hb7)
            clear hb7
            go_simp
            refine hK _ _ (fun W => Below w6.heap.size w6 W) (fun W h => h) C7.out ?_
            clear hK K
            refine seq_make rfl (by rfl) (fun K hK => ?_)
            go_simp
            ((with_reducible refine (HLC.out w7).mono ?_))
            rintro e w9 ⟨rfl, hb9⟩
            have C9 := Lib.hid (show Below w6.heap.size w6 w9 from C7.out.trans (hb9.mono C7.out.size))
            clear hb9
            go_simp
            refine hK _ _ (fun W => Below w6.heap.size w6 W) (fun W h => h) C9.out ?_
            clear hK K
            repeat first
              | refine seq_load8 rfl (by rfl) rfl rfl (fun W hW => Z6.out.below hW) Try.underlying25 rfl infoItem ?_
                simp only [Act.put, List.setIfInBounds_toArray, List.set_cons_zero, List.set_cons_succ]
              | refine seq_load8 rfl (by rfl) rfl rfl (fun W hW => L6.out.below hW) Try.underlying23 rfl infoItemR ?_
                simp only [Act.put, List.setIfInBounds_toArray, List.set_cons_zero, List.set_cons_succ]
              | refine seq_skip rfl (by rfl) ?_
                simp only [Act.put, List.setIfInBounds_toArray, List.set_cons_zero, List.set_cons_succ]
              | refine seq_pure (v := ?_) rfl (by rfl) (fun W hW => ?_) ?_
                rotate_left
                · clear hW
                  go_simp
                  with_reducible rfl
                simp only [Act.put, List.setIfInBounds_toArray, List.set_cons_zero, List.set_cons_succ]
            refine seq_done ?_
            go_wp2_with fail
            go_meet
            exact ⟨rfl, C9.out⟩
        case rest =>
          obtain ⟨rfl, hc7⟩ := hcut
          have H7 := Lib.hid (H6.out.bel hc7)
          have M7 := Lib.hid (show MksQ wc hb bs from M6.out.below hc7)
          have L7 := Lib.hid (L6.out.below hc7)
          have B7 := Lib.hid (B6.out.trans (hc7.mono B6.out.size))
          have z0 : wc.cell? ⟨zb, 0, none⟩ = some (.int .i64 z.cost) := (Z6.out.below hc7).cell 0
          have z1 : wc.cell? ⟨zb, 1, none⟩ = some (.int .i64 z.hops) := (Z6.out.below hc7).cell 1
          have z2 : wc.cell? ⟨zb, 2, none⟩ = some (.int .i64 z.node) := (Z6.out.below hc7).cell 2
          have ht : Calls Try.prog 15 #[.agg #[.int .i64 z.cost, .int .i64 z.hops, .int .i64 z.node]] wc (AggPost z wc) := ours10_calls z wc
          clear hc7
          go_wp2_with fail
          ((with_reducible refine ht.mono ?_))
          rintro e w9 ⟨rfl, b9⟩
          have H9 := Lib.hid (H7.out.bel b9)
          have M9 := Lib.hid (show MksQ w9 hb bs from M7.out.below b9)
          have L9 := Lib.hid (L7.out.below b9)
          have B9 := Lib.hid (B7.out.trans (b9.mono B7.out.size))
          clear b9 ht z0 z1 z2
          have f0 := L9.out.free 0
          have f1 := L9.out.free 1
          have f2 := L9.out.free 2
          have c0 : w9.cell? ⟨lb, 0, none⟩ = some (.int .i64 lst.cost) := L9.out.cell 0
          have c1 : w9.cell? ⟨lb, 1, none⟩ = some (.int .i64 lst.hops) := L9.out.cell 1
          have c2 : w9.cell? ⟨lb, 2, none⟩ = some (.int .i64 lst.node) := L9.out.cell 2
          have e9 : (Value.agg (itL z).toArray) = .agg #[.int .i64 z.cost, .int .i64 z.hops, .int .i64 z.node] := rfl
          rw [e9]
          clear e9
          go_upto_region 20 with fail
          have hp3 := put3 L9.out (.int .i64 z.cost) (.int .i64 z.hops) (.int .i64 z.node)
          clear f0 f1 f2 c0 c1 c2
          generalize ((w9.setCell ⟨lb, 0, none⟩ (.int .i64 z.cost)).setCell ⟨lb, 1, none⟩ (.int .i64 z.hops)).setCell ⟨lb, 2, none⟩ (.int .i64 z.node) = w10 at *
          obtain ⟨hb10, hg10⟩ := hp3
          have H10 := Lib.hid (H9.out.other hg10 (by have := S1.out.ne; omega) (by have := S1.out.ne; omega) (by have := S1.out.ne; omega))
          have M10 := Lib.hid (show MksQ w10 hb bs from M9.out.same (hg10.block hb M9.out.lt (by have := S1.out.ne; simp; omega)))
          have B10 := Lib.hid (show Below w.heap.size w w10 from B9.out.grown hg10 B9.out.size (fun k hk => by injection hk with hk; have := S1.out.ne; omega))
          have L10 := Lib.hid hb10
          clear hb10 hg10
          obtain ⟨k0, hk1, hk2⟩ := rmn_has S1.out.perm
          have hk0 : k0 < m := by
            have := (List.getElem?_eq_some_iff.1 hk2).1
            have := S1.out.bl
            omega
          have hk3 : es[k0]? = some z := by rw [List.getElem?_take, if_pos hk0] at hk1; exact hk1
          have K0 := Lib.hid (And.intro hk0 (And.intro hk3 hk2))
          clear hk0 hk1 hk2 hk3
          go_wp2_with fail
          go_loopw [10] (fun t wo => ∃ k j : Nat, k ≤ k0 ∧ t = .int .i64 (k : Int) ∧ wo = w10.drewN j) (fun t wo => k0 - (intOf t).toNat)
          case atStart => exact ⟨0, 0, Nat.zero_le _, rfl, rfl⟩
          case round =>
            obtain ⟨k, j, hk, rfl, rfl⟩ := hrel
            have hkm : k < m := by have := K0.out.1; omega
            obtain ⟨b, o, y, rfl, hy, hb', hr⟩ := row_itemQ HR.out (i := k) (by have := HM.out; omega)
            obtain ⟨bk, hbk⟩ : ∃ bk, bs[k]? = some bk := ⟨bs[k]'(by rw [S1.out.bl]; exact hkm), List.getElem?_eq_getElem _⟩
            have k1 : (k : Int) < (n : Int) := by have := HM.out; omega
            have k2 : (k : Int) < (m : Int) := by omega
            have HRX := Lib.hid (show ∀ W, Below w10.heap.size w10 W → W.rangeAt b (o + k * 3) (itL y) from fun W hW u v hv => ((B10.out.trans (hW.mono B10.out.size)).cell (p := ⟨b, o + k * 3 + u, none⟩) hb').trans (hr u v hv))
            have LB := L10
            have HBC := Lib.hid (show ∀ W, Below w10.heap.size w10 W → W.cell? ⟨hb, k, none⟩ = some (.bool bk) from fun W hW => MksQ.cell (show MksQ W hb bs from M10.out.below hW) hbk)
            have HBK := Lib.hid hbk
            have HY := Lib.hid hy
            clear hb' hr hbk hy hkm
            by_cases hc : bk = false ∧ y = z
            · obtain ⟨rfl, rfl⟩ := hc
              have hdv : decide (y ≠ y) = false := by simp
              go_wp2_with fail
              refine region_seq (fun W => Below w10.heap.size w10 W) [(0, true), (1, true), (2, true), (3, true), (4, true), (5, true), (6, true), (7, true), (8, true), (9, true), (10, true), (11, true), (12, true), (13, true), (14, true), (15, true), (16, true)]
                (by kernel_rfl) (by kernel_rfl) (by kernel_rfl) (by kernel_rfl) (fun _ _ _ _ _ h => h) (bel_drewN (Below.refl _ _) (j + 1)) ?_
              repeat first
                | refine seq_load_at rfl (by rfl) rfl rfl (fun W hW => HRX.out W hW) Try.underlying23 rfl infoItemR ?_
                  simp only [Act.put, List.setIfInBounds_toArray, List.set_cons_zero, List.set_cons_succ]
                | refine seq_load8 rfl (by rfl) rfl rfl (fun W hW => LB.out.below hW) Try.underlying23 rfl infoItemR ?_
                  simp only [Act.put, List.setIfInBounds_toArray, List.set_cons_zero, List.set_cons_succ]
                | refine seq_skip rfl (by rfl) ?_
                  simp only [Act.put, List.setIfInBounds_toArray, List.set_cons_zero, List.set_cons_succ]
                | refine seq_neqR rfl (by rfl) rfl rfl rfl ?_
                  rw [hdv]
                  simp only [Act.put, List.setIfInBounds_toArray, List.set_cons_zero, List.set_cons_succ]
                | refine seq_pure (v := ?_) rfl (by rfl) (fun W hW => ?_) ?_
                  rotate_left
                  · have hbc := HBC.out W hW
                    clear hW
                    go_simp
                    with_reducible rfl
                  simp only [Act.put, List.setIfInBounds_toArray, List.set_cons_zero, List.set_cons_succ]
              refine seq_done ?_
              have K1 := Lib.hid (show (es.take m)[k]? = some y by rw [List.getElem?_take, if_pos (by have := K0.out.1; omega)]; exact HY.out)
              have H11 := Lib.hid (show Qe (w10.drewN j).drew w.heap.size q p g r from H10.out.drewN (j + 1))
              have M11 := Lib.hid (show MksQ (w10.drewN j).drew hb bs from M10.out)
              have L11 := Lib.hid (show Blk (w10.drewN j).drew lb 23 (itL y) from L10.out)
              have B11 := Lib.hid (show Below w.heap.size w (w10.drewN j).drew from bel_drewN B10.out (j + 1))
              have S1' := S1
              generalize (w10.drewN j).drew = w11 at H11 M11 L11 B11 ⊢
              have f11 := M11.out.free k
              have c11 : w11.cell? ⟨hb, k, none⟩ = some (.bool false) := M11.out.cell HBK.out
              have k3 : ¬ (k : Int) = (m : Int) := by omega
              go_wp2_with fail
              have gs := upd_set_p w11 hb k (.bool true)
              have hs : Sts w (w11.setCell ⟨hb, k, none⟩ (.bool true)) q p g hb lb m (i + 1) es (bs.set k true) y r := by
                have hne := S1.out.ne
                refine ⟨H11.out.other gs (by omega) (by omega) (by omega), M11.out.set k, L11.out.same (gs.block lb L11.out.lt (by simp; omega)), hne, B11.out.grown gs B11.out.size (fun u hu => by injection hu with hu; omega), by have := S1.out.len; simp at this; omega, by rw [List.length_set]; exact S1.out.bl, rmn_pop S1.out.perm K1.out HBK.out, fun _ u hu => ?_⟩
                have hs := S1.out.qe.sorted
                exact (List.pairwise_cons.1 hs).1 u hu
              have S2 := Lib.hid hs
              clear gs hs f11 c11
              generalize w11.setCell ⟨hb, k, none⟩ (.bool true) = w12 at *
              go_roundw
              case rel => exact ⟨i + 1, bs.set k true, y, r, by omega, rfl, S2.out⟩
              case measure => simp [intOf]; omega
            · have hkk : k ≠ k0 := by
                intro e
                subst e
                have h1 := HBK.out.symm.trans K0.out.2.2
                have h2 := HY.out.symm.trans K0.out.2.1
                injection h1 with h1
                injection h2 with h2
                exact hc ⟨h1, h2⟩
              have hkl : k < k0 := by omega
              cases bk with
              | true =>
                have hdv : (false = false) := rfl
                go_wp2_with fail
                refine region_seq (fun W => Below w10.heap.size w10 W) [(0, true), (1, true), (2, true), (3, true), (4, true), (5, true), (6, true), (7, true), (8, true), (9, true), (10, true), (11, true), (12, true), (13, true), (14, true), (15, true), (16, true)]
                  (by kernel_rfl) (by kernel_rfl) (by kernel_rfl) (by kernel_rfl) (fun _ _ _ _ _ h => h) (bel_drewN (Below.refl _ _) (j + 1)) ?_
                repeat first
                  | refine seq_load_at rfl (by rfl) rfl rfl (fun W hW => HRX.out W hW) Try.underlying23 rfl infoItemR ?_
                    simp only [Act.put, List.setIfInBounds_toArray, List.set_cons_zero, List.set_cons_succ]
                  | refine seq_load8 rfl (by rfl) rfl rfl (fun W hW => LB.out.below hW) Try.underlying23 rfl infoItemR ?_
                    simp only [Act.put, List.setIfInBounds_toArray, List.set_cons_zero, List.set_cons_succ]
                  | refine seq_skip rfl (by rfl) ?_
                    simp only [Act.put, List.setIfInBounds_toArray, List.set_cons_zero, List.set_cons_succ]
                  | refine seq_neqR rfl (by rfl) rfl rfl rfl ?_
                    rw [hdv]
                    simp only [Act.put, List.setIfInBounds_toArray, List.set_cons_zero, List.set_cons_succ]
                  | refine seq_pure (v := ?_) rfl (by rfl) (fun W hW => ?_) ?_
                    rotate_left
                    · have hbc := HBC.out W hW
                      clear hW
                      go_simp
                      with_reducible rfl
                    simp only [Act.put, List.setIfInBounds_toArray, List.set_cons_zero, List.set_cons_succ]
                refine seq_done ?_
                go_wp2_with fail
                go_roundw
                case rel => exact ⟨k + 1, j + 1, by omega, rfl, rfl⟩
                case measure => simp [intOf]; omega
              | false =>
                have hdv : decide (y ≠ z) = true := by simpa using hc
                go_wp2_with fail
                refine region_seq (fun W => Below w10.heap.size w10 W) [(0, true), (1, true), (2, true), (3, true), (4, true), (5, true), (6, true), (7, true), (8, true), (9, true), (10, true), (11, true), (12, true), (13, true), (14, true), (15, true), (16, true)]
                  (by kernel_rfl) (by kernel_rfl) (by kernel_rfl) (by kernel_rfl) (fun _ _ _ _ _ h => h) (bel_drewN (Below.refl _ _) (j + 1)) ?_
                repeat first
                  | refine seq_load_at rfl (by rfl) rfl rfl (fun W hW => HRX.out W hW) Try.underlying23 rfl infoItemR ?_
                    simp only [Act.put, List.setIfInBounds_toArray, List.set_cons_zero, List.set_cons_succ]
                  | refine seq_load8 rfl (by rfl) rfl rfl (fun W hW => LB.out.below hW) Try.underlying23 rfl infoItemR ?_
                    simp only [Act.put, List.setIfInBounds_toArray, List.set_cons_zero, List.set_cons_succ]
                  | refine seq_skip rfl (by rfl) ?_
                    simp only [Act.put, List.setIfInBounds_toArray, List.set_cons_zero, List.set_cons_succ]
                  | refine seq_neqR rfl (by rfl) rfl rfl rfl ?_
                    rw [hdv]
                    simp only [Act.put, List.setIfInBounds_toArray, List.set_cons_zero, List.set_cons_succ]
                  | refine seq_pure (v := ?_) rfl (by rfl) (fun W hW => ?_) ?_
                    rotate_left
                    · have hbc := HBC.out W hW
                      clear hW
                      go_simp
                      with_reducible rfl
                    simp only [Act.put, List.setIfInBounds_toArray, List.set_cons_zero, List.set_cons_succ]
                refine seq_done ?_
                go_wp2_with fail
                go_roundw
                case rel => exact ⟨k + 1, j + 1, by omega, rfl, rfl⟩
                case measure => simp [intOf]; omega
      · obtain rfl : i = m := by omega
        have hql : ql = [] := List.eq_nil_of_length_eq_zero (by have := S1.out.len; omega)
        subst hql
        have hpp := qpop_calls S1.out.qe
        unfold QPopPost at hpp
        have ez : (Value.agg (itL (hdQ [])).toArray) = .agg #[.int .i64 0, .int .i64 0, .int .i64 0] := rfl
        have ee : erQ [] = 8 := rfl
        rw [ez, ee] at hpp
        clear ez ee
        go_wp2_with fail
        ((with_reducible refine hpp.mono ?_))
        rintro e w5 ⟨rfl, h5, t5⟩
        have H5 := Lib.hid (show Qe w5 w.heap.size q p g [] from h5)
        have B5 := Lib.hid (show Below w.heap.size w w5 from t5.bel S1.out.bel (Nat.le_refl _) (by have := S1.out.qe.lo; simp; omega))
        clear h5 t5 hpp
        go_wp2_with fail
        have bz : Below w5.heap.size w5 (w5.alloc (.cells #[.int .i64 0, .int .i64 0, .int .i64 0] 25)) := bel_new (Below.refl _ _) _
        have H6 := Lib.hid (H5.out.bel bz)
        have B6 := Lib.hid (B5.out.trans (bz.mono B5.out.size))
        generalize w5.alloc (.cells #[.int .i64 0, .int .i64 0, .int .i64 0] 25) = w6 at *
        have hl := qlen_calls H6.out
        rw [show (([] : List Itm).length : Int) = 0 from rfl] at hl
        ((with_reducible refine hl.mono ?_))
        rintro e w7 ⟨rfl, rfl⟩
        go_wp2
        go_ret
        exact ⟨rfl, B6.out⟩
end Go.Proofs.Ytnjgffhhalaknaa
