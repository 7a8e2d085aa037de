/-
  The document's queue (viaductref10): Push and Pop. Condition: the list that comes in reads as items.
-/
import Derived.Test.YtnjgffhhalaknaaQueueLeastW
import Derived.Test.YtnjgffhhalaknaaQueueEq
namespace Go.Proofs.Ytnjgffhhalaknaa
open Go.RowKit

theorem infoItemR3 : (Try.prog.info? 23).map (fun i => (i.zero, i.size, i.bytes)) = some (some (.agg #[.int .i64 0, .int .i64 0, .int .i64 0]), 3, 24) := by kernel_rfl
/-- Items that a call gathers. -/
def AccQ (w : World) (base : Nat) (A : Option Addr) (c : Nat) (l : List Itm) : Prop := AccR itL 3 w base 23 A c l
theorem accq_push {w : World} {base c : Nat} {A : Option Addr} {l : List Itm} (h : AccQ w base A c l) (x : Itm) (hb : base ≤ w.heap.size) (hl : l.length ≤ 1099511627776) :
    ∃ A' c' w', (Builtin.append_ #[32, 32] 32 #[.slice A l.length c, .slice (some ⟨w.heap.size, 0, none⟩) 1 1]).run Try.prog (w.alloc (.cells #[.int .i64 x.cost, .int .i64 x.hops, .int .i64 x.node] 23)) = .ok (.slice A' (l.length + 1) c') w' ∧
      AccQ w' base A' c' (l ++ [x]) ∧ w.grownBy w' (blk A) :=
  accr_push itL_length itL_one (by omega) h x Try.underlying32 infoItemR3 rfl hb (by omega) (by omega)

/-- What the document's Push answers. -/
def RPushPost (w : World) (a : Option Addr) (c : Nat) (l : List Itm) (x : Itm) (e : Ending) (w' : World) : Prop :=
  Below w.heap.size w w' ∧ ((1024 ≤ l.length ∧ e = .returned (.tuple #[.slice a l.length c, .int .i64 7])) ∨
    (l.length < 1024 ∧ ∃ A c', e = .returned (.tuple #[.slice A (insQ x l).length c', .int .i64 0]) ∧ AccQ w' w.heap.size A c' (insQ x l)))
set_option maxRecDepth 100000 in
set_option maxHeartbeats 1600000 in
theorem rpush_calls (x : Itm) (a : Option Addr) (l : List Itm) (c : Nat) (w : World) (h : Row itL w w.heap.size a l.length l) (hn : l.length ≤ 1024) :
    Calls Try.prog 16 #[.slice a l.length c, .agg (itL x).toArray] w (RPushPost w a c l x) := by
  have e0 : (Value.agg (itL x).toArray) = .agg #[.int .i64 x.cost, .int .i64 x.hops, .int .i64 x.node] := rfl
  have HR := Lib.hid h
  obtain ⟨n, hln⟩ : ∃ n, n = l.length := ⟨_, rfl⟩
  have HN := Lib.hid hln
  rw [← hln] at hn
  rw [e0, ← hln]
  clear h e0 hln
  go_enter Try.func16, Try.ntmps16
  by_cases hf : 1024 ≤ n
  · have gb : (1024 : Int) ≤ (n : Int) := by omega
    have HF := Lib.hid hf
    clear hf hn
    go_wp2_with fail
    refine bodyPost_ret (v := .tuple #[.slice a n c, .int .i64 7]) (by simp [results, Try.results16, go_sem]) rfl ?_
    refine ⟨bel_new (Below.refl _ _) _, .inl ⟨by rw [← HN.out]; exact HF.out, ?_⟩⟩
    rw [← HN.out]
  · have gb : ¬ (1024 : Int) ≤ (n : Int) := by omega
    have HF := Lib.hid hf
    clear hf
    go_upto_block 0 with fail
    have hb1 : Below w.heap.size w (w.alloc (.cells #[.int .i64 x.cost, .int .i64 x.hops, .int .i64 x.node] 23)) := bel_new (Below.refl _ _) _
    have hx1 : Blk (w.alloc (.cells #[.int .i64 x.cost, .int .i64 x.hops, .int .i64 x.node] 23)) w.heap.size 23 (itL x) := Blk.new w _ (itL x)
    have hl1 : w.heap.size < (w.alloc (.cells #[.int .i64 x.cost, .int .i64 x.hops, .int .i64 x.node] 23)).heap.size := by simp
    generalize w.alloc (.cells #[.int .i64 x.cost, .int .i64 x.hops, .int .i64 x.node] 23) = w1 at *
    have B1 := Lib.hid hb1
    have X1 := Lib.hid hx1
    clear hb1 hx1 hl1
    go_cut [6, 7] from 12 to 33 (fun s t W => ∃ (i c1 : Nat) (A : Option Addr), s = .slice A i c1 ∧ t = .int .i64 (i : Int) ∧ i ≤ n ∧ AccQ W w1.heap.size A c1 (l.take i) ∧ (∀ k y, k < i → l[k]? = some y → ¬ iLt x y) ∧ (∀ y, l[i]? = some y → iLt x y) ∧ Below w1.heap.size w1 W)
    case first =>
      go_wp2_with fail
      go_loopw [6, 7] (fun s t W => ∃ (i c1 : Nat) (A : Option Addr), s = .slice A i c1 ∧ t = .int .i64 (i : Int) ∧ i ≤ n ∧ AccQ W w1.heap.size A c1 (l.take i) ∧ (∀ k y, k < i → l[k]? = some y → ¬ iLt x y) ∧ Below w1.heap.size w1 W) (fun s t W => n - (intOf t).toNat)
      case atStart => exact ⟨0, 0, none, rfl, rfl, Nat.zero_le _, AccR.nil _ _ _, fun k y hk => by omega, Below.refl _ _⟩
      case round =>
        obtain ⟨i, c1, A, rfl, rfl, hin, ha, hle, hb⟩ := hrel
        have HA := Lib.hid ha
        have HLE := Lib.hid hle
        have HB := Lib.hid hb
        clear ha hle hb
        by_cases hlt : i < n
        · have hil : i < l.length := by have := HN.out; omega
          obtain ⟨b, o, y, rfl, hy, hb', hr⟩ := row_itemQ HR.out hil
          have BW := Lib.hid (show Below w.heap.size w wr from B1.out.trans (HB.out.mono B1.out.size))
          have HRX := Lib.hid (show ∀ W, Below wr.heap.size wr W → W.rangeAt b (o + i * 3) (itL y) from fun W hW k v hv => ((BW.out.trans (hW.mono BW.out.size)).cell (p := ⟨b, o + i * 3 + k, none⟩) hb').trans (hr k v hv))
          have XB := Lib.hid (X1.out.below HB.out)
          have HY := Lib.hid hy
          have i1 : (i : Int) < (n : Int) := by omega
          have g1 : decide ((i : Int) < (n : Int)) = true := by simpa using hlt
          have g2 : decide (i < n) = true := by simpa using hlt
          clear hil hb' hr hy
          by_cases hxy : iLt x y
          · have hd : decide (iLt x y) = true := by simpa using hxy
            have HXY := Lib.hid hxy
            clear hxy
            have hlc : ∀ W, Calls Try.prog 10 #[.agg (itL x).toArray, .agg (itL y).toArray] W fun e w' => e = .returned (.bool true) ∧ Below W.heap.size W w' := by
              intro W
              have := rless10_calls x y W
              unfold LessPost at this
              rwa [hd] at this
            have HLC := Lib.hid hlc
            clear hd hlc
            go_wp2_with fail
            refine region_seq (fun W => Below wr.heap.size wr W) [(0, true), (1, true), (2, true), (3, true), (4, true), (5, true), (6, true), (7, true), (8, true), (9, true), (10, false), (11, true), (12, true)]
              (by kernel_rfl) (by kernel_rfl) (by kernel_rfl) (by kernel_rfl) (fun _ _ _ _ _ h => h) (Below.refl _ _).drew ?_
            repeat first
              | refine seq_load8 rfl (by rfl) rfl rfl (fun W hW => XB.out.below hW) Try.underlying23 rfl infoItemR ?_
                simp only [Act.put, List.setIfInBounds_toArray, List.set_cons_zero, List.set_cons_succ]
              | refine seq_load_at rfl (by rfl) rfl rfl (fun W hW => HRX.out W hW) Try.underlying23 rfl infoItemR ?_
                simp only [Act.put, List.setIfInBounds_toArray, List.set_cons_zero, List.set_cons_succ]
              | refine seq_skip rfl (by rfl) ?_
                simp only [Act.put, List.setIfInBounds_toArray, List.set_cons_zero, List.set_cons_succ]
              | refine seq_pure (v := ?_) rfl (by rfl) (fun W hW => ?_) ?_
                rotate_left
                · clear hW
                  go_simp
                  with_reducible rfl
                simp only [Act.put, List.setIfInBounds_toArray, List.set_cons_zero, List.set_cons_succ]
            refine seq_make rfl (by rfl) (fun K hK => ?_)
            go_simp
            ((with_reducible refine (HLC.out wr.drew).mono ?_))
            rintro e w7 ⟨rfl, hb7⟩
            have C7 := Lib.hid (show Below wr.heap.size wr w7 from below_of_drew hb7)
            clear hb7
            go_simp
            refine hK _ _ (fun W => Below wr.heap.size wr W) (fun W h => h) C7.out ?_
            clear hK K
            repeat first
              | refine seq_load8 rfl (by rfl) rfl rfl (fun W hW => XB.out.below hW) Try.underlying23 rfl infoItemR ?_
                simp only [Act.put, List.setIfInBounds_toArray, List.set_cons_zero, List.set_cons_succ]
              | refine seq_load_at rfl (by rfl) rfl rfl (fun W hW => HRX.out W hW) Try.underlying23 rfl infoItemR ?_
                simp only [Act.put, List.setIfInBounds_toArray, List.set_cons_zero, List.set_cons_succ]
              | refine seq_skip rfl (by rfl) ?_
                simp only [Act.put, List.setIfInBounds_toArray, List.set_cons_zero, List.set_cons_succ]
              | refine seq_pure (v := ?_) rfl (by rfl) (fun W hW => ?_) ?_
                rotate_left
                · clear hW
                  go_simp
                  with_reducible rfl
                simp only [Act.put, List.setIfInBounds_toArray, List.set_cons_zero, List.set_cons_succ]
            refine seq_done ?_
            go_wp2_with fail
            go_meet
            exact ⟨i, c1, A, rfl, rfl, hin, HA.out.bel C7.out, HLE.out, fun u hu => by have := HY.out.symm.trans hu; injection this with this; subst this; exact HXY.out, HB.out.trans (C7.out.mono HB.out.size)⟩
          · have hd : decide (iLt x y) = false := by simpa using hxy
            have HXY := Lib.hid hxy
            clear hxy
            have hlc : ∀ W, Calls Try.prog 10 #[.agg (itL x).toArray, .agg (itL y).toArray] W fun e w' => e = .returned (.bool false) ∧ Below W.heap.size W w' := by
              intro W
              have := rless10_calls x y W
              unfold LessPost at this
              rwa [hd] at this
            have HLC := Lib.hid hlc
            clear hd hlc
            go_wp2_with fail
            refine region_seq (fun W => Below wr.heap.size wr W) [(0, true), (1, true), (2, true), (3, true), (4, true), (5, true), (6, true), (7, true), (8, true), (9, true), (10, false), (11, true), (12, true)]
              (by kernel_rfl) (by kernel_rfl) (by kernel_rfl) (by kernel_rfl) (fun _ _ _ _ _ h => h) (Below.refl _ _).drew ?_
            repeat first
              | refine seq_load8 rfl (by rfl) rfl rfl (fun W hW => XB.out.below hW) Try.underlying23 rfl infoItemR ?_
                simp only [Act.put, List.setIfInBounds_toArray, List.set_cons_zero, List.set_cons_succ]
              | refine seq_load_at rfl (by rfl) rfl rfl (fun W hW => HRX.out W hW) Try.underlying23 rfl infoItemR ?_
                simp only [Act.put, List.setIfInBounds_toArray, List.set_cons_zero, List.set_cons_succ]
              | refine seq_skip rfl (by rfl) ?_
                simp only [Act.put, List.setIfInBounds_toArray, List.set_cons_zero, List.set_cons_succ]
              | refine seq_pure (v := ?_) rfl (by rfl) (fun W hW => ?_) ?_
                rotate_left
                · clear hW
                  go_simp
                  with_reducible rfl
                simp only [Act.put, List.setIfInBounds_toArray, List.set_cons_zero, List.set_cons_succ]
            refine seq_make rfl (by rfl) (fun K hK => ?_)
            go_simp
            ((with_reducible refine (HLC.out wr.drew).mono ?_))
            rintro e w7 ⟨rfl, hb7⟩
            have C7 := Lib.hid (show Below wr.heap.size wr w7 from below_of_drew hb7)
            clear hb7
            go_simp
            refine hK _ _ (fun W => Below wr.heap.size wr W) (fun W h => h) C7.out ?_
            clear hK K
            repeat first
              | refine seq_load8 rfl (by rfl) rfl rfl (fun W hW => XB.out.below hW) Try.underlying23 rfl infoItemR ?_
                simp only [Act.put, List.setIfInBounds_toArray, List.set_cons_zero, List.set_cons_succ]
              | refine seq_load_at rfl (by rfl) rfl rfl (fun W hW => HRX.out W hW) Try.underlying23 rfl infoItemR ?_
                simp only [Act.put, List.setIfInBounds_toArray, List.set_cons_zero, List.set_cons_succ]
              | refine seq_skip rfl (by rfl) ?_
                simp only [Act.put, List.setIfInBounds_toArray, List.set_cons_zero, List.set_cons_succ]
              | refine seq_pure (v := ?_) rfl (by rfl) (fun W hW => ?_) ?_
                rotate_left
                · clear hW
                  go_simp
                  with_reducible rfl
                simp only [Act.put, List.setIfInBounds_toArray, List.set_cons_zero, List.set_cons_succ]
            refine seq_done ?_
            have hr7 := HRX.out w7 C7.out
            have y0 : w7.cell? ⟨b, o + i * 3, none⟩ = some (.int .i64 y.cost) := hr7 0 _ rfl
            have y1 : w7.cell? ⟨b, o + i * 3 + 1, none⟩ = some (.int .i64 y.hops) := hr7 1 _ rfl
            have y2 : w7.cell? ⟨b, o + i * 3 + 2, none⟩ = some (.int .i64 y.node) := hr7 2 _ rfl
            have hlen : (l.take i).length = i := by rw [List.length_take]; have := HN.out; omega
            have ha7 : AccQ w7 w1.heap.size A c1 (l.take i) := AccR.bel HA.out C7.out
            obtain ⟨A8, c8, w8, r8, a8, g8⟩ := accq_push ha7 y (Nat.le_trans HB.out.size C7.out.size) (by rw [hlen]; omega)
            rw [hlen] at r8
            rw [← take_snoc HY.out] at a8
            have B8 := Lib.hid (show Below w1.heap.size w1 w8 from belr_acc (HB.out.trans (C7.out.mono HB.out.size)) ha7 g8)
            have A8' := Lib.hid a8
            have R8 := Lib.hid r8
            clear hr7 r8 a8 g8 hlen ha7
            go_wp2_with (at_builtin; refine step_append rfl rfl rfl rfl R8.out ?_)
            go_roundw
            case rel =>
              refine ⟨i + 1, c8, A8, rfl, rfl, by omega, A8'.out, fun k u hk hu => ?_, B8.out⟩
              by_cases hki : k = i
              · subst hki
                have := HY.out.symm.trans hu
                injection this with this
                subst this
                exact HXY.out
              · exact HLE.out k u (by omega) hu
            case measure => simp [intOf]; omega
        · obtain rfl : i = n := by omega
          have i1 : ¬ (i : Int) < (i : Int) := by omega
          have XB := Lib.hid (X1.out.below HB.out)
          go_wp2_with fail
          refine region_seq (fun W => Below wr.heap.size wr W) [(0, true), (1, true), (2, true), (3, true), (4, true), (5, true), (6, true), (7, true), (8, true), (9, true), (10, false), (11, true), (12, true)]
            (by kernel_rfl) (by kernel_rfl) (by kernel_rfl) (by kernel_rfl) (fun _ _ _ _ _ h => h) (Below.refl _ _).drew ?_
          repeat first
            | refine seq_load8 rfl (by rfl) rfl rfl (fun W hW => XB.out.below hW) Try.underlying23 rfl infoItemR ?_
              simp only [Act.put, List.setIfInBounds_toArray, List.set_cons_zero, List.set_cons_succ]
            | refine seq_skip rfl (by rfl) ?_
              simp only [Act.put, List.setIfInBounds_toArray, List.set_cons_zero, List.set_cons_succ]
            | refine seq_pure (v := ?_) rfl (by rfl) (fun W hW => ?_) ?_
              rotate_left
              · clear hW
                go_simp
                with_reducible rfl
              simp only [Act.put, List.setIfInBounds_toArray, List.set_cons_zero, List.set_cons_succ]
          refine seq_unmakeQ rfl (by rfl) (Below.refl _ _).drew ?_
          simp only [Act.put, List.setIfInBounds_toArray, List.set_cons_zero, List.set_cons_succ]
          repeat first
            | refine seq_load8 rfl (by rfl) rfl rfl (fun W hW => XB.out.below hW) Try.underlying23 rfl infoItemR ?_
              simp only [Act.put, List.setIfInBounds_toArray, List.set_cons_zero, List.set_cons_succ]
            | refine seq_skip rfl (by rfl) ?_
              simp only [Act.put, List.setIfInBounds_toArray, List.set_cons_zero, List.set_cons_succ]
            | refine seq_pure (v := ?_) rfl (by rfl) (fun W hW => ?_) ?_
              rotate_left
              · clear hW
                go_simp
                with_reducible rfl
              simp only [Act.put, List.setIfInBounds_toArray, List.set_cons_zero, List.set_cons_succ]
          refine seq_done ?_
          go_wp2_with fail
          go_meet
          exact ⟨i, c1, A, rfl, rfl, hin, HA.out.drew, HLE.out, fun u hu => (by rw [List.getElem?_eq_none (by have := HN.out; omega)] at hu; cases hu), HB.out.drew⟩
    case rest =>
      obtain ⟨i, c1, A, rfl, rfl, hin, ha, hle, hlt, hb⟩ := hcut
      have hL := insQ_cut x l i (by have := HN.out; omega) (fun k y hk hy => hle k y hk hy) hlt
      have htk : (insQ x l).take (i + 1) = l.take i ++ [x] := by
        have hlen : (l.take i).length = i := by rw [List.length_take]; have := HN.out; omega
        rw [hL, List.take_append, hlen, List.take_of_length_le (by rw [hlen]; omega)]
        simp
      have hnx : ∀ k y, i ≤ k → l[k]? = some y → (insQ x l)[k + 1]? = some y := by
        intro k y hk hy
        have hlen : (l.take i).length = i := by rw [List.length_take]; have := HN.out; omega
        rw [hL, List.getElem?_append_right (by rw [hlen]; omega), hlen, show k + 1 - i = (k - i) + 1 by omega, List.getElem?_cons_succ, List.getElem?_drop, show i + (k - i) = k by omega]
        exact hy
      have hLn : (insQ x l).length = n + 1 := by rw [insQ_length, HN.out]
      have HT := Lib.hid htk
      have HX := Lib.hid hnx
      have HLN := Lib.hid hLn
      have HB := Lib.hid hb
      have hx := X1.out.below hb
      have y0 : wc.cell? ⟨w.heap.size, 0, none⟩ = some (.int .i64 x.cost) := hx.cell 0
      have y1 : wc.cell? ⟨w.heap.size, 1, none⟩ = some (.int .i64 x.hops) := hx.cell 1
      have y2 : wc.cell? ⟨w.heap.size, 2, none⟩ = some (.int .i64 x.node) := hx.cell 2
      have hlen : (l.take i).length = i := by rw [List.length_take]; have := HN.out; omega
      obtain ⟨A8, c8, w8, r8, a8, g8⟩ := accq_push ha x hb.size (by rw [hlen]; omega)
      rw [hlen] at r8
      rw [← htk] at a8
      have B8 := Lib.hid (show Below w1.heap.size w1 w8 from belr_acc hb ha g8)
      have A8' := Lib.hid a8
      have R8 := Lib.hid r8
      clear hL htk hnx hLn hb hx r8 a8 g8 hlen ha hle hlt
      go_wp2_with (at_builtin; refine step_append rfl rfl rfl rfl R8.out ?_)
      go_loopw [6, 7] (fun s t W => ∃ (k c1 : Nat) (A : Option Addr), s = .slice A (k + 1) c1 ∧ t = .int .i64 (k : Int) ∧ i ≤ k ∧ k ≤ n ∧ AccQ W w1.heap.size A c1 ((insQ x l).take (k + 1)) ∧ Below w1.heap.size w1 W) (fun s t W => n - (intOf t).toNat)
      case atStart => exact ⟨i, c8, A8, rfl, rfl, Nat.le_refl _, hin, A8'.out, B8.out⟩
      case round =>
        obtain ⟨k, ck, Ak, rfl, rfl, hik, hkn, ha, hb⟩ := hrel
        have HA := Lib.hid ha
        have HBk := Lib.hid hb
        clear ha hb
        by_cases hlt : k < n
        · have hil : k < l.length := by have := HN.out; omega
          obtain ⟨b, o, y, rfl, hy, hb', hr⟩ := row_itemQ HR.out hil
          have BW : Below w.heap.size w wr := B1.out.trans (HBk.out.mono B1.out.size)
          have hr' := fun u v h => (BW.cell (p := ⟨b, o + k * 3 + u, none⟩) hb').trans (hr u v h)
          have z0 : wr.cell? ⟨b, o + k * 3, none⟩ = some (.int .i64 y.cost) := hr' 0 _ rfl
          have z1 : wr.cell? ⟨b, o + k * 3 + 1, none⟩ = some (.int .i64 y.hops) := hr' 1 _ rfl
          have z2 : wr.cell? ⟨b, o + k * 3 + 2, none⟩ = some (.int .i64 y.node) := hr' 2 _ rfl
          have i1 : (k : Int) < (n : Int) := by omega
          have hlen : ((insQ x l).take (k + 1)).length = k + 1 := by rw [List.length_take]; have := HLN.out; omega
          obtain ⟨A9, c9, w9, r9, a9, g9⟩ := accq_push HA.out y HBk.out.size (by rw [hlen]; omega)
          rw [hlen] at r9
          rw [← take_snoc (HX.out k y hik hy)] at a9
          have B9 := Lib.hid (show Below w1.heap.size w1 w9 from belr_acc HBk.out HA.out g9)
          have A9' := Lib.hid a9
          have R9 := Lib.hid r9
          clear hil hy hb' hr BW hr' hlen r9 a9 g9
          go_wp2_with (at_builtin; refine step_append rfl rfl rfl rfl R9.out ?_)
          go_roundw
          case rel => exact ⟨k + 1, c9, A9, rfl, rfl, by omega, by omega, A9'.out, B9.out⟩
          case measure => simp [intOf]; omega
        · obtain rfl : k = n := by omega
          have ht : (insQ x l).take (k + 1) = insQ x l := List.take_of_length_le (by rw [HLN.out]; exact Nat.le_refl _)
          have ha := HA.out
          rw [ht] at ha
          have HF2 := Lib.hid (show AccQ wr w.heap.size Ak ck (insQ x l) from AccR.lower ha B1.out.size)
          have i1 : ¬ (k : Int) < (k : Int) := by omega
          clear ht ha
          go_wp2_with fail
          refine bodyPost_ret (v := .tuple #[.slice Ak (k + 1) ck, .int .i64 0]) (by simp [results, Try.results16, go_sem]) rfl ?_
          refine ⟨B1.out.trans (HBk.out.mono B1.out.size), .inr ⟨by have := HF.out; have := HN.out; omega, Ak, ck, by rw [HLN.out], HF2.out⟩⟩
end Go.Proofs.Ytnjgffhhalaknaa
