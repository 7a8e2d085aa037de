/-
  The law QueueActs, walked: for every slice of calls the answer is true, and nothing that was there has turned. No condition.
-/
import Derived.Test.YtnjgffhhalaknaaQueueP
import Derived.Test.YtnjgffhhalaknaaQueueOpen
namespace Go.Proofs.Ytnjgffhhalaknaa
open Go.RowKit

/-- The cells of a call of a slice. -/
theorem row_actQ {w : World} {B n : Nat} {a : Option Addr} {qs : List (Bool × Itm)} (h : Row eaQ w B a n qs) {i : Nat} (hi : i < n) : ∃ (b o : Nat) (k : Bool) (x : Itm), a = some ⟨b, o, none⟩ ∧ b < B ∧ ∀ j v, (eaQ (k, x))[j]? = some v → w.cell? ⟨b, o + i * 4 + j, none⟩ = some v := by
  obtain ⟨b, o, e, hb, hc⟩ := h.cells eaQ_length (by omega)
  have hi' : i < qs.length := by rw [h.1]; exact hi
  refine ⟨b, o, qs[i].1, qs[i].2, e, hb, fun j v hv => ?_⟩
  have hj : j < 4 := by have := (List.getElem?_eq_some_iff.1 hv).1; simpa [eaQ] using this
  rw [hc i hi' j hj]; exact hv

/-- A queue and the document's list beside it. -/
structure Ast (w W : World) (q p g : Nat) (A : Option Addr) (cA : Nat) (l : List Itm) : Prop where
  qe : Qe W w.heap.size q p g l
  row : Row itL W W.heap.size A l.length l
  cap : l.length ≤ cA
  away : 0 < l.length → ∀ b o, A = some ⟨b, o, none⟩ → b ≠ p ∧ b ≠ g
  bel : Below w.heap.size w W
theorem Ast.below {w W W' : World} {q p g cA : Nat} {A : Option Addr} {l : List Itm} (h : Ast w W q p g A cA l) (hb : Below W.heap.size W W') : Ast w W' q p g A cA l :=
  ⟨h.qe.bel hb, (h.row.below hb).more hb.size, h.cap, h.away, h.bel.trans (hb.mono h.bel.size)⟩
theorem Ast.small {w W : World} {q p g cA : Nat} {A : Option Addr} {l : List Itm} (h : Ast w W q p g A cA l) : l.length ≤ 1024 := h.qe.small
/-- The list stays when the queue's own blocks turn. -/
theorem rowq_turn {W W' : World} {p g n : Nat} {A : Option Addr} {l : List Itm} (h : Row itL W W.heap.size A n l) (ha : 0 < n → ∀ b o, A = some ⟨b, o, none⟩ → b ≠ p ∧ b ≠ g) (ht : Turn [p, g] W W') : Row itL W' W'.heap.size A n l :=
  ⟨h.1, fun hn => by
    obtain ⟨b, o, e, hb, hc⟩ := h.2 hn
    have hne := ha hn b o e
    exact ⟨b, o, e, Nat.lt_of_lt_of_le hb ht.size, fun i hi => (World.cell?_of_block (w := W) (ht.block b hb (by simp; exact hne))).trans (hc i hi)⟩⟩

set_option maxRecDepth 100000 in
set_option maxHeartbeats 3200000 in
theorem acts_walk (a : Option Addr) (n c : Nat) (w : World) (h : n ≤ c ∧ c ≤ maxLen ∧ ∃ qs, Row eaQ w w.heap.size a n qs) : Calls Try.prog 4 #[.slice a n c] w fun e w' => e = .returned (.bool true) ∧ Below w.heap.size w w' := by
  obtain ⟨hnc, hcm, qs, hqs⟩ := h
  have hmx : n ≤ maxLen := by omega
  have ha := alive10_calls w
  have HR := Lib.hid hqs
  unfold maxLen at hmx
  clear hnc hcm hqs
  go_enter Try.func4, Try.ntmps4
  go_wp2_with fail
  ((with_reducible refine ha.mono ?_))
  rintro e w1 ⟨rfl, b1⟩
  have hn := qs_new b1
  clear ha b1
  go_wp2_with fail
  ((with_reducible refine hn.mono ?_))
  rintro e w2 ⟨q, rfl, h2⟩
  obtain ⟨b2, p, g, hq2⟩ := h2
  have ST := Lib.hid (show Ast w w2 q p g none 0 [] from ⟨hq2, Row.nil, Nat.le_refl _, fun h => by simp at h, b2⟩)
  clear hn hq2 b2
  go_wp2_with fail
  go_loopw [4, 5] (fun s t W => ∃ (i p g cA : Nat) (A : Option Addr) (l : List Itm), s = .slice A l.length cA ∧ t = .int .i64 (i : Int) ∧ i ≤ n ∧ i ≤ 1200 ∧ Ast w W q p g A cA l) (fun s t W => 1200 - (intOf t).toNat)
  case atStart => exact ⟨0, p, g, 0, none, [], rfl, rfl, Nat.zero_le _, by omega, ST.out⟩
  case round =>
    obtain ⟨i, p1, g1, cA, A, l, rfl, rfl, hin, hi12, hst⟩ := hrel
    have S1 := Lib.hid hst
    clear hst ST
    by_cases hlt : i < n ∧ i < 1200
    · obtain ⟨hl1, hl2⟩ := hlt
      obtain ⟨b, o, k, x, rfl, hb, hcs⟩ := row_actQ HR.out hl1
      have i1 : (i : Int) < (n : Int) := by omega
      have i2 : (i : Int) < 1200 := by omega
      have HCS := Lib.hid (show ∀ W, Below w.heap.size w W → ∀ j v, (eaQ (k, x))[j]? = some v → W.cell? ⟨b, o + i * 4 + j, none⟩ = some v from fun W hW j v hv => (hW.cell (p := ⟨b, o + i * 4 + j, none⟩) hb).trans (hcs j v hv))
      have c0 : wr.cell? ⟨b, o + i * 4, none⟩ = some (.bool k) := HCS.out wr S1.out.bel 0 _ rfl
      clear hcs hb hl1 hl2
      obtain ⟨m, hm⟩ : ∃ m, m = l.length := ⟨_, rfl⟩
      rw [← hm]
      have HM := Lib.hid hm
      clear hm
      cases k with
      | true =>
        cases l with
        | nil =>
          have hpp := qpop_calls S1.out.qe
          unfold QPopPost at hpp
          have ez : (Value.agg (itL (hdQ [])).toArray) = .agg #[.int .i64 0, .int .i64 0, .int .i64 0] := rfl
          have ee : erQ [] = 8 := rfl
          rw [ez, ee] at hpp
          clear ez ee
          go_wp2_with fail
          ((with_reducible refine hpp.mono ?_))
          rintro e w5 ⟨rfl, h5, t5⟩
          have H5 := Lib.hid (show Qe w5 w.heap.size q p1 g1 [] from h5)
          have R5 := Lib.hid (rowq_turn S1.out.row S1.out.away t5)
          have B5 := Lib.hid (show Below w.heap.size w w5 from t5.bel S1.out.bel (Nat.le_refl _) (by have := S1.out.qe.lo; simp; omega))
          clear h5 t5 hpp c0
          go_upto_region 12 with fail
          have bz : Below w5.heap.size w5 (w5.alloc (.cells #[.int .i64 0, .int .i64 0, .int .i64 0] 25)) := bel_new (Below.refl _ _) _
          have H6 := Lib.hid (H5.out.bel bz)
          have R6 := Lib.hid ((R5.out.below bz).more bz.size)
          have B6 := Lib.hid (B5.out.trans (bz.mono B5.out.size))
          have Z6 := Lib.hid (show Blk (w5.alloc (.cells #[.int .i64 0, .int .i64 0, .int .i64 0] 25)) w5.heap.size 25 (itL ⟨0, 0, 0⟩) from Blk.new w5 _ (itL ⟨0, 0, 0⟩))
          clear bz
          generalize w5.alloc (.cells #[.int .i64 0, .int .i64 0, .int .i64 0] 25) = w6 at *
          generalize w5.heap.size = zb at *
          have hrp := rpop_calls A [] cA w6 R6.out S1.out.small S1.out.cap
          rw [← HM.out] at hrp
          go_wp2_with fail
          ((with_reducible refine hrp.mono ?_))
          rintro e w7 ⟨hb7, hcase⟩
          have he : e = .returned (.tuple #[.slice A 0 cA, .agg #[.int .i64 0, .int .i64 0, .int .i64 0], .int .i64 8]) := by
            rcases hcase with ⟨_, he⟩ | ⟨z, r, _, _, _, hl, _⟩
            · exact he
            · cases hl
          subst he
          have S7 := Lib.hid (show Ast w w7 q p1 g1 A cA [] from ⟨H6.out.bel hb7, Row.nil, Nat.zero_le _, fun h => by simp at h, B6.out.trans (hb7.mono B6.out.size)⟩)
          obtain ⟨A7, hA7⟩ : ∃ A7, A7 = A := ⟨_, rfl⟩
          obtain ⟨c7, hc7⟩ : ∃ c7, c7 = cA := ⟨_, rfl⟩
          rw [← hA7, ← hc7]
          rw [← hA7, ← hc7] at S7
          clear hcase hA7 hc7 hrp
          have Z7 := Lib.hid (Z6.out.below hb7)
          clear hb7
          go_upto_region 14 with fail
          have bz : Below w7.heap.size w7 (w7.alloc (.cells #[.int .i64 0, .int .i64 0, .int .i64 0] 23)) := bel_new (Below.refl _ _) _
          have S8 := Lib.hid (S7.out.below bz)
          have Z8 := Lib.hid (Z7.out.below bz)
          have Y8 := Lib.hid (show Blk (w7.alloc (.cells #[.int .i64 0, .int .i64 0, .int .i64 0] 23)) w7.heap.size 23 (itL ⟨0, 0, 0⟩) from Blk.new w7 _ (itL ⟨0, 0, 0⟩))
          clear bz
          generalize w7.alloc (.cells #[.int .i64 0, .int .i64 0, .int .i64 0] 23) = w8 at *
          generalize w7.heap.size = yb at *
          have htc : ∀ W, Calls Try.prog 15 #[.agg (itL ⟨0, 0, 0⟩).toArray] W fun e w' => e = .returned (.agg (itL ⟨0, 0, 0⟩).toArray) ∧ Below W.heap.size W w' := fun W => ours10_calls ⟨0, 0, 0⟩ W
          have HTC := Lib.hid htc
          have hdv : decide ((⟨0, 0, 0⟩ : Itm) ≠ ⟨0, 0, 0⟩) = false := by simp
          clear htc
          refine region_seq (fun W => Below w8.heap.size w8 W) [(0, true), (2, true), (1, false), (3, true), (4, true), (5, true), (6, true), (7, true), (8, true)]
            (by kernel_rfl) (by kernel_rfl) (by kernel_rfl) (by kernel_rfl) (fun _ _ _ _ _ h => h) (Below.refl _ _).drew ?_
          refine seq_load8 rfl (by rfl) rfl rfl (fun W hW => Z8.out.below hW) Try.underlying25 rfl infoItem ?_
          simp only [Act.put, List.setIfInBounds_toArray, List.set_cons_zero, List.set_cons_succ]
          refine seq_load8 rfl (by rfl) rfl rfl (fun W hW => Y8.out.below hW) Try.underlying23 rfl infoItemR ?_
          simp only [Act.put, List.setIfInBounds_toArray, List.set_cons_zero, List.set_cons_succ]
          refine seq_make rfl (by rfl) (fun K hK => ?_)
          go_simp
          ((with_reducible refine (HTC.out w8.drew).mono ?_))
          rintro e w9 ⟨rfl, hb9⟩
          have C9 := Lib.hid (show Below w8.heap.size w8 w9 from below_of_drew hb9)
          clear hb9
          go_simp
          refine hK _ _ (fun W => Below w8.heap.size w8 W) (fun W h => h) C9.out ?_
          clear hK K
          refine seq_neqR rfl (by rfl) rfl rfl rfl ?_
          rw [hdv]
          simp only [Act.put, List.setIfInBounds_toArray, List.set_cons_zero, List.set_cons_succ]
          repeat
            refine seq_pure (v := ?_) rfl (by rfl) (fun W hW => ?_) ?_
            rotate_left
            · clear hW
              go_simp
              with_reducible rfl
            simp only [Act.put, List.setIfInBounds_toArray, List.set_cons_zero, List.set_cons_succ]
          refine seq_done ?_
          have S9 := Lib.hid (S8.out.below C9.out)
          have hl := qlen_calls S9.out.qe
          rw [show (([] : List Itm).length : Int) = 0 from rfl] at hl
          go_wp2_with fail
          ((with_reducible refine hl.mono ?_))
          rintro e w10 ⟨rfl, rfl⟩
          clear hl
          go_wp2_with fail
          go_roundw
          case rel => exact ⟨i + 1, p1, g1, c7, A7, [], rfl, rfl, by omega, by omega, S9.out⟩
          case measure => simp [intOf]; omega
        | cons z r =>
          have hpp := qpop_calls S1.out.qe
          unfold QPopPost at hpp
          have ez : (Value.agg (itL (hdQ (z :: r))).toArray) = .agg #[.int .i64 z.cost, .int .i64 z.hops, .int .i64 z.node] := rfl
          have ee : erQ (z :: r) = 0 := rfl
          rw [ez, ee] at hpp
          clear ez ee
          go_wp2_with fail
          ((with_reducible refine hpp.mono ?_))
          rintro e w5 ⟨rfl, h5, t5⟩
          have H5 := Lib.hid (show Qe w5 w.heap.size q p1 g1 r from h5)
          have R5 := Lib.hid (rowq_turn S1.out.row S1.out.away t5)
          have B5 := Lib.hid (show Below w.heap.size w w5 from t5.bel S1.out.bel (Nat.le_refl _) (by have := S1.out.qe.lo; simp; omega))
          clear h5 t5 hpp c0
          go_upto_region 12 with fail
          have bz : Below w5.heap.size w5 (w5.alloc (.cells #[.int .i64 z.cost, .int .i64 z.hops, .int .i64 z.node] 25)) := bel_new (Below.refl _ _) _
          have H6 := Lib.hid (H5.out.bel bz)
          have R6 := Lib.hid ((R5.out.below bz).more bz.size)
          have B6 := Lib.hid (B5.out.trans (bz.mono B5.out.size))
          have Z6 := Lib.hid (show Blk (w5.alloc (.cells #[.int .i64 z.cost, .int .i64 z.hops, .int .i64 z.node] 25)) w5.heap.size 25 (itL z) from Blk.new w5 _ (itL z))
          clear bz
          generalize w5.alloc (.cells #[.int .i64 z.cost, .int .i64 z.hops, .int .i64 z.node] 25) = w6 at *
          generalize w5.heap.size = zb at *
          have hrp := rpop_calls A (z :: r) cA w6 R6.out S1.out.small S1.out.cap
          rw [← HM.out] at hrp
          go_wp2_with fail
          ((with_reducible refine hrp.mono ?_))
          rintro e w7 ⟨hb7, hcase⟩
          obtain ⟨A7, he, hrow7, hab⟩ : ∃ A7, e = .returned (.tuple #[.slice A7 r.length (cA - 1), .agg #[.int .i64 z.cost, .int .i64 z.hops, .int .i64 z.node], .int .i64 0]) ∧ Row itL w7 w6.heap.size A7 r.length r ∧ (∀ b' o', A7 = some ⟨b', o', none⟩ → b' ≠ p1 ∧ b' ≠ g1) := by
            rcases hcase with ⟨hl, _⟩ | ⟨z', r', b', o', A7, hl, hA, he, hrow, hb⟩
            · cases hl
            · injection hl with h1 h2
              subst h1
              subst h2
              exact ⟨A7, he, hrow, fun b1 o1 e1 => by rw [hb b1 o1 e1]; exact S1.out.away (by simp) b' o' hA⟩
          subst he
          have S7 := Lib.hid (show Ast w w7 q p1 g1 A7 (cA - 1) r from ⟨H6.out.bel hb7, hrow7.more hb7.size, by have := S1.out.cap; simp at this; omega, fun _ b' o' e => hab b' o' e, B6.out.trans (hb7.mono B6.out.size)⟩)
          obtain ⟨c7, hc7⟩ : ∃ c7, c7 = cA - 1 := ⟨_, rfl⟩
          rw [← hc7]
          rw [← hc7] at S7
          obtain ⟨m7, hm7⟩ : ∃ m7, m7 = r.length := ⟨_, rfl⟩
          rw [← hm7]
          clear hcase hc7 hrp hrow7 hab
          have HM7 := Lib.hid hm7
          have Z7 := Lib.hid (Z6.out.below hb7)
          clear hb7 hm7
          go_upto_region 14 with fail
          have bz : Below w7.heap.size w7 (w7.alloc (.cells #[.int .i64 z.cost, .int .i64 z.hops, .int .i64 z.node] 23)) := bel_new (Below.refl _ _) _
          have S8 := Lib.hid (S7.out.below bz)
          have Z8 := Lib.hid (Z7.out.below bz)
          have Y8 := Lib.hid (show Blk (w7.alloc (.cells #[.int .i64 z.cost, .int .i64 z.hops, .int .i64 z.node] 23)) w7.heap.size 23 (itL z) from Blk.new w7 _ (itL z))
          clear bz
          generalize w7.alloc (.cells #[.int .i64 z.cost, .int .i64 z.hops, .int .i64 z.node] 23) = w8 at *
          generalize w7.heap.size = yb at *
          have htc : ∀ W, Calls Try.prog 15 #[.agg (itL z).toArray] W fun e w' => e = .returned (.agg (itL z).toArray) ∧ Below W.heap.size W w' := fun W => ours10_calls z W
          have HTC := Lib.hid htc
          have hdv : decide (z ≠ z) = false := by simp
          clear htc
          refine region_seq (fun W => Below w8.heap.size w8 W) [(0, true), (2, true), (1, false), (3, true), (4, true), (5, true), (6, true), (7, true), (8, true)]
            (by kernel_rfl) (by kernel_rfl) (by kernel_rfl) (by kernel_rfl) (fun _ _ _ _ _ h => h) (Below.refl _ _).drew ?_
          refine seq_load8 rfl (by rfl) rfl rfl (fun W hW => Z8.out.below hW) Try.underlying25 rfl infoItem ?_
          simp only [Act.put, List.setIfInBounds_toArray, List.set_cons_zero, List.set_cons_succ]
          refine seq_load8 rfl (by rfl) rfl rfl (fun W hW => Y8.out.below hW) Try.underlying23 rfl infoItemR ?_
          simp only [Act.put, List.setIfInBounds_toArray, List.set_cons_zero, List.set_cons_succ]
          refine seq_make rfl (by rfl) (fun K hK => ?_)
          go_simp
          ((with_reducible refine (HTC.out w8.drew).mono ?_))
          rintro e w9 ⟨rfl, hb9⟩
          have C9 := Lib.hid (show Below w8.heap.size w8 w9 from below_of_drew hb9)
          clear hb9
          go_simp
          refine hK _ _ (fun W => Below w8.heap.size w8 W) (fun W h => h) C9.out ?_
          clear hK K
          refine seq_neqR rfl (by rfl) rfl rfl rfl ?_
          rw [hdv]
          simp only [Act.put, List.setIfInBounds_toArray, List.set_cons_zero, List.set_cons_succ]
          repeat
            refine seq_pure (v := ?_) rfl (by rfl) (fun W hW => ?_) ?_
            rotate_left
            · clear hW
              go_simp
              with_reducible rfl
            simp only [Act.put, List.setIfInBounds_toArray, List.set_cons_zero, List.set_cons_succ]
          refine seq_done ?_
          have S9 := Lib.hid (S8.out.below C9.out)
          have hl := qlen_calls S9.out.qe
          rw [← HM7.out] at hl
          go_wp2_with fail
          ((with_reducible refine hl.mono ?_))
          rintro e w10 ⟨rfl, rfl⟩
          clear hl
          go_wp2_with fail
          go_roundw
          case rel => exact ⟨i + 1, p1, g1, c7, A7, r, by rw [← HM7.out], rfl, by omega, by omega, S9.out⟩
          case measure => simp [intOf]; omega
      | false =>
        have c1 : wr.cell? ⟨b, o + i * 4 + 1, none⟩ = some (.int .i64 x.cost) := HCS.out wr S1.out.bel 1 _ rfl
        have c2 : wr.cell? ⟨b, o + i * 4 + 1 + 1, none⟩ = some (.int .i64 x.hops) := HCS.out wr S1.out.bel 2 _ rfl
        have c3 : wr.cell? ⟨b, o + i * 4 + 1 + 2, none⟩ = some (.int .i64 x.node) := HCS.out wr S1.out.bel 3 _ rfl
        have hrp : Calls Try.prog 16 #[.slice A l.length cA, .agg #[.int .i64 x.cost, .int .i64 x.hops, .int .i64 x.node]] wr (RPushPost wr A cA l x) := rpush_calls x A l cA wr S1.out.row S1.out.small
        rw [← HM.out] at hrp
        go_wp2_with fail
        ((with_reducible refine hrp.mono ?_))
        rintro e w5 ⟨hb5, hcase⟩
        clear hrp c0 c1 c2 c3
        have S5 := Lib.hid (S1.out.below hb5)
        by_cases hf : 1024 ≤ l.length
        · have he : e = .returned (.tuple #[.slice A l.length cA, .int .i64 7]) := by
            rcases hcase with ⟨_, he⟩ | ⟨h1, _⟩
            · exact he
            · omega
          subst he
          rw [← HM.out]
          have HF := Lib.hid hf
          clear hcase hf
          have c1 : w5.cell? ⟨b, o + i * 4 + 1, none⟩ = some (.int .i64 x.cost) := HCS.out w5 S5.out.bel 1 _ rfl
          have c2 : w5.cell? ⟨b, o + i * 4 + 1 + 1, none⟩ = some (.int .i64 x.hops) := HCS.out w5 S5.out.bel 2 _ rfl
          have c3 : w5.cell? ⟨b, o + i * 4 + 1 + 2, none⟩ = some (.int .i64 x.node) := HCS.out w5 S5.out.bel 3 _ rfl
          have ht : Calls Try.prog 9 #[.agg #[.int .i64 x.cost, .int .i64 x.hops, .int .i64 x.node]] w5 (AggPost x w5) := theirs10_calls x w5
          go_wp2_with fail
          ((with_reducible refine ht.mono ?_))
          rintro e w6 ⟨rfl, hb6⟩
          have S6 := Lib.hid (S5.out.below hb6)
          clear ht c1 c2 c3
          have hp := qpush_calls S6.out.qe x S6.out.bel.size
          unfold QPushPost at hp
          rw [if_pos HF.out] at hp
          simp only [if_pos HF.out] at hp
          clear hb6
          go_wp2_with fail
          ((with_reducible refine hp.mono ?_))
          rintro e w7 ⟨rfl, g7, h7, t7, l7⟩
          have S7 := Lib.hid (show Ast w w7 q p1 g7 A cA l from ⟨h7, rowq_turn S6.out.row S6.out.away t7, S6.out.cap, fun h0 b' o' e => by
            have h1 := S6.out.away h0 b' o' e
            obtain ⟨b2, o2, e2, hlt2, _⟩ := S6.out.row.2 h0
            rw [e] at e2
            injection e2 with e2
            injection e2 with e2 _
            exact ⟨h1.1, by omega⟩, t7.bel S6.out.bel (Nat.le_refl _) (by have := S6.out.qe.lo; simp; omega)⟩)
          clear hp h7 t7 l7
          have hl := qlen_calls S7.out.qe
          rw [← HM.out] at hl
          go_wp2_with fail
          ((with_reducible refine hl.mono ?_))
          rintro e w10 ⟨rfl, rfl⟩
          clear hl
          go_wp2_with fail
          go_roundw
          case rel => exact ⟨i + 1, p1, g7, cA, A, l, by rw [← HM.out], rfl, by omega, by omega, S7.out⟩
          case measure => simp [intOf]; omega
        · obtain ⟨A7, c7, he, hacc⟩ : ∃ A7 c7, e = .returned (.tuple #[.slice A7 (insQ x l).length c7, .int .i64 0]) ∧ AccQ w5 wr.heap.size A7 c7 (insQ x l) := by
            rcases hcase with ⟨h1, _⟩ | ⟨_, A7, c7, he, hacc⟩
            · omega
            · exact ⟨A7, c7, he, hacc⟩
          subst he
          obtain ⟨m7, hm7⟩ : ∃ m7, m7 = (insQ x l).length := ⟨_, rfl⟩
          rw [← hm7]
          have HM7 := Lib.hid hm7
          have ACC := Lib.hid hacc
          clear hm7 hacc
          have HF := Lib.hid hf
          clear hcase hf
          have c1 : w5.cell? ⟨b, o + i * 4 + 1, none⟩ = some (.int .i64 x.cost) := HCS.out w5 S5.out.bel 1 _ rfl
          have c2 : w5.cell? ⟨b, o + i * 4 + 1 + 1, none⟩ = some (.int .i64 x.hops) := HCS.out w5 S5.out.bel 2 _ rfl
          have c3 : w5.cell? ⟨b, o + i * 4 + 1 + 2, none⟩ = some (.int .i64 x.node) := HCS.out w5 S5.out.bel 3 _ rfl
          have ht : Calls Try.prog 9 #[.agg #[.int .i64 x.cost, .int .i64 x.hops, .int .i64 x.node]] w5 (AggPost x w5) := theirs10_calls x w5
          go_wp2_with fail
          ((with_reducible refine ht.mono ?_))
          rintro e w6 ⟨rfl, hb6⟩
          have S6 := Lib.hid (S5.out.below hb6)
          clear ht c1 c2 c3
          have hp := qpush_calls S6.out.qe x S6.out.bel.size
          unfold QPushPost at hp
          rw [if_neg HF.out] at hp
          simp only [if_neg HF.out] at hp
          have A6 := Lib.hid (show AccQ w6 wr.heap.size A7 c7 (insQ x l) from AccR.bel ACC.out hb6)
          clear hb6
          go_wp2_with fail
          ((with_reducible refine hp.mono ?_))
          rintro e w7 ⟨rfl, g7, h7, t7, l7⟩
          have S7 := Lib.hid (show Ast w w7 q p1 g7 A7 c7 (insQ x l) from by
            have hlt := S1.out.qe.lt
            have hrow := AccR.row A6.out
            have haw : ∀ b' o', A7 = some ⟨b', o', none⟩ → wr.heap.size ≤ b' ∧ b' < w6.heap.size := fun b' o' e => by
              have := AccR.ge A6.out (x := b') (by rw [e]; rfl)
              exact this
            refine ⟨h7, rowq_turn hrow (fun _ b' o' e => by have := haw b' o' e; omega) t7, (AccR.cap A6.out).1, fun h0 b' o' e => ?_, t7.bel S6.out.bel (Nat.le_refl _) (by have := S6.out.qe.lo; simp; omega)⟩
            have := haw b' o' e
            omega)
          clear hp h7 t7 l7
          have hl := qlen_calls S7.out.qe
          rw [← HM7.out] at hl
          go_wp2_with fail
          ((with_reducible refine hl.mono ?_))
          rintro e w10 ⟨rfl, rfl⟩
          clear hl
          go_wp2_with fail
          go_roundw
          case rel => exact ⟨i + 1, p1, g7, c7, A7, insQ x l, by rw [← HM7.out], rfl, by omega, by omega, S7.out⟩
          case measure => simp [intOf]; omega
    · by_cases hl1 : i < n
      · have i1 : (i : Int) < (n : Int) := by omega
        have i2 : ¬ (i : Int) < 1200 := by omega
        go_wp2
        go_ret
        exact ⟨rfl, S1.out.bel⟩
      · have i1 : ¬ (i : Int) < (n : Int) := by omega
        go_wp2
        go_ret
        exact ⟨rfl, S1.out.bel⟩
end Go.Proofs.Ytnjgffhhalaknaa
