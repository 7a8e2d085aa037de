/-
  Contract of spf.All, told by the search that it leaves. Condition: the links read as links, at most 2^30 of them.
-/
import Derived.Test.YtjflbfianncpfaaSpfIL
import Derived.Test.YtjflbfianncpfaaGraphDL
namespace Go.Proofs.Ytjflbfianncpfaa
set_option maxRecDepth 100000
set_option linter.unusedVariables false
open Go.RowKit

section
variable {w0 w w' : World} {K : Sk} {g : Nat} {RS : List Rs} {C : List Int} {S : List (Option (Int × List Int))} {Q : List Itm}
/-- An item beside the search turns. -/
theorem Sea.beside (h : Sea w0 w K g RS C S Q) {r : Nat} {vs : List Value} (hb : Blk w r 89 vs) (hrg : r ≠ g) (hlo : w0.heap.size ≤ r) (hg : w.grownBy w' (some r)) : Sea w0 w' K g RS C S Q := by
  have t0 := hb.ty
  obtain ⟨t1, t2, t3⟩ := h.queue.ty
  have n1 := ne_ty h.head.ty t0 (by decide)
  have n2 := ne_ty h.routes.ty t0 (by decide)
  have n3 := ne_ty h.costs.ty t0 (by decide)
  have n4 := ne_ty t1 t0 (by decide)
  have n5 := ne_ty t2 t0 (by decide)
  have ht := Turn.of_grown (S := [r]) hg (by simp)
  refine ⟨ht.bel h.bel (Nat.le_refl _) (by simp; omega), h.head.same (ht.block _ h.head.lt (by simp; exact n1)), h.routes.same (ht.block _ h.routes.lt (by simp; exact n2)), h.costs.same (ht.block _ h.costs.lt (by simp; exact n3)), h.queue.other hg n4 n5 (Ne.symm hrg), h.lr, h.lc, h.ls, h.loA, h.loB, ?_⟩
  intro i x co st h1 h2 h3
  refine (h.ok i x co st h1 h2 h3).same (fun c r' ha _ => accr_off11 ha ht (fun b hb' => ?_))
  have := ne_ty (accr_ty ha hb') t0 (by decide)
  simpa using this
end

/-- The search when an item has come out of the queue, or none: the item lies in a block of its own. -/
def Rnd11 (w0 : World) (K : Sk) (n : Int) (L : List Lk) (a : Int) (m : Nat) (z : Value × Value × World) : Prop :=
  ∃ g S D k bx, z.1 = .pointer (some ⟨bx, 0, none⟩) ∧ w0.heap.size ≤ bx ∧ bx ≠ g ∧
    ((z.2.1 = .int .i64 8 ∧ Sy w0 z.2.2 K g S [] ∧ Djk n L a S [] D (fun y => y.f ∈ D) k ∧ Blk z.2.2 bx 89 [.int .i64 0, .int .i64 0, .int .i64 0] ∧ m = 0) ∨
     (∃ q Q, z.2.1 = .int .i64 0 ∧ Sy w0 z.2.2 K g S Q ∧ Djk n L a S (q :: Q) D (fun y => y.f ∈ D) k ∧ Blk z.2.2 bx 89 [.int .i64 q.cost, .int .i64 q.hops, .int .i64 q.node] ∧ Q.length + 1 + rest L D = m ∧ m ≤ 100))
/-- A queue with all that it was, or what has come out of it. -/
theorem rnd_of11 {w0 W : World} {K : Sk} {n : Int} {L : List Lk} {a : Int} {g bx : Nat} {S : List (Option (Int × List Int))} {Ql : List Itm} {D : List Int} {k : Int} (hlo : w0.heap.size ≤ bx) (hg : bx ≠ g) (hs : Sy w0 W K g S Ql.tail) (hd : Djk n L a S Ql D (fun y => y.f ∈ D) k)
    (hb : Blk W bx 89 [.int .i64 (hdQ Ql).cost, .int .i64 (hdQ Ql).hops, .int .i64 (hdQ Ql).node]) (hm : Ql.length + rest L D ≤ 100) : ∃ m, Rnd11 w0 K n L a m (.pointer (some ⟨bx, 0, none⟩), .int .i64 (erQ Ql), W) ∧ m ≤ Ql.length + rest L D := by
  cases Ql with
  | nil => exact ⟨0, ⟨g, S, D, k, bx, rfl, hlo, hg, .inl ⟨rfl, hs, hd, hb, rfl⟩⟩, Nat.zero_le _⟩
  | cons q Q => exact ⟨Q.length + 1 + rest L D, ⟨g, S, D, k, bx, rfl, hlo, hg, .inr ⟨q, Q, rfl, hs, hd, hb, rfl, by simpa using hm⟩⟩, by simp⟩

/-- What All answers, by the search that it leaves. -/
def All11Post (w : World) (n : Int) (L : List Lk) (a : Int) (e : Ending) (w' : World) : Prop :=
  Below w.heap.size w w' ∧ ((¬ (chk n L = 0 ∧ 0 ≤ a ∧ a < n) ∧ e = .returned (.tuple #[.slice none 0 0, .slice none 0 0, .int .i64 2])) ∨
    (chk n L = 0 ∧ 0 ≤ a ∧ a < n ∧ ∃ K g RS C S, e = .returned (.tuple #[.slice (some ⟨K.A, 0, none⟩) K.N K.N, .slice (some ⟨K.B, 0, none⟩) K.N K.N, .int .i64 0]) ∧ (K.N : Int) = n ∧ Sea w w' K g RS C S [] ∧ AllW n L a S))

set_option maxHeartbeats 4000000 in
theorem all11_calls (n : Int) (p : Option Addr) (m cl : Nat) (L : List Lk) (a : Int) (w : World) (n1 : -9223372036854775808 ≤ n) (n2 : n ≤ 9223372036854775807) (h : Row lkc w w.heap.size p m L) (hm : m ≤ 1073741824) :
    Calls Try.prog 29 #[.int .i64 n, .slice p m cl, .int .i64 a] w (All11Post w n L a) := by
  have hck := check_calls n p m cl L w h n1 n2 (by omega)
  have hnd := isnode11_calls n a
  have HCK := Lib.hid hck
  have HND := Lib.hid hnd
  clear hck hnd n1 n2
  by_cases hz : chk n L = 0
  case neg =>
    have q1 : (chk n L != 0) = true := by simp [hz]
    have HZ := Lib.hid hz
    clear hz h
    go_enter Try.func29, Try.ntmps29
    go_wp2_with fail
    ((with_reducible refine HCK.out.mono ?_))
    rintro e w1 ⟨rfl, b1⟩
    have B1 := Lib.hid b1
    clear b1
    go_wp2
    refine bodyPost_ret (v := .tuple #[.slice none 0 0, .slice none 0 0, .int .i64 2]) (by simp [results, Try.results29, go_sem]) rfl ?_
    exact ⟨B1.out, .inl ⟨fun hc => HZ.out hc.1, rfl⟩⟩
  by_cases ha : 0 ≤ a ∧ a < n
  case neg =>
    have q1 : (chk n L != 0) = false := by simp [hz]
    have q2 : decide (0 ≤ a ∧ a < n) = false := decide_eq_false ha
    have hnd := HND.out
    rw [q2] at hnd
    have HND2 := Lib.hid hnd
    have HA := Lib.hid ha
    clear hz h ha q2 hnd
    go_enter Try.func29, Try.ntmps29
    go_wp2_with fail
    ((with_reducible refine HCK.out.mono ?_))
    rintro e w1 ⟨rfl, b1⟩
    have B1 := Lib.hid b1
    clear b1
    go_wp2_with fail
    ((with_reducible refine (HND2.out w1).mono ?_))
    rintro e w2 ⟨rfl, rfl⟩
    go_wp2
    refine bodyPost_ret (v := .tuple #[.slice none 0 0, .slice none 0 0, .int .i64 2]) (by simp [results, Try.results29, go_sem]) rfl ?_
    exact ⟨B1.out, .inl ⟨fun hc => HA.out ⟨hc.2.1, hc.2.2⟩, rfl⟩⟩
  have q1 : (chk n L != 0) = false := by simp [hz]
  have q2 : decide (0 ≤ a ∧ a < n) = true := decide_eq_true ha
  have hnd := HND.out
  rw [q2] at hnd
  have HND2 := Lib.hid hnd
  have HZ := Lib.hid hz
  have HA := Lib.hid ha
  have HNET := Lib.hid (net_of_chk hz)
  have HNE := Lib.hid (show ∀ z ∈ L, z.f ≠ z.t from fun z hzm => by
    obtain ⟨_, _, _, z4⟩ := chk_zero hz
    simp only [netB, Bool.and_eq_true, List.all_eq_true, vld] at z4
    have := (z4.1 z hzm).1.2
    simpa using this)
  have HR := Lib.hid h
  obtain ⟨N, rfl⟩ : ∃ N : Nat, n = (N : Int) := ⟨n.toNat, by omega⟩
  obtain ⟨k, rfl⟩ : ∃ k : Nat, a = (k : Int) := ⟨a.toNat, by omega⟩
  have hN1 : 1 ≤ N := by omega
  have hN2 : N ≤ 16 := by have := HNET.out.2.1; omega
  have HN := Lib.hid (And.intro hN1 hN2)
  have hkN : k < N := by omega
  have HK := Lib.hid hkN
  clear hz h ha q2 hnd hN1 hN2 hkN
  go_enter Try.func29, Try.ntmps29
  go_wp2_with fail
  ((with_reducible refine HCK.out.mono ?_))
  rintro e w1 ⟨rfl, b1⟩
  have B1 := Lib.hid b1
  clear b1
  go_wp2_with fail
  ((with_reducible refine (HND2.out w1).mono ?_))
  rintro e w2 ⟨rfl, rfl⟩
  clear q1
  go_wp2_with fail
  ((with_reducible refine (newsearch_calls N HN.out.1 HN.out.2 w2).mono ?_))
  rintro e w3 ⟨K, g, rfl, hKN, hs3⟩
  have HKN := Lib.hid hKN
  have H3 := Lib.hid (show Sea w w3 K g (List.replicate N ⟨none, 0, 0⟩) (List.replicate N (-1)) (List.replicate N none) [] from
    ⟨B1.out.trans (hs3.bel.mono B1.out.size), hs3.head, hs3.routes, hs3.costs, hs3.queue.lower B1.out.size, hs3.lr, hs3.lc, hs3.ls, Nat.le_trans B1.out.size hs3.loA, Nat.le_trans B1.out.size hs3.loB, fun i x co st h1 h2 h3 => by
      have := hs3.ok i x co st h1 h2 h3
      cases st with
      | none => exact this
      | some q => exact ⟨this.1, this.2.1, this.2.2.1, this.2.2.2.1, AccR.lower this.2.2.2.2.1 B1.out.size, this.2.2.2.2.2⟩⟩)
  clear hKN hs3
  go_wp2_with fail
  have X4 := Lib.hid (Blk.new w3 3 [.int .i64 (k : Int)])
  have H4 := Lib.hid (H3.out.below (bel_new (Below.refl w3.heap.size w3) (.cells #[.int .i64 (k : Int)] 3)))
  have L4 := Lib.hid (show w.heap.size ≤ w3.heap.size ∧ K.B < w3.heap.size from ⟨H3.out.bel.size, H3.out.costs.lt⟩)
  generalize hxb : w3.heap.size = xb at *
  clear hxb
  generalize w3.alloc (.cells #[.int .i64 (k : Int)] 3) = w4 at *
  have hoff := offer_calls (w0 := w) (w := w4) (K := K) (g := g) (S := List.replicate N none) (Q := []) ⟨_, _, H4.out⟩ (some ⟨xb, 0, none⟩) 1 1 0 [(k : Int)] k
    (Blk.acci (l := [(k : Int)]) X4.out L4.out.1 (by simp)) rfl (Nat.le_refl _) (by omega) rfl (by rw [HKN.out]; exact HK.out) (Int.le_refl _) (fun b hb => by
      have hb' : xb = b := by simpa [blk] using hb
      have := L4.out.2
      omega) (by simp)
  ((with_reducible refine hoff.mono ?_))
  rintro e w5 ⟨rfl, g5, hf5, _, hcase⟩
  have h5 : Sy w w5 K g5 (st0 (N : Int) (k : Int)) [⟨0, 0, (k : Int)⟩] := by
    rcases hcase with ⟨p0, hp0, _⟩ | ⟨_, h⟩
    · have h0 : sat (List.replicate N (none : Option (Int × List Int))) (k : Int) = none := by
        unfold sat
        rw [List.getD_eq_getElem?_getD, List.getElem?_replicate]
        split <;> rfl
      rw [h0] at hp0
      cases hp0
    · have e1 : st0 (N : Int) (k : Int) = (List.replicate N none).set k (some (0, [(k : Int)])) := by unfold st0; simp
      rw [e1]
      exact h
  have D5 := Lib.hid (djk_first (n := (N : Int)) (L := L) (a := (k : Int)) HA.out)
  obtain ⟨RS5, C5, hs5⟩ := h5
  have H5 := Lib.hid hs5
  clear hoff hcase hs5 hf5
  have cq5 : w5.cell? ⟨K.s, 2, none⟩ = some (.pointer (some ⟨K.q, 0, none⟩)) := H5.out.head.cell 2
  have hp5 := qpop_calls H5.out.queue
  unfold QPopPost at hp5
  rw [show (Value.agg (itL (hdQ [⟨0, 0, (k : Int)⟩])).toArray) = .agg #[.int .i64 0, .int .i64 0, .int .i64 (k : Int)] from rfl, show erQ [⟨0, 0, (k : Int)⟩] = 0 from rfl] at hp5
  have HP5 := Lib.hid hp5
  clear hp5
  go_wp2_with fail
  ((with_reducible refine HP5.out.mono ?_))
  rintro e w6 ⟨rfl, hq6, ht6⟩
  have H6 := Lib.hid (H5.out.turn ht6 hq6)
  clear hq6 ht6 cq5
  go_wp2_with fail
  obtain ⟨f, hf⟩ := least_of (Rnd11 w K (N : Int) L (k : Int))
  have HF := Lib.hid hf
  clear hf
  have hst : ∃ m0, Rnd11 w K (N : Int) L (k : Int) m0 (.pointer (some ⟨w6.heap.size, 0, none⟩), .int .i64 0, w6.alloc (.cells #[.int .i64 0, .int .i64 0, .int .i64 (k : Int)] 89)) := by
    obtain ⟨m0, h0, _⟩ := rnd_of11 (Ql := [⟨0, 0, (k : Int)⟩]) (D := []) (k := 0) (show w.heap.size ≤ w6.heap.size from H6.out.bel.size) (show w6.heap.size ≠ g5 from by have := H6.out.queue.lt; omega) ⟨RS5, C5, H6.out.below (bel_new (Below.refl _ _) (.cells #[.int .i64 0, .int .i64 0, .int .i64 (k : Int)] 89))⟩ D5.out (Blk.new w6 _ [.int .i64 0, .int .i64 0, .int .i64 (k : Int)])
      (by have h1 := rest_le L []; have h2 := HNET.out.2.2.1; simp; omega)
    exact ⟨m0, h0⟩
  have HST := Lib.hid hst
  clear hst
  go_loopw [11, 12] (fun s t W => ∃ m0, Rnd11 w K (N : Int) L (k : Int) m0 (s, t, W)) (fun s t W => f (s, t, W))
  case atStart => exact HST.out
  case round =>
    have hm0 := HF.out (u11, u12, wr) hrel
    obtain ⟨M, hM⟩ : ∃ M, M = f (u11, u12, wr) := ⟨_, rfl⟩
    rw [← hM] at hm0
    have HM0 := Lib.hid hM
    obtain ⟨⟨g', S, D, kk, bx, he1, hlo, hbg, hcase⟩, _⟩ := hm0
    simp only at he1
    subst he1
    clear hrel H6 H5 H4 H3 X4 L4 D5 HP5 HST hM
    rcases hcase with ⟨he2, hsy, hdj, hbk, _⟩ | ⟨q, Q, he2, hsy, hdj, hbk, hq1, hq2⟩
    · simp only at he2
      subst he2
      obtain ⟨RS, C, hs⟩ := hsy
      simp only at hs hbk hdj
      have H := Lib.hid hs
      have HALL := Lib.hid (hdj.all HNET.out.2.2.2 HA.out)
      have S2 := Lib.hid (show ∀ W, Blk W K.s 113 [.slice (some ⟨K.A, 0, none⟩) K.N K.N, .slice (some ⟨K.B, 0, none⟩) K.N K.N, .pointer (some ⟨K.q, 0, none⟩)] → W.cell? ⟨K.s, 0, none⟩ = some (.slice (some ⟨K.A, 0, none⟩) K.N K.N) ∧ W.cell? ⟨K.s, 1, none⟩ = some (.slice (some ⟨K.B, 0, none⟩) K.N K.N) from fun W hW => ⟨hW.cell 0, hW.cell 1⟩)
      clear hs hdj hbk
      go_wp2_with fail
      refine region_seq (fun W => Blk W K.s 113 [.slice (some ⟨K.A, 0, none⟩) K.N K.N, .slice (some ⟨K.B, 0, none⟩) K.N K.N, .pointer (some ⟨K.q, 0, none⟩)]) [(0, true), (1, true), (2, true), (3, true), (4, true), (5, true), (6, true), (7, true), (8, true), (9, true), (10, true)]
        (by kernel_rfl) (by kernel_rfl) (by kernel_rfl) (by kernel_rfl) (fun _ _ _ _ _ h => h) H.out.head ?_
      repeat
        refine seq_pure (v := ?_) rfl (by rfl) (fun W hW => ?_) ?_
        rotate_left
        · obtain ⟨t0, t1⟩ := S2.out W hW
          clear hW
          go_simp
          with_reducible rfl
        simp only [Act.put, List.setIfInBounds_toArray, List.set_cons_zero, List.set_cons_succ]
      refine seq_done ?_
      go_wp2
      refine bodyPost_ret (v := .tuple #[.slice (some ⟨K.A, 0, none⟩) K.N K.N, .slice (some ⟨K.B, 0, none⟩) K.N K.N, .int .i64 0]) (by simp [results, Try.results29, go_sem]) rfl ?_
      exact ⟨H.out.drew.bel, .inr ⟨HZ.out, HA.out.1, HA.out.2, K, g', RS, C, S, rfl, by rw [HKN.out], H.out.drew, HALL.out⟩⟩
    · simp only at he2
      subst he2
      obtain ⟨RS, C, hs⟩ := hsy
      simp only at hs hbk hdj
      obtain ⟨hpop, hfr⟩ := hdj.pop
      obtain ⟨n0, n1, _⟩ := hdj.que q (List.mem_cons_self ..)
      have hlv := leave_calls (w0 := w) (w := wr) (K := K) (g := g') (S := S) (Q := Q) ⟨RS, C, hs⟩ (n := (N : Int)) (a := (k : Int)) (L := L) (D := D) (k := q.cost) (x := q.node) HNET.out.2.2.2 HNE.out HA.out HNET.out.2.1 HNET.out.2.2.1 p m cl HR.out n0 n1 (by rw [HKN.out]) hpop hfr (by omega)
      have HLV := Lib.hid hlv
      have cb2 : wr.cell? ⟨bx, 2, none⟩ = some (.int .i64 q.node) := hbk.cell 2
      have BX := Lib.hid hbk
      have tq := hs.queue.ty
      have OFF := Lib.hid (show bx ≠ K.A ∧ bx ≠ K.B ∧ bx ≠ K.p ∧ bx ≠ g' from ⟨ne_ty hbk.ty hs.routes.ty (by decide), ne_ty hbk.ty hs.costs.ty (by decide), ne_ty hbk.ty tq.2.1 (by decide), hbg⟩)
      have HQM := Lib.hid (And.intro hq1 hq2)
      have HLO := Lib.hid hlo
      clear hs hbk hdj hpop hfr n0 n1 hlv tq hq1 hq2 hbg hlo
      go_wp2_with fail
      ((with_reducible refine HLV.out.mono ?_))
      rintro e w7 ⟨rfl, g7, S7, Q7, hf7, ⟨RS7, C7, hs7⟩, hdj7, hlen7⟩
      have H7 := Lib.hid hs7
      have DJ7 := Lib.hid hdj7
      have LEN7 := Lib.hid hlen7
      have hb7 := Fr.stays hf7 BX.out OFF.out
      have e0 : w7.cell? ⟨bx, 0, none⟩ = some (.int .i64 q.cost) := hb7.cell 0
      have e1 : w7.cell? ⟨bx, 1, none⟩ = some (.int .i64 q.hops) := hb7.cell 1
      have e2 : w7.cell? ⟨bx, 2, none⟩ = some (.int .i64 q.node) := hb7.cell 2
      clear hs7 hdj7 hlen7 hf7 hb7 cb2 HLV
      go_upto_region 8 with fail
      have X8 := Lib.hid (Blk.new w7 89 [.int .i64 q.cost, .int .i64 q.hops, .int .i64 q.node])
      have H8 := Lib.hid (H7.out.below (bel_new (Below.refl w7.heap.size w7) (.cells #[.int .i64 q.cost, .int .i64 q.hops, .int .i64 q.node] 89)))
      obtain ⟨bz, hbz⟩ : ∃ bz, bz = w7.heap.size := ⟨_, rfl⟩
      have HBZ := Lib.hid (show w.heap.size ≤ bz ∧ bz ≠ g7 ∧ bz ≠ K.p from by
        have h1 := H7.out.bel.size
        have h2 := H7.out.queue.lt
        omega)
      rw [← hbz] at X8 ⊢
      generalize w7.alloc (.cells #[.int .i64 q.cost, .int .i64 q.hops, .int .i64 q.node] 89) = w8 at *
      clear e0 e1 e2 hbz
      have hp8 := qpop_calls H8.out.queue
      unfold QPopPost at hp8
      rw [show (Value.agg (itL (hdQ Q7)).toArray) = .agg #[.int .i64 (hdQ Q7).cost, .int .i64 (hdQ Q7).hops, .int .i64 (hdQ Q7).node] from rfl] at hp8
      have HP8 := Lib.hid hp8
      clear hp8
      go_wp2_with fail
      ((with_reducible refine HP8.out.mono ?_))
      rintro e w9 ⟨rfl, hq9, ht9⟩
      have H9 := Lib.hid (H8.out.turn ht9 hq9)
      have x9 : Blk w9 bz 89 [.int .i64 q.cost, .int .i64 q.hops, .int .i64 q.node] := X8.out.same (ht9.block bz X8.out.lt (by have := HBZ.out; simp; omega))
      have X9 := Lib.hid x9
      have f0 := x9.free 0
      have f1 := x9.free 1
      have f2 := x9.free 2
      have c0 : w9.cell? ⟨bz, 0, none⟩ = some (.int .i64 q.cost) := x9.cell 0
      have c1 : w9.cell? ⟨bz, 1, none⟩ = some (.int .i64 q.hops) := x9.cell 1
      have c2 : w9.cell? ⟨bz, 2, none⟩ = some (.int .i64 q.node) := x9.cell 2
      clear hq9 ht9 x9 HP8
      go_wp2_with fail
      have hp := put3 X9.out (.int .i64 (hdQ Q7).cost) (.int .i64 (hdQ Q7).hops) (.int .i64 (hdQ Q7).node)
      have hs10 := fun hg => H9.out.beside X9.out HBZ.out.2.1 HBZ.out.1 (w' := ((w9.setCell ⟨bz, 0, none⟩ (.int .i64 (hdQ Q7).cost)).setCell ⟨bz, 1, none⟩ (.int .i64 (hdQ Q7).hops)).setCell ⟨bz, 2, none⟩ (.int .i64 (hdQ Q7).node)) hg
      clear f0 f1 f2 c0 c1 c2
      generalize ((w9.setCell ⟨bz, 0, none⟩ (.int .i64 (hdQ Q7).cost)).setCell ⟨bz, 1, none⟩ (.int .i64 (hdQ Q7).hops)).setCell ⟨bz, 2, none⟩ (.int .i64 (hdQ Q7).node) = w10 at *
      obtain ⟨hb10, hg10⟩ := hp
      obtain ⟨m1, hm1, hle⟩ := rnd_of11 (Ql := Q7) HBZ.out.1 HBZ.out.2.1 ⟨RS7, C7, hs10 hg10⟩ DJ7.out hb10 (by have := LEN7.out; have := HQM.out; omega)
      have HM1 := Lib.hid hm1
      have HLE := Lib.hid (show m1 < M from by have h1 := LEN7.out; have h2 := HQM.out; omega)
      have HMM := Lib.hid HM0.out
      clear hb10 hg10 hs10 hm1 hle
      go_roundw
      case rel => exact ⟨m1, HM1.out⟩
      case measure =>
        have h1 := (HF.out _ ⟨m1, HM1.out⟩).2 m1 HM1.out
        have h2 := HMM.out
        rw [h2] at HLE
        exact Nat.lt_of_le_of_lt h1 HLE.out
end Go.Proofs.Ytjflbfianncpfaa
