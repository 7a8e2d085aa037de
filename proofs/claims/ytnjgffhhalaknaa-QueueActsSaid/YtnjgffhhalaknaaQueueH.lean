/-
  Contracts of package queue: Pop, and all calls of a queue that New did not make. Condition: none.
-/
import Derived.Test.YtnjgffhhalaknaaQueueG
namespace Go.Proofs.Ytnjgffhhalaknaa
open Go.RowKit

/-- What is popped, and the error. -/
def hdQ (l : List Itm) : Itm := l.headD ⟨0, 0, 0⟩
def erQ (l : List Itm) : Int := if l = [] then 8 else 0
/-- What Pop answers, and leaves. -/
def QPopPost (w : World) (base q p g : Nat) (l : List Itm) (e : Ending) (w' : World) : Prop :=
  e = .returned (.tuple #[.agg (itL (hdQ l)).toArray, .int .i64 (erQ l)]) ∧ Qe w' base q p g l.tail ∧ Turn [p, g] w w'
section
variable {w w' : World} {base q p g : Nat} {l : List Itm}
theorem Qe.other (h : Qe w base q p g l) {r : Nat} (hg : w.grownBy w' (some r)) (h1 : q ≠ r) (h2 : p ≠ r) (h3 : g ≠ r) : Qe w' base q p g l := by
  obtain ⟨c, f, i1, i2⟩ := h.items
  refine ⟨h.head.same (hg.block q h.lt.1 (by simp; exact h1)), ⟨c, f, ⟨i1.head.same (hg.block p h.lt.2.1 (by simp; exact h2)), AccR.kept i1.row hg (fun y hy e => h3 (by simp [blk] at hy; injection e with e; omega)), i1.ge, i1.ne⟩, i2⟩, h.qp, h.qg, h.qb, h.small⟩
theorem put3 {w : World} {q : Nat} {T : TypeId} {u0 u1 u2 : Value} (h : Blk w q T [u0, u1, u2]) (v0 v1 v2 : Value) : Blk (((w.setCell ⟨q, 0, none⟩ v0).setCell ⟨q, 1, none⟩ v1).setCell ⟨q, 2, none⟩ v2) q T [v0, v1, v2] ∧ w.grownBy (((w.setCell ⟨q, 0, none⟩ v0).setCell ⟨q, 1, none⟩ v1).setCell ⟨q, 2, none⟩ v2) (some q) := by
  have g : ∀ (w : World) (i : Nat) (v : Value), w.grownBy (w.setCell ⟨q, i, none⟩ v) (some q) := fun w i v => ⟨rfl, rfl, rfl, by simp, fun k _ hk => heap_setCell_other w ⟨q, i, none⟩ k _ (fun e => hk (by simp [e]))⟩
  exact ⟨((h.set 0 v0).set 1 v1).set 2 v2, ((g _ _ _).trans (g _ _ _)).trans (g _ _ _)⟩
theorem turn_new {S : List Nat} {w w3 w4 : World} {r : Nat} (h : Turn S w w3) (hg : w3.grownBy w4 (some r)) (hr : w.heap.size ≤ r) : Turn S w w4 :=
  ⟨hg.os.trans h.os, hg.tape.trans h.tape, hg.output.trans h.output, Nat.le_trans h.size hg.size, fun k hk hn => (hg.block k (Nat.lt_of_lt_of_le hk h.size) (by simp; omega)).trans (h.block k hk hn)⟩
set_option maxRecDepth 100000 in
set_option maxHeartbeats 1600000 in
theorem qpop_calls (h : Qe w base q p g l) :
    Calls Try.prog 13 #[.pointer (some ⟨q, 0, none⟩)] w (QPopPost w base q p g l) := by
  have H := Lib.hid h
  have hm := fun w h => made_yes q p w h
  have HM := Lib.hid hm
  have ta := run_typeAssert_item
  have TA := Lib.hid ta
  clear h hm ta
  go_enter Try.func13, Try.ntmps13
  go_wp2_with fail
  have h1 := H.out.bel (bel_new (Below.refl _ _) (.cells #[.int .i64 0, .int .i64 0, .int .i64 0] 25))
  have b1 := Blk.new w 25 [.int .i64 0, .int .i64 0, .int .i64 0]
  have t1 : Turn [p, g] w (w.alloc (.cells #[.int .i64 0, .int .i64 0, .int .i64 0] 25)) := Turn.of_below (bel_new (Below.refl _ _) _)
  generalize w.alloc (.cells #[.int .i64 0, .int .i64 0, .int .i64 0] 25) = w1 at *
  have H1 := Lib.hid h1
  have B1 := Lib.hid b1
  have T1 := Lib.hid t1
  clear h1 b1 t1
  have hmm := HM.out w1 H1.out.cellq
  ((with_reducible refine hmm.mono ?_))
  rintro e w2 ⟨rfl, rfl⟩
  clear hmm
  have hl := qlen_calls H1.out
  go_wp2_with fail
  ((with_reducible refine hl.mono ?_))
  rintro e w2 ⟨rfl, rfl⟩
  clear hl
  have n1 : q ≠ w.heap.size ∧ p ≠ w.heap.size ∧ g ≠ w.heap.size := by have := H.out.lt; omega
  have N1 := Lib.hid n1
  clear n1
  cases l with
  | nil =>
    have f0 := B1.out.free 0
    have f1 := B1.out.free 1
    have f2 := B1.out.free 2
    have c0 : w2.cell? ⟨w.heap.size, 0, none⟩ = some (.int .i64 0) := B1.out.cell 0
    have c1 : w2.cell? ⟨w.heap.size, 1, none⟩ = some (.int .i64 0) := B1.out.cell 1
    have c2 : w2.cell? ⟨w.heap.size, 2, none⟩ = some (.int .i64 0) := B1.out.cell 2
    go_wp2_with fail
    have hp := put3 B1.out (.int .i64 0) (.int .i64 0) (.int .i64 0)
    generalize ((w2.setCell ⟨w.heap.size, 0, none⟩ (.int .i64 0)).setCell ⟨w.heap.size, 1, none⟩ (.int .i64 0)).setCell ⟨w.heap.size, 2, none⟩ (.int .i64 0) = w4 at *
    obtain ⟨hb4, hg4⟩ := hp
    have Q4 := Lib.hid (H1.out.other hg4 N1.out.1 N1.out.2.1 N1.out.2.2)
    have T4 := Lib.hid (turn_new T1.out hg4 (Nat.le_refl _))
    have B4 := Lib.hid hb4
    clear hb4 hg4
    refine bodyPost_ret (v := .tuple #[.agg (itL ⟨0, 0, 0⟩).toArray, .int .i64 8]) (results_two8 rfl _ rfl B4.out Try.underlying25 rfl infoItem rfl) rfl ?_
    exact ⟨rfl, Q4.out, T4.out⟩
  | cons a r =>
    obtain ⟨m, hm⟩ : ∃ m, m = (a :: r).length := ⟨_, rfl⟩
    have gb : ¬ (m : Int) = 0 := by rw [hm]; simp; omega
    rw [← hm]
    have HL := Lib.hid hm
    have ta := TA.out
    have hq0 := H1.out.cellq
    obtain ⟨c, f, hi, hq⟩ := H1.out.items
    have hh : (a :: r).length = r.length + 1 := rfl
    rw [hh] at hi hq
    have hcp := hpop_calls hi hq.heap (by have := H1.out.small; rw [hh] at this; omega)
    unfold hpv HPopPost at hcp
    have HCP := Lib.hid hcp
    have HQ := Lib.hid hq
    clear hm hcp hi hq hh
    go_wp2_with fail
    ((with_reducible refine HCP.out.mono ?_))
    rintro e w3 ⟨rfl, c3, f3, h3, hp3, hs3, t3⟩
    have q3 : Qe w3 base q p g r := by
      have hlt := H1.out.lt
      exact ⟨H1.out.head.same (t3.block q hlt.1 (by simp; exact ⟨H1.out.qp, H1.out.qg⟩)), ⟨c3, f3, h3, HQ.out.pop hp3 hs3⟩, H1.out.qp, H1.out.qg, H1.out.qb, by have := H1.out.small; simp at this; omega⟩
    have b3 : Blk w3 w.heap.size 25 [.int .i64 0, .int .i64 0, .int .i64 0] := B1.out.same (t3.block _ B1.out.lt (by have h6 := N1.out; simp; omega))
    have Q3 := Lib.hid q3
    have B3 := Lib.hid b3
    have T3 := Lib.hid (T1.out.trans t3)
    have E3 := Lib.hid HQ.out.head
    have ea : (Value.agg (itL (f 0)).toArray) = .agg #[.int .i64 a.cost, .int .i64 a.hops, .int .i64 a.node] := by rw [E3.out]; rfl
    rw [ea]
    clear ea
    clear h3 hp3 hs3 t3 q3 b3 hq0
    have f0 := B3.out.free 0
    have f1 := B3.out.free 1
    have f2 := B3.out.free 2
    have c0 : w3.cell? ⟨w.heap.size, 0, none⟩ = some (.int .i64 0) := B3.out.cell 0
    have c1 : w3.cell? ⟨w.heap.size, 1, none⟩ = some (.int .i64 0) := B3.out.cell 1
    have c2 : w3.cell? ⟨w.heap.size, 2, none⟩ = some (.int .i64 0) := B3.out.cell 2
    go_wp2_with fail
    have hp := put3 B3.out (.int .i64 a.cost) (.int .i64 a.hops) (.int .i64 a.node)
    generalize ((w3.setCell ⟨w.heap.size, 0, none⟩ (.int .i64 a.cost)).setCell ⟨w.heap.size, 1, none⟩ (.int .i64 a.hops)).setCell ⟨w.heap.size, 2, none⟩ (.int .i64 a.node) = w4 at *
    obtain ⟨hb4, hg4⟩ := hp
    have Q4 := Lib.hid (Q3.out.other hg4 N1.out.1 N1.out.2.1 N1.out.2.2)
    have T4 := Lib.hid (turn_new T3.out hg4 (Nat.le_refl _))
    have B4 := Lib.hid hb4
    clear hb4 hg4
    refine bodyPost_ret (v := .tuple #[.agg (itL a).toArray, .int .i64 0]) (results_two8 rfl _ rfl B4.out Try.underlying25 rfl infoItem rfl) rfl ?_
    exact ⟨rfl, Q4.out, T4.out⟩
end
end Go.Proofs.Ytnjgffhhalaknaa
