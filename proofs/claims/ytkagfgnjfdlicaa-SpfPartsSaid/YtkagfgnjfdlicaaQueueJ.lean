/-
  A queue while a call goes on, in short; and the law's own first look (alive). No condition.
-/
import Derived.Test.YtkagfgnjfdlicaaQueueI
namespace Go.Proofs.Ytkagfgnjfdlicaa
set_option maxRecDepth 100000
open Go.RowKit

/-- A queue that was made since w0, with these items in order. -/
def Qs (w0 w : World) (q : Nat) (l : List Itm) : Prop := Below w0.heap.size w0 w ∧ ∃ p g, Qe w w0.heap.size q p g l
section
variable {w0 w w' : World} {base q p g : Nat} {l : List Itm}
theorem Hpl.lower {c n : Nat} {f : Nat → Itm} (h : Hpl w base p g c n f) {b' : Nat} (hb : b' ≤ base) : Hpl w b' p g c n f := ⟨h.head, AccR.lower h.row hb, Nat.le_trans hb h.ge, h.ne⟩
theorem Qe.lower (h : Qe w base q p g l) {b' : Nat} (hb : b' ≤ base) : Qe w b' q p g l := by
  obtain ⟨c, f, h1, h2⟩ := h.items
  exact ⟨h.head, ⟨c, f, h1.lower hb, h2⟩, h.qp, h.qg, Nat.le_trans hb h.qb, h.small⟩
theorem Qs.bel (h : Qs w0 w q l) (hb : Below w.heap.size w w') : Qs w0 w' q l := by
  obtain ⟨h1, p, g, h2⟩ := h
  exact ⟨h1.trans (hb.mono h1.size), p, g, h2.bel hb⟩
theorem Qs.small (h : Qs w0 w q l) : l.length ≤ 1024 := by obtain ⟨_, p, g, h2⟩ := h; exact h2.small
theorem Qs.sorted (h : Qs w0 w q l) : l.Pairwise iLe := by obtain ⟨_, p, g, h2⟩ := h; obtain ⟨c, f, _, h3⟩ := h2.items; exact h3.order
/-- What New answers. -/
def QsNew (w0 : World) (e : Ending) (w' : World) : Prop := ∃ q, e = .returned (.pointer (some ⟨q, 0, none⟩)) ∧ Qs w0 w' q []
theorem qs_new (hb : Below w0.heap.size w0 w) : Calls Try.prog 38 #[] w (QsNew w0) := by
  refine (new10_calls w).mono ?_
  rintro e w' ⟨q, p, g, rfl, h1, h2⟩
  exact ⟨q, rfl, hb.trans (h1.mono hb.size), p, g, h2.lower hb.size⟩
def QsPush (w0 : World) (q : Nat) (l : List Itm) (x : Itm) (e : Ending) (w' : World) : Prop :=
  e = .returned (.int .i64 (if 1024 ≤ l.length then 7 else 0)) ∧ Qs w0 w' q (if 1024 ≤ l.length then l else insQ x l)
theorem qs_push (h : Qs w0 w q l) (x : Itm) : Calls Try.prog 39 #[.pointer (some ⟨q, 0, none⟩), .agg (itL x).toArray] w (QsPush w0 q l x) := by
  obtain ⟨h1, p, g, h2⟩ := h
  refine (qpush_calls h2 x h1.size).mono ?_
  rintro e w' ⟨rfl, g', h3, h4, h5⟩
  exact ⟨rfl, h4.bel h1 (Nat.le_refl _) (by have := h2.lo; simp; omega), p, g', h3⟩
def QsPop (w0 : World) (q : Nat) (l : List Itm) (e : Ending) (w' : World) : Prop :=
  e = .returned (.tuple #[.agg (itL (hdQ l)).toArray, .int .i64 (erQ l)]) ∧ Qs w0 w' q l.tail
theorem qs_pop (h : Qs w0 w q l) : Calls Try.prog 27 #[.pointer (some ⟨q, 0, none⟩)] w (QsPop w0 q l) := by
  obtain ⟨h1, p, g, h2⟩ := h
  refine (qpop_calls h2).mono ?_
  rintro e w' ⟨rfl, h3, h4⟩
  exact ⟨rfl, h4.bel h1 (Nat.le_refl _) (by have := h2.lo; simp; omega), p, g, h3⟩
theorem qs_len (h : Qs w0 w q l) : Calls Try.prog 41 #[.pointer (some ⟨q, 0, none⟩)] w fun e w' => e = .returned (.int .i64 (l.length : Int)) ∧ w' = w := by
  obtain ⟨_, p, g, h2⟩ := h
  exact qlen_calls h2
end

end Go.Proofs.Ytkagfgnjfdlicaa
