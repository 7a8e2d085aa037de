/-
  Writers and readers of numbers in package body: what they hold, and what their methods number and count answer. Conditions: numbers of one to eight bytes; a writer's bytes are at most 2^40.
-/
import Derived.Test.YtocogdcecnnnnaaOctF
import Derived.Test.YtocogdcecnnnnaaBlk
import Derived.Test.YtocogdcecnnnnaaMapI
namespace Go.Proofs.Ytocogdcecnnnnaa
open Go.RowKit

/-- What a direction holds: a writer's bytes, or a reader's bytes, place and error; and whether a number was out of its range. -/
inductive DSt where
  | wr (b : List UInt8) (bad : Bool)
  | rd (l : List UInt8) (i : Nat) (err : Int) (bad : Bool)

/-- A number of 'k' bytes from 'lo' to 'hi', in either direction: what is answered, and what the direction holds then. -/
def DSt.num (k lo hi u : Nat) : DSt → Nat × DSt
  | .wr b bad => if u < 256 ^ k ∧ lo ≤ u ∧ u ≤ hi then (u, .wr (b ++ dig k u) bad) else (0, .wr b true)
  | .rd l i err bad => if lo ≤ uVal l i err k ∧ uVal l i err k ≤ hi then (uVal l i err k, .rd l (uPos l i err k) (uErr l i err k) bad) else (0, .rd l (uPos l i err k) (uErr l i err k) true)
def DSt.len : DSt → Nat
  | .wr b _ => b.length
  | .rd .. => 0
theorem DSt.len_num (σ : DSt) (k lo hi u : Nat) (hk : k ≤ 8) : (σ.num k lo hi u).2.len ≤ σ.len + 8 := by
  cases σ with
  | wr b bad => simp only [DSt.num]; split <;> simp [DSt.len, dig_length] <;> omega
  | rd l i err bad => simp only [DSt.num]; split <;> simp [DSt.len]

/-- A direction as it lies in memory: a pointer of type 'T' to block 'p'; blocks 'S' turn when it is used, all from 'B' on. -/
def Dir (w : World) (B : Nat) (S : List Nat) (T : TypeId) (p : Nat) : DSt → Prop
  | .wr b bad => T = 53 ∧ S = [p] ∧ B ≤ p ∧ ∃ A c, Blk w p 55 [.slice A b.length c, .bool bad] ∧ Acc w B A c b
  | .rd l i err bad => T = 63 ∧ ∃ r g, S = [p, r] ∧ B ≤ p ∧ B ≤ r ∧ Blk w p 67 [.pointer (some ⟨r, 0, none⟩), .bool bad] ∧ Rdr w r g l i err

/-- A block of this type. -/
def Typ (w : World) (q : Nat) (T : TypeId) : Prop := ∃ cs f, w.heap[q]? = some (.cells cs T f)
theorem Blk.typ {w : World} {q : Nat} {T : TypeId} {vs : List Value} (h : Blk w q T vs) : Typ w q T := ⟨_, _, h⟩
theorem typ_ne {w : World} {q r : Nat} {T U : TypeId} (h : Typ w q T) (k : Typ w r U) (hne : T ≠ U) : q ≠ r := by
  rintro rfl
  obtain ⟨_, _, h⟩ := h
  obtain ⟨_, _, k⟩ := k
  rw [h] at k
  injection k with k
  injection k with _ k _
  exact hne k
theorem Rdr.typ {w : World} {r g i : Nat} {l : List UInt8} {err : Int} (h : Rdr w r g l i err) : Typ w r 92 := ⟨_, _, h.1⟩
theorem Rdr.typ2 {w : World} {r g i : Nat} {l : List UInt8} {err : Int} (h : Rdr w r g l i err) : Typ w g 5 := ⟨_, _, h.2.1⟩
theorem Acc.typ {w : World} {B c k : Nat} {A : Option Addr} {b : List UInt8} (h : Acc w B A c b) (hk : blk A = Option.some k) : Typ w k 5 := by
  rcases h.2 with ⟨hv, _⟩ | ⟨g, cap, cur, hv, _, hrow, _⟩
  · injection hv with e1
    subst e1
    cases hk
  · injection hv with e1
    subst e1
    injection hk with hk
    subst hk
    exact ⟨_, _, hrow⟩

/-- A block of another type that turns leaves a direction as it is. -/
theorem Dir.turn1 {w w' : World} {B p q : Nat} {S : List Nat} {T U : TypeId} {σ : DSt} (h : Dir w B S T p σ) (ht : Typ w q U) (hU : U ≠ 5 ∧ U ≠ 55 ∧ U ≠ 67 ∧ U ≠ 92) (hg : w.grownBy w' (some q)) : Dir w' B S T p σ := by
  have blk1 : ∀ k, k < w.heap.size → k ≠ q → w'.heap[k]? = w.heap[k]? := fun k hk hne => hg.block k hk (fun e => hne (by injection e))
  cases σ with
  | wr b bad =>
    obtain ⟨h1, h2, h3, A, c, h4, h5⟩ := h
    refine ⟨h1, h2, h3, A, c, h4.same (blk1 _ h4.lt (typ_ne h4.typ ht (Ne.symm hU.2.1))), h5.kept hg ?_⟩
    cases hb : blk A with
    | none => exact .inl rfl
    | some k => exact .inr (fun e => typ_ne (h5.typ hb) ht (Ne.symm hU.1) (by injection e))
  | rd l i err bad =>
    obtain ⟨h1, r, g, h2, h3, h4, h5, h6⟩ := h
    exact ⟨h1, r, g, h2, h3, h4, h5.same (blk1 _ h5.lt (typ_ne h5.typ ht (Ne.symm hU.2.2.1))), h6.same (blk1 _ h6.lt (typ_ne h6.typ ht (Ne.symm hU.2.2.2))) (blk1 _ h6.2.1.lt (typ_ne h6.typ2 ht (Ne.symm hU.1)))⟩
/-- New memory leaves a direction as it is. -/
theorem Dir.bel {w w' : World} {B p : Nat} {S : List Nat} {T : TypeId} {σ : DSt} (h : Dir w B S T p σ) (hb : Below w.heap.size w w') : Dir w' B S T p σ := by
  cases σ with
  | wr b bad =>
    obtain ⟨h1, h2, h3, A, c, h4, h5⟩ := h
    exact ⟨h1, h2, h3, A, c, h4.below hb, h5.bel hb⟩
  | rd l i err bad =>
    obtain ⟨h1, r, g, h2, h3, h4, h5, h6⟩ := h
    exact ⟨h1, r, g, h2, h3, h4, h5.below hb, h6.bel hb⟩
theorem Dir.drewN {w : World} {B p : Nat} {S : List Nat} {T : TypeId} {σ : DSt} (h : Dir w B S T p σ) (n : Nat) : Dir (w.drewN n) B S T p σ := by
  cases σ <;> exact h
theorem Dir.from {w : World} {B p : Nat} {S : List Nat} {T : TypeId} {σ : DSt} (h : Dir w B S T p σ) : ∀ k ∈ S, B ≤ k := by
  cases σ with
  | wr b bad => obtain ⟨_, rfl, h3, _⟩ := h; simpa using h3
  | rd l i err bad => obtain ⟨_, r, g, rfl, h3, h4, _⟩ := h; simpa using ⟨h3, h4⟩
theorem Dir.lt {w : World} {B p : Nat} {S : List Nat} {T : TypeId} {σ : DSt} (h : Dir w B S T p σ) : ∀ k ∈ S, k < w.heap.size := by
  cases σ with
  | wr b bad => obtain ⟨_, rfl, _, _, _, h4, _⟩ := h; simpa using h4.lt
  | rd l i err bad => obtain ⟨_, r, g, rfl, _, _, h5, h6⟩ := h; simpa using ⟨h5.lt, h6.lt⟩

/-- What number answers. -/
def NumPost (w : World) (B : Nat) (S : List Nat) (T : TypeId) (p : Nat) (σ : DSt) (k lo hi u : Nat) (e : Ending) (w' : World) : Prop :=
  e = .returned (.int .u64 (((σ.num k lo hi u).1 : Nat) : Int)) ∧ Dir w' B S T p (σ.num k lo hi u).2 ∧ Turn S w w'
end Go.Proofs.Ytocogdcecnnnnaa
