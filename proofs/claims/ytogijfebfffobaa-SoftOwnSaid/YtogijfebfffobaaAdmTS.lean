/-
  A table of layer 14 while a law's walk goes on, whatever the code keeps it in: what the code's calls must keep (Tk14), and what stays beside a table (Mv14, RowT, BlkT, St14). No condition: definitions and their simplest consequences.
  What the laws of layer 14 ask first of all (alive), and their calls (does), over whatever table the code keeps. Condition: what the code must keep (Tk14).
  What a table of layer 14 keeps while a block beside it is written into; unlike wants and like wants are compared. No condition beside what is said.
-/
import Derived.Test.YtogijfebfffobaaAdmAH
import Derived.Test.YtogijfebfffobaaAdmIK
import Derived.Test.YtogijfebfffobaaAdmOpen
import Derived.Test.YtogijfebfffobaaBase
namespace Go.Proofs.Ytogijfebfffobaa
set_option maxRecDepth 100000
set_option linter.unusedVariables false
open Go.RowKit

/-- What a table is in memory: its block, its size, its entries, the blocks that are its own. -/
abbrev TabW := World → Nat → Nat → List Et → List Nat → Prop
/-- A step that may turn the table's own blocks alone; what is its own behind it was so, or is new. -/
structure Mv14 (S : List Nat) (w : World) (S' : List Nat) (w' : World) : Prop where
  turn : Turn S w w'
  own : ∀ b ∈ S', b ∈ S ∨ w.heap.size ≤ b
theorem Mv14.refl (S : List Nat) (w : World) : Mv14 S w S w := ⟨Turn.refl S w, fun b h => .inl h⟩
theorem Mv14.of_below {S : List Nat} {w w' : World} (h : Below w.heap.size w w') : Mv14 S w S w' := ⟨Turn.of_below h, fun b h => .inl h⟩
theorem Mv14.trans {S S' S'' : List Nat} {a b c : World} (h : Mv14 S a S' b) (k : Mv14 S' b S'' c) : Mv14 S a S'' c := by
  refine ⟨⟨k.turn.os.trans h.turn.os, k.turn.tape.trans h.turn.tape, k.turn.output.trans h.turn.output, Nat.le_trans h.turn.size k.turn.size, fun i hi hS => ?_⟩, fun i hi => ?_⟩
  · rw [k.turn.block i (Nat.lt_of_lt_of_le hi h.turn.size) (fun hS' => by rcases h.own i hS' with h1 | h1; exact hS h1; omega), h.turn.block i hi hS]
  · rcases k.own i hi with h1 | h1
    · exact h.own i h1
    · exact .inr (Nat.le_trans h.turn.size h1)
theorem Mv14.bel {S S' : List Nat} {B : Nat} {a w w' : World} (h : Below B a w) (hB : B ≤ a.heap.size) (hm : Mv14 S w S' w') (hS : ∀ k ∈ S, B ≤ k) : Below B a w' := Turn.bel h hB hm.turn hS
/-- A slice, and a block, beside a table. -/
structure RowT {α : Type} (enc : α → List Value) (w : World) (S : List Nat) (A : Option Addr) (n : Nat) (l : List α) : Prop where
  row : Row enc w w.heap.size A n l
  off : 0 < n → ∀ b o, A = some ⟨b, o, none⟩ → b ∉ S
structure BlkT (w : World) (S : List Nat) (q : Nat) (T : TypeId) (vs : List Value) : Prop where
  blk : Blk w q T vs
  off : q ∉ S
section
variable {α : Type} {enc : α → List Value} {w w' : World} {S S' : List Nat} {A : Option Addr} {n q : Nat} {l : List α} {T : TypeId} {vs : List Value}
theorem RowT.nil : RowT enc w S A 0 [] := ⟨Row.nil, fun h => absurd h (by omega)⟩
theorem RowT.mv (h : RowT enc w S A n l) (hm : Mv14 S w S' w') : RowT enc w' S' A n l := by
  refine ⟨⟨h.row.1, fun hn => ?_⟩, fun hn b o e hS' => ?_⟩
  · obtain ⟨b, o, e, hb, hc⟩ := h.row.2 hn
    exact ⟨b, o, e, Nat.lt_of_lt_of_le hb hm.turn.size, fun i hi => (World.cell?_of_block (w := w) (hm.turn.block b hb (h.off hn b o e))).trans (hc i hi)⟩
  · obtain ⟨b2, o2, e2, hb, _⟩ := h.row.2 hn
    rw [e2] at e
    cases e
    rcases hm.own _ hS' with h1 | h1
    · exact h.off hn _ _ e2 h1
    · omega
theorem RowT.below (h : RowT enc w S A n l) (hb : Below w.heap.size w w') : RowT enc w' S A n l := h.mv (Mv14.of_below hb)
theorem BlkT.mv (h : BlkT w S q T vs) (hm : Mv14 S w S' w') : BlkT w' S' q T vs := by
  refine ⟨h.blk.same (hm.turn.block q h.blk.lt h.off), fun hS' => ?_⟩
  rcases hm.own _ hS' with h1 | h1
  · exact h.off h1
  · have := h.blk.lt; omega
theorem BlkT.below (h : BlkT w S q T vs) (hb : Below w.heap.size w w') : BlkT w' S q T vs := h.mv (Mv14.of_below hb)
/-- What a call gathered since a world behind which the table's blocks are as they were. -/
theorem RowT.of_acc {k base c : Nat} (hlt : ∀ b ∈ S, b < base) (h : AccR enc k w base T A c l) (hr : Row enc w w.heap.size A n l) : RowT enc w S A n l := by
  refine ⟨hr, fun hn b o e hS => ?_⟩
  have hl : 0 < l.length := by rw [hr.1]; exact hn
  obtain ⟨g, e2, hg, _⟩ := accr_addr h hl
  rw [e2] at e
  cases e
  have := hlt _ hS
  omega
end

/-- A law's call: Drop or Admit. -/
def aDo (sz : Nat) (l : List Et) (x : Ac14) : List Et × List Ky × Int := if x.dr = true then ((aDrop l x.k).1, [], (aDrop l x.k).2) else aAdmit sz l x.k x.w
/-- What Admit answers. -/
def Adt14 (P : TabW) (S : List Nat) (q sz : Nat) (r : List Et × List Ky × Int) (w : World) (e : Ending) (w' : World) : Prop :=
  ∃ S' A c, e = .returned (.tuple #[.slice A r.2.1.length c, .int .i64 r.2.2]) ∧ P w' q sz r.1 S' ∧ Mv14 S w S' w' ∧ RowT kyc w' S' A r.2.1.length r.2.1
def Drt14 (P : TabW) (S : List Nat) (q sz : Nat) (r : List Et × Int) (w : World) (e : Ending) (w' : World) : Prop :=
  ∃ S', e = .returned (.int .i64 r.2) ∧ P w' q sz r.1 S' ∧ Mv14 S w S' w'
def Ent14 (P : TabW) (S : List Nat) (q sz : Nat) (l : List Et) (w : World) (e : Ending) (w' : World) : Prop :=
  ∃ S' A c, e = .returned (.slice A l.length c) ∧ P w' q sz l S' ∧ Mv14 S w S' w' ∧ RowT ent w' S' A l.length l
def Lgt14 (P : TabW) (S : List Nat) (q sz : Nat) (l : List Et) (w : World) (e : Ending) (w' : World) : Prop :=
  ∃ S', e = .returned (.agg (lgc (ledgOf sz (fams l))).toArray) ∧ P w' q sz l S' ∧ Mv14 S w S' w'
def Cpt14 (P : TabW) (S : List Nat) (q sz : Nat) (l : List Et) (w : World) (e : Ending) (w' : World) : Prop :=
  ∃ S' q2 S2, e = .returned (.pointer (some ⟨q2, 0, none⟩)) ∧ P w' q sz l S' ∧ Mv14 S w S' w' ∧ P w' q2 sz l S2 ∧ (∀ b ∈ S2, w.heap.size ≤ b) ∧ (∀ b ∈ S2, b ∉ S')
def New14 (P : TabW) (sz : Nat) (w : World) (e : Ending) (w' : World) : Prop :=
  ∃ q S, e = .returned (.pointer (some ⟨q, 0, none⟩)) ∧ P w' q sz [] S ∧ Below w.heap.size w w' ∧ ∀ b ∈ S, w.heap.size ≤ b
/-- A table that was made since w0. -/
structure St14 (P : TabW) (w0 w : World) (q sz : Nat) (l : List Et) (S : List Nat) : Prop where
  p : P w q sz l S
  bel : Below w0.heap.size w0 w
  own : ∀ b ∈ S, w0.heap.size ≤ b
section
variable {P : TabW} {w0 w w' : World} {q sz : Nat} {l l' : List Et} {S S' : List Nat}
theorem St14.mv (h : St14 P w0 w q sz l S) (hp : P w' q sz l' S') (hm : Mv14 S w S' w') : St14 P w0 w' q sz l' S' :=
  ⟨hp, Mv14.bel h.bel (Nat.le_refl _) hm h.own, fun b hb => by
    rcases hm.own b hb with h1 | h1
    · exact h.own b h1
    · exact Nat.le_trans h.bel.size h1⟩
theorem St14.start {e : Ending} (hb : Below w0.heap.size w0 w) (h : New14 P sz w e w') : ∃ q S, e = .returned (.pointer (some ⟨q, 0, none⟩)) ∧ St14 P w0 w' q sz [] S := by
  obtain ⟨q, S, rfl, h1, h2, h3⟩ := h
  exact ⟨q, S, rfl, h1, hb.trans (h2.mono hb.size), fun b hS => Nat.le_trans hb.size (h3 b hS)⟩
end
/-- An argument's slice while a table lives beside it. -/
theorem row_old14 {α : Type} {enc : α → List Value} {w0 w : World} {A : Option Addr} {n : Nat} {l : List α} (h : Row enc w0 w0.heap.size A n l) (hb : Below w0.heap.size w0 w) : Row enc w w0.heap.size A n l := h.below hb
end Go.Proofs.Ytogijfebfffobaa

namespace Go.Proofs.Ytogijfebfffobaa
set_option maxRecDepth 100000
set_option linter.unusedVariables false
open Go.RowKit

end Go.Proofs.Ytogijfebfffobaa

namespace Go.Proofs.Ytogijfebfffobaa
set_option maxRecDepth 100000
set_option linter.unusedVariables false
open Go.RowKit

section
variable {P : TabW} {w0 w w' : World} {q sz g : Nat} {l : List Et} {S : List Nat}
end
section
variable {α : Type} {enc : α → List Value} {w w' : World} {S : List Nat} {A : Option Addr} {n g : Nat} {l : List α} {T : TypeId} {vs : List Value}
theorem BlkT.apart {q : Nat} (h : BlkT w S q T vs) : q ≠ w.heap.size := Nat.ne_of_lt h.blk.lt
theorem BlkT.stored {q : Nat} (h : BlkT w S q T vs) (hg : w.grownBy w' (some g)) (hne : q ≠ g) : BlkT w' S q T vs := ⟨h.blk.same (hg.block q h.blk.lt (fun e => hne (by injection e))), h.off⟩
theorem RowT.apart (h : RowT enc w S A n l) : 0 < n → ∀ b o, A = some ⟨b, o, none⟩ → b ≠ w.heap.size := fun hn b o e => by
  obtain ⟨b', o', e', hb, _⟩ := h.row.2 hn
  rw [e'] at e
  injection e with e
  injection e with e1 _ _
  omega
theorem RowT.stored (h : RowT enc w S A n l) (hg : w.grownBy w' (some g)) (hA : 0 < n → ∀ b o, A = some ⟨b, o, none⟩ → b ≠ g) : RowT enc w' S A n l := by
  refine ⟨⟨h.row.1, fun hn => ?_⟩, h.off⟩
  obtain ⟨b, o, e, hb, hc⟩ := h.row.2 hn
  exact ⟨b, o, e, Nat.lt_of_lt_of_le hb hg.size, fun i hi => (World.cell?_of_block (w := w) (hg.block b hb (fun e2 => hA hn b o e (by injection e2)))).trans (hc i hi)⟩
end
theorem ne_selfW14 (y : Wn) (w : World) : (binOp .neq 34 (.agg #[.int .u64 (y.bw : Int), .int .i64 y.su, .int .i64 y.ho, .int .u32 (y.an : Int), .int .u32 (y.al : Int), .int .u32 (y.no : Int)]) (.agg #[.int .u64 (y.bw : Int), .int .i64 y.su, .int .i64 y.ho, .int .u32 (y.an : Int), .int .u32 (y.al : Int), .int .u32 (y.no : Int)])).run Try.prog w = .ok (.bool false) w :=
  (eql_E (xs := wnc y) (ys := wnc y) (la := wnc y) (lb := wnc y) (m := 5) (D := 5) (by decide) (by kernel_rfl) (by rfl) (by rfl) (by rfl) (by rfl) w true (by simp)).2
/-- Admit that drove nobody out. -/
theorem adm_quiet {size : Nat} {l : List Et} {k : Ky} {v : Wn} {r : List Et × List Ky × Int} (hs : Srt14 l) (h : Adm14 size l k v r) (h0 : r.2.2 = 0) (hg : r.2.1 = []) : r.1 = wIns l ⟨k, v⟩ ∧ has14 l k = false := by
  cases h with
  | bad _ => simp at h0
  | have_ _ _ => simp at h0
  | full _ _ _ => simp at h0
  | room _ _ _ _ _ _ _ => simp at h0
  | ok h1 h2 h3 m h4 h5 h6 =>
    obtain rfl := gone_nil hs h4.sub hg
    exact ⟨rfl, h2⟩
end Go.Proofs.Ytogijfebfffobaa
