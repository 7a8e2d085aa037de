/-
  The document's table of layer 18 in a variable, beside the code's table, while a law's walk goes on. No condition: definitions and their simplest consequences.
-/
import Derived.Test.YtogijfebfffobaaSofX
import Derived.Test.YtogijfebfffobaaSofOpen
import Derived.Test.YtogijfebfffobaaSofU
import Derived.Test.YtogijfebfffobaaSofT
import Derived.Test.YtogijfebfffobaaAdmIK
namespace Go.Proofs.Ytogijfebfffobaa
set_option maxRecDepth 100000
set_option linter.unusedVariables false
open Go.RowKit

theorem Mv14.cons {S S' : List Nat} {w w' : World} (hm : Mv14 S w S' w') (b : Nat) : Mv14 (b :: S) w (b :: S') w' :=
  ⟨⟨hm.turn.os, hm.turn.tape, hm.turn.output, hm.turn.size, fun k hk hS => hm.turn.block k hk (fun h => hS (List.mem_cons_of_mem _ h))⟩, fun x hx => by
    rcases List.mem_cons.1 hx with rfl | hx
    · exact .inl List.mem_cons_self
    · rcases hm.own x hx with h1 | h1
      · exact .inl (List.mem_cons_of_mem _ h1)
      · exact .inr h1⟩
theorem Mv14.of_store {S : List Nat} {w w' : World} {b : Nat} (hg : w.grownBy w' (some b)) (hb : Below b w w') : Mv14 (b :: S) w (b :: S) w' :=
  ⟨⟨hb.os, hb.tape, hb.output, hg.size, fun k hk hS => hg.block k hk (fun e => hS (by injection e with e; subst e; exact List.mem_cons_self))⟩, fun x hx => .inl hx⟩
def tbc18 (A : Option Addr) (n c most : Nat) : List Value := [.slice A n c, .int .i64 (most : Int)]
theorem tbc18_length (A : Option Addr) (n c most : Nat) : (tbc18 A n c most).length = 2 := rfl
theorem tbc18_one (A : Option Addr) (n c most : Nat) : ∀ u ∈ tbc18 A n c most, u.oneCell' = true := by
  intro u hu
  unfold tbc18 at hu
  simp at hu
  rcases hu with rfl | rfl <;> rfl
theorem infoTb18 (A : Option Addr) (n c most : Nat) : (Try.prog.info? 28).map (·.size) = some (tbc18 A n c most).length := by kernel_rfl
theorem infoAc18 (x : Ac18) : (Try.prog.info? 39).map (·.size) = some (ac18 x).length := by
  rw [ac18_length]; kernel_rfl
/-- The code's table (of the entries l), and the document's (of the states ls) in block bm. -/
structure Doc18 (w0 w : World) (q most bm : Nat) (S : List Nat) (l : List Sp) (ls : List Ss) (A : Option Addr) (n c : Nat) : Prop where
  st : St18 w0 w q most l S
  blk : BlkT w S bm 28 (tbc18 A n c most)
  base : w0.heap.size ≤ bm
  row : RowT ssc w (bm :: S) A n ls
section
variable {w0 w w' : World} {q most bm n c : Nat} {S S' : List Nat} {l l' : List Sp} {ls ls' : List Ss} {A : Option Addr}
theorem Doc18.lt (h : Doc18 w0 w q most bm S l ls A n c) : ∀ b ∈ bm :: S, b < w.heap.size := fun b hb => by
  rcases List.mem_cons.1 hb with rfl | hb
  · exact h.blk.blk.lt
  · exact h.st.p.lt b hb
theorem Doc18.mv (h : Doc18 w0 w q most bm S l ls A n c) (hp : TbC18 w' q most l' S') (hm : Mv14 S w S' w') : Doc18 w0 w' q most bm S' l' ls A n c :=
  ⟨h.st.mv hp hm, h.blk.mv hm, h.base, h.row.mv (hm.cons bm)⟩
theorem Doc18.below (h : Doc18 w0 w q most bm S l ls A n c) (hb : Below w.heap.size w w') : Doc18 w0 w' q most bm S l ls A n c :=
  ⟨h.st.below hb, h.blk.below hb, h.base, h.row.below hb⟩
theorem Doc18.set {A' : Option Addr} {n' c' : Nat} (h : Doc18 w0 w q most bm S l ls A n c) (hr : RowT ssc w (bm :: S) A' n' ls') (hb : Blk w' bm 28 (tbc18 A' n' c' most)) (hg : w.grownBy w' (some bm)) : Doc18 w0 w' q most bm S l ls' A' n' c' :=
  ⟨h.st.stored hg h.blk.off h.base, ⟨hb, h.blk.off⟩, h.base, hr.stored hg (fun hn b o e e2 => hr.off hn b o e (by rw [e2]; exact List.mem_cons_self))⟩
theorem Doc18.newb (h : Doc18 w0 w q most bm S l ls A n c) (T : TypeId) (vs : List Value) : BlkT (w.alloc (.cells vs.toArray T)) (bm :: S) w.heap.size T vs :=
  ⟨Blk.new w T vs, fun hS => by have := h.lt _ hS; omega⟩
theorem Doc18.len (h : Doc18 w0 w q most bm S (ls.map (·.p)) ls A n c) : ls.length = n ∧ n ≤ 64 := by
  have h1 := h.row.row.1
  have h2 := h.st.p.tbl.len
  have h3 := h.st.p.tbl.bnd
  rw [List.length_map] at h2
  exact ⟨h1, by omega⟩
/-- A block beside both. -/
theorem BlkT.setb {x : Nat} {T : TypeId} {vs : List Value} (h : BlkT w (bm :: S) x T vs) (hg : w.grownBy w' (some bm)) : BlkT w' (bm :: S) x T vs :=
  h.stored hg (fun e => h.off (by rw [e]; exact List.mem_cons_self))
theorem Rtb18.one {r : List Ss × Int} {e : Ending} (h : Rtb18 A n c most ls r w e w') (hr : RowT ssc w S A n ls) (hlt : ∀ b ∈ S, b < w.heap.size) :
    ∃ A' n' c', e = .returned (.tuple #[.agg #[.slice A' n' c', .int .i64 (most : Int)], .int .i64 r.2]) ∧ RowT ssc w' S A' n' r.1 ∧ Below w.heap.size w w' := by
  obtain ⟨hb, ⟨h1, rfl⟩ | ⟨A', c', rfl, hacc⟩⟩ := h
  · exact ⟨A, n, c, rfl, by rw [h1]; exact hr.below hb, hb⟩
  · exact ⟨A', r.1.length, c', rfl, RowT.of_acc hlt hacc hacc.row, hb⟩
end
/-- The routes of the states that a law's calls bring. -/
def Rts18 (w0 : World) (ls : List Ss) : Prop := ∀ s ∈ ls, Lies18 w0 s ∧ s.n ≤ 1000
theorem Rts18.row {w0 w : World} {ls : List Ss} (h : Rts18 w0 ls) (hb : Below w0.heap.size w0 w) : ∀ s ∈ ls, Row ei w w.heap.size s.a s.n s.p.rt ∧ s.n ≤ maxLen := fun s hs =>
  ⟨((h s hs).1.1.below hb).more hb.size, (h s hs).1.2.1⟩
theorem Rts18.drop {w0 : World} {ls : List Ss} (h : Rts18 w0 ls) (k : Ky) : Rts18 w0 (rdrop18 ls k).1 := by
  unfold rdrop18
  split
  · intro s hs
    unfold drp18 at hs
    exact h s (List.mem_filter.1 hs).1
  · exact h
theorem ins18_mem {α : Type} {kf : α → Ky} {l : List α} {x y : α} (h : y ∈ ins18 kf l x) : y = x ∨ y ∈ l := by
  unfold ins18 at h
  rcases List.mem_append.1 h with h | h
  · exact .inr ((List.takeWhile_sublist _).subset h)
  · rcases List.mem_cons.1 h with h | h
    · exact .inl h
    · exact .inr ((List.dropWhile_sublist _).subset h)
theorem Rts18.put {w0 : World} {ls : List Ss} (h : Rts18 w0 ls) (most : Nat) {s : Ss} (hs : Lies18 w0 s ∧ s.n ≤ 1000) : Rts18 w0 (rput18 most ls s).1 := by
  unfold rput18
  split
  · exact h
  · split
    · exact h
    · intro y hy
      rcases ins18_mem hy with rfl | hy
      · exact hs
      · unfold drp18 at hy
        exact h y (List.mem_filter.1 hy).1
theorem rget_plain18 (ls : List Ss) (k : Ky) : get18 Sp.k (ls.map (·.p)) k = (get18 kf18 ls k).map (·.p) := (get18_map (kf := Sp.k) Ss.p ls k).symm
theorem get_mem18 {ls : List Ss} {k : Ky} {s : Ss} (h : get18 kf18 ls k = some s) : s ∈ ls := List.mem_of_find?_eq_some h
theorem gerr_map18 (o : Option Ss) : gerr18 (o.map (·.p)) = gerr18 o := by cases o <;> rfl
theorem getD_map18 (o : Option Ss) : (o.map (·.p)).getD z18.p = (o.getD z18).p := by cases o <;> rfl
theorem rgt18_err {o : Option Ss} {w : World} {e : Ending} {w' : World} (h : Rgt18 o w e w') : e = .returned (.tuple #[.agg (ssc (o.getD z18)).toArray, .int .i64 (gerr18 o)]) ∧ Below w.heap.size w w' := by cases o <;> exact h
theorem Rts18.got {w0 w : World} {ls : List Ss} (h : Rts18 w0 ls) (hb : Below w0.heap.size w0 w) {k : Ky} {o : Option Ss} (ho : get18 kf18 ls k = o) : Row ei w w.heap.size (o.getD z18).a (o.getD z18).n (o.getD z18).p.rt ∧ (o.getD z18).n ≤ maxLen := by
  cases o with
  | none => exact ⟨Row.nil, Nat.zero_le _⟩
  | some s => exact h.row hb s (get_mem18 ho)
theorem act_blk18 {w : World} {q : Nat} {x : Ac18} (h : Blk w q 39 (ac18 x)) : w.rangeAt q 1 (ssc x.s) := fun j v hv => by
  rw [h.cell (1 + j), Nat.add_comm 1 j]
  unfold ac18
  rw [List.getElem?_cons_succ, List.getElem?_append_left (List.getElem?_eq_some_iff.1 hv).1]
  exact hv
/-- States with their routes. -/
def Rws18 (w : World) (ls : List Ss) : Prop := ∀ s ∈ ls, Row ei w w.heap.size s.a s.n s.p.rt ∧ s.n ≤ maxLen
theorem Rws18.below {w w' : World} {ls : List Ss} (h : Rws18 w ls) (hb : Below w.heap.size w w') : Rws18 w' ls := fun s hs => ⟨((h s hs).1.below hb).more hb.size, (h s hs).2⟩
theorem Rws18.of {w : World} {base : Nat} {ls : List Ss} (h : Sts18 w base ls) (hm : ∀ s ∈ ls, may18 s.p = true) : Rws18 w ls := fun s hs => ⟨h.row hs, by
  have h1 := may18_len (hm s hs)
  have h2 := (h s hs).2
  unfold maxLen; omega⟩
theorem late18_len (l : List Sp) (now : Int) : (late18 l now).length ≤ l.length := by unfold late18; rw [List.length_map]; exact List.length_filter_le _ _
theorem laps18_len (l : List Sp) (now : Int) : (laps18 l now).length ≤ l.length := by unfold laps18; rw [List.length_map]; exact List.length_filter_le _ _
end Go.Proofs.Ytogijfebfffobaa
