/-
  A table of layer 14 while a law's walk goes on, whatever the code keeps it in: what the code's calls must keep (Tk14), and what stays beside a table (Mv14, RowT, BlkT, St14). No condition: definitions and their simplest consequences.
  What the laws of layer 14 ask first of all (alive), and their calls (does), over whatever table the code keeps. Condition: what the code must keep (Tk14).
  What a table of layer 14 keeps while a block beside it is written into; unlike wants and like wants are compared. No condition beside what is said.
-/
import Derived.Test.YtnkoiageoenfeaaAdmAH
import Derived.Test.YtnkoiageoenfeaaAdmIK
import Derived.Test.YtnkoiageoenfeaaAdmOpen
import Derived.Test.YtnkoiageoenfeaaMapI
namespace Go.Proofs.Ytnkoiageoenfeaa
set_option maxRecDepth 100000
set_option linter.unusedVariables false
open Go.RowKit

/-- What a table is in memory: its block, its size, its entries, the blocks that are its own. -/
abbrev TabW := World → Nat → Nat → List Et → List Nat → Prop
/-- A step that may turn the table's own blocks alone; what is its own behind it was so, or is new. -/
structure Mv14 (S : List Nat) (w : World) (S' : List Nat) (w' : World) : Prop where
  turn : Turn S w w'
  own : ∀ b ∈ S', b ∈ S ∨ w.heap.size ≤ b
theorem Mv14.refl (S : List Nat) (w : World) : Mv14 S w S w := ⟨Turn.refl S w, fun b h => .inl h⟩
theorem Mv14.of_below {S : List Nat} {w w' : World} (h : Below w.heap.size w w') : Mv14 S w S w' := ⟨Turn.of_below h, fun b h => .inl h⟩
theorem Mv14.trans {S S' S'' : List Nat} {a b c : World} (h : Mv14 S a S' b) (k : Mv14 S' b S'' c) : Mv14 S a S'' c := by
  refine ⟨⟨k.turn.os.trans h.turn.os, k.turn.tape.trans h.turn.tape, k.turn.output.trans h.turn.output, Nat.le_trans h.turn.size k.turn.size, fun i hi hS => ?_⟩, fun i hi => ?_⟩
  · rw [k.turn.block i (Nat.lt_of_lt_of_le hi h.turn.size) (fun hS' => by rcases h.own i hS' with h1 | h1; exact hS h1; omega), h.turn.block i hi hS]
  · rcases k.own i hi with h1 | h1
    · exact h.own i h1
    · exact .inr (Nat.le_trans h.turn.size h1)
theorem Mv14.bel {S S' : List Nat} {B : Nat} {a w w' : World} (h : Below B a w) (hB : B ≤ a.heap.size) (hm : Mv14 S w S' w') (hS : ∀ k ∈ S, B ≤ k) : Below B a w' := Turn.bel h hB hm.turn hS
/-- A slice, and a block, beside a table. -/
structure RowT {α : Type} (enc : α → List Value) (w : World) (S : List Nat) (A : Option Addr) (n : Nat) (l : List α) : Prop where
  row : Row enc w w.heap.size A n l
  off : 0 < n → ∀ b o, A = some ⟨b, o, none⟩ → b ∉ S
structure BlkT (w : World) (S : List Nat) (q : Nat) (T : TypeId) (vs : List Value) : Prop where
  blk : Blk w q T vs
  off : q ∉ S
section
variable {α : Type} {enc : α → List Value} {w w' : World} {S S' : List Nat} {A : Option Addr} {n q : Nat} {l : List α} {T : TypeId} {vs : List Value}
theorem RowT.nil : RowT enc w S A 0 [] := ⟨Row.nil, fun h => absurd h (by omega)⟩
theorem RowT.mv (h : RowT enc w S A n l) (hm : Mv14 S w S' w') : RowT enc w' S' A n l := by
  refine ⟨⟨h.row.1, fun hn => ?_⟩, fun hn b o e hS' => ?_⟩
  · obtain ⟨b, o, e, hb, hc⟩ := h.row.2 hn
    exact ⟨b, o, e, Nat.lt_of_lt_of_le hb hm.turn.size, fun i hi => (World.cell?_of_block (w := w) (hm.turn.block b hb (h.off hn b o e))).trans (hc i hi)⟩
  · obtain ⟨b2, o2, e2, hb, _⟩ := h.row.2 hn
    rw [e2] at e
    cases e
    rcases hm.own _ hS' with h1 | h1
    · exact h.off hn _ _ e2 h1
    · omega
theorem RowT.below (h : RowT enc w S A n l) (hb : Below w.heap.size w w') : RowT enc w' S A n l := h.mv (Mv14.of_below hb)
theorem BlkT.mv (h : BlkT w S q T vs) (hm : Mv14 S w S' w') : BlkT w' S' q T vs := by
  refine ⟨h.blk.same (hm.turn.block q h.blk.lt h.off), fun hS' => ?_⟩
  rcases hm.own _ hS' with h1 | h1
  · exact h.off h1
  · have := h.blk.lt; omega
theorem BlkT.below (h : BlkT w S q T vs) (hb : Below w.heap.size w w') : BlkT w' S q T vs := h.mv (Mv14.of_below hb)
/-- What a call gathered since a world behind which the table's blocks are as they were. -/
theorem RowT.of_acc {k base c : Nat} (hlt : ∀ b ∈ S, b < base) (h : AccR enc k w base T A c l) (hr : Row enc w w.heap.size A n l) : RowT enc w S A n l := by
  refine ⟨hr, fun hn b o e hS => ?_⟩
  have hl : 0 < l.length := by rw [hr.1]; exact hn
  obtain ⟨g, e2, hg, _⟩ := accr_addr h hl
  rw [e2] at e
  cases e
  have := hlt _ hS
  omega
end

/-- A law's call: Drop or Admit. -/
def aDo (sz : Nat) (l : List Et) (x : Ac14) : List Et × List Ky × Int := if x.dr = true then ((aDrop l x.k).1, [], (aDrop l x.k).2) else aAdmit sz l x.k x.w
/-- What Admit answers. -/
def Adt14 (P : TabW) (S : List Nat) (q sz : Nat) (r : List Et × List Ky × Int) (w : World) (e : Ending) (w' : World) : Prop :=
  ∃ S' A c, e = .returned (.tuple #[.slice A r.2.1.length c, .int .i64 r.2.2]) ∧ P w' q sz r.1 S' ∧ Mv14 S w S' w' ∧ RowT kyc w' S' A r.2.1.length r.2.1
def Drt14 (P : TabW) (S : List Nat) (q sz : Nat) (r : List Et × Int) (w : World) (e : Ending) (w' : World) : Prop :=
  ∃ S', e = .returned (.int .i64 r.2) ∧ P w' q sz r.1 S' ∧ Mv14 S w S' w'
def Ent14 (P : TabW) (S : List Nat) (q sz : Nat) (l : List Et) (w : World) (e : Ending) (w' : World) : Prop :=
  ∃ S' A c, e = .returned (.slice A l.length c) ∧ P w' q sz l S' ∧ Mv14 S w S' w' ∧ RowT ent w' S' A l.length l
def Lgt14 (P : TabW) (S : List Nat) (q sz : Nat) (l : List Et) (w : World) (e : Ending) (w' : World) : Prop :=
  ∃ S', e = .returned (.agg (lgc (ledgOf sz (fams l))).toArray) ∧ P w' q sz l S' ∧ Mv14 S w S' w'
def Cpt14 (P : TabW) (S : List Nat) (q sz : Nat) (l : List Et) (w : World) (e : Ending) (w' : World) : Prop :=
  ∃ S' q2 S2, e = .returned (.pointer (some ⟨q2, 0, none⟩)) ∧ P w' q sz l S' ∧ Mv14 S w S' w' ∧ P w' q2 sz l S2 ∧ (∀ b ∈ S2, w.heap.size ≤ b) ∧ (∀ b ∈ S2, b ∉ S')
def New14 (P : TabW) (sz : Nat) (w : World) (e : Ending) (w' : World) : Prop :=
  ∃ q S, e = .returned (.pointer (some ⟨q, 0, none⟩)) ∧ P w' q sz [] S ∧ Below w.heap.size w w' ∧ ∀ b ∈ S, w.heap.size ≤ b
/-- What the code of layer 14 must keep. -/
structure Tk14 (P : TabW) : Prop where
  keep : ∀ {w w' : World} {q sz : Nat} {l : List Et} {S : List Nat}, P w q sz l S → (∀ b ∈ S, w'.heap[b]? = w.heap[b]?) → P w' q sz l S
  lt : ∀ {w : World} {q sz : Nat} {l : List Et} {S : List Nat}, P w q sz l S → ∀ b ∈ S, b < w.heap.size
  tbl : ∀ {w : World} {q sz : Nat} {l : List Et} {S : List Nat}, P w q sz l S → Tbl14 sz l
  bw : ∀ {w : World} {q sz : Nat} {l : List Et} {S : List Nat}, P w q sz l S → ∀ x ∈ l, KyB x.k ∧ WnB x.w
  sz : ∀ {w : World} {q sz : Nat} {l : List Et} {S : List Nat}, P w q sz l S → sz < 18446744073709551616
  new : ∀ (sz : Nat), sz < 18446744073709551616 → ∀ w, Calls Try.prog 16 #[.int .u64 (sz : Int)] w (New14 P sz w)
  adm : ∀ {w : World} {q sz : Nat} {l : List Et} {S : List Nat}, P w q sz l S → ∀ (k : Ky) (v : Wn), KyB k → WnB v → Calls Try.prog 19 #[.pointer (some ⟨q, 0, none⟩), .agg #[.int .i64 k.tail, .int .i64 k.tun, .int .i64 k.head, .int .i64 k.lsp], .agg #[.int .u64 (v.bw : Int), .int .i64 v.su, .int .i64 v.ho, .int .u32 (v.an : Int), .int .u32 (v.al : Int), .int .u32 (v.no : Int)]] w (Adt14 P S q sz (aAdmit sz l k v) w)
  drop : ∀ {w : World} {q sz : Nat} {l : List Et} {S : List Nat}, P w q sz l S → ∀ (k : Ky), KyB k → Calls Try.prog 18 #[.pointer (some ⟨q, 0, none⟩), .agg #[.int .i64 k.tail, .int .i64 k.tun, .int .i64 k.head, .int .i64 k.lsp]] w (Drt14 P S q sz (aDrop l k) w)
  entries : ∀ {w : World} {q sz : Nat} {l : List Et} {S : List Nat}, P w q sz l S → Calls Try.prog 26 #[.pointer (some ⟨q, 0, none⟩)] w (Ent14 P S q sz l w)
  ledger : ∀ {w : World} {q sz : Nat} {l : List Et} {S : List Nat}, P w q sz l S → Calls Try.prog 22 #[.pointer (some ⟨q, 0, none⟩)] w (Lgt14 P S q sz l w)
  before : ∀ (a b : Ky) (w : World), Calls Try.prog 12 #[.agg #[.int .i64 a.tail, .int .i64 a.tun, .int .i64 a.head, .int .i64 a.lsp], .agg #[.int .i64 b.tail, .int .i64 b.tun, .int .i64 b.head, .int .i64 b.lsp]] w (Yes14 (kBef a b) w)
  kin : ∀ (a b : Ky) (w : World), Calls Try.prog 14 #[.agg #[.int .i64 a.tail, .int .i64 a.tun, .int .i64 a.head, .int .i64 a.lsp], .agg #[.int .i64 b.tail, .int .i64 b.tun, .int .i64 b.head, .int .i64 b.lsp]] w (Yes14 (kKin a b) w)

/-- A table that was made since w0. -/
structure St14 (P : TabW) (w0 w : World) (q sz : Nat) (l : List Et) (S : List Nat) : Prop where
  p : P w q sz l S
  bel : Below w0.heap.size w0 w
  own : ∀ b ∈ S, w0.heap.size ≤ b
section
variable {P : TabW} {w0 w w' : World} {q sz : Nat} {l l' : List Et} {S S' : List Nat}
theorem St14.mv (h : St14 P w0 w q sz l S) (hp : P w' q sz l' S') (hm : Mv14 S w S' w') : St14 P w0 w' q sz l' S' :=
  ⟨hp, Mv14.bel h.bel (Nat.le_refl _) hm h.own, fun b hb => by
    rcases hm.own b hb with h1 | h1
    · exact h.own b h1
    · exact Nat.le_trans h.bel.size h1⟩
theorem St14.below (K : Tk14 P) (h : St14 P w0 w q sz l S) (hb : Below w.heap.size w w') : St14 P w0 w' q sz l S :=
  h.mv (K.keep h.p fun b hS => hb.block b (K.lt h.p b hS)) (Mv14.of_below hb)
/-- A block that is made now is none of the table's. -/
theorem St14.newb (K : Tk14 P) (h : St14 P w0 w q sz l S) (T : TypeId) (vs : List Value) : BlkT (w.alloc (.cells vs.toArray T)) S w.heap.size T vs :=
  ⟨Blk.new w T vs, fun hS => by have := K.lt h.p _ hS; omega⟩
theorem St14.start {e : Ending} (hb : Below w0.heap.size w0 w) (h : New14 P sz w e w') : ∃ q S, e = .returned (.pointer (some ⟨q, 0, none⟩)) ∧ St14 P w0 w' q sz [] S := by
  obtain ⟨q, S, rfl, h1, h2, h3⟩ := h
  exact ⟨q, S, rfl, h1, hb.trans (h2.mono hb.size), fun b hS => Nat.le_trans hb.size (h3 b hS)⟩
end
/-- An argument's slice while a table lives beside it. -/
theorem row_old14 {α : Type} {enc : α → List Value} {w0 w : World} {A : Option Addr} {n : Nat} {l : List α} (h : Row enc w0 w0.heap.size A n l) (hb : Below w0.heap.size w0 w) : Row enc w w0.heap.size A n l := h.below hb
end Go.Proofs.Ytnkoiageoenfeaa

namespace Go.Proofs.Ytnkoiageoenfeaa
set_option maxRecDepth 100000
set_option linter.unusedVariables false
open Go.RowKit

theorem alivek14_calls (a b : Int) (w : World) : Calls Try.prog 33 #[.int .i64 a, .int .i64 b] w fun e w' => e = .returned (.agg #[.int .i64 3, .int .i64 a, .int .i64 0, .int .i64 b]) ∧ Below w.heap.size w w' := by
  have b0 := Blk.new w 23 [.int .i64 0, .int .i64 0, .int .i64 0, .int .i64 0]
  have HL := Lib.hid (bel_new (Below.refl w.heap.size w) (.cells #[.int .i64 0, .int .i64 0, .int .i64 0, .int .i64 0] 23))
  have HB := Lib.hid b0
  have hz : (Try.prog.info? 23).map (·.size) = some ([.int .i64 3, .int .i64 a, .int .i64 0, .int .i64 b] : List Value).length := by kernel_rfl
  have HZ := Lib.hid hz
  have h1 : ∀ u ∈ ([.int .i64 3, .int .i64 a, .int .i64 0, .int .i64 b] : List Value), u.oneCell' = true := kyc_one ⟨3, a, 0, b⟩
  clear b0 hz
  go_enter Try.func33, Try.ntmps33
  go_upto_region 1 with fail
  generalize (w.alloc (.cells #[.int .i64 0, .int .i64 0, .int .i64 0, .int .i64 0] 23)) = w1 at *
  go_wp2_with ((with_reducible refine step_store (o := ⟨none, _, _, _, _, _⟩) (vs := [.int .i64 3, .int .i64 a, .int .i64 0, .int .i64 b]) (ty := 23) (x := .tmp 4) (y := .tmp 7) ?_ ?_ ?_ ?_ HB.out HZ.out rfl h1 ?_); (rfl); (rfl); (rfl); (rfl); intro w2 hb2 hg2 hs2)
  refine bodyPost_ret (v := .agg #[.int .i64 3, .int .i64 a, .int .i64 0, .int .i64 b]) (results_one8 rfl _ rfl hb2 Try.underlying23 rfl HZ.out) rfl ?_
  exact ⟨rfl, bel_upd HL.out hg2 (Nat.le_refl _) (by omega)⟩

theorem field14 (v : World) : (Instr.field 48 (.agg #[.int .u64 10, .int .u64 0, .int .u64 0, .int .u64 0, .int .u64 0, .int .u64 3, .int .u64 0, .int .u64 0, .int .u64 0]) 1).run Try.prog v = .ok (.agg #[.int .u64 0, .int .u64 0, .int .u64 0, .int .u64 0, .int .u64 3, .int .u64 0, .int .u64 0, .int .u64 0]) v := by kernel_rfl
theorem index14 (v : World) : (Instr.index 46 (.agg #[.int .u64 0, .int .u64 0, .int .u64 0, .int .u64 0, .int .u64 3, .int .u64 0, .int .u64 0, .int .u64 0]) (.int .i64 4)).run Try.prog v = .ok (.int .u64 3) v := by kernel_rfl
set_option maxHeartbeats 3200000 in
theorem alive14_calls {P : TabW} (K : Tk14 P) (w : World) : Calls Try.prog 11 #[] w fun e w' => e = .returned (.bool true) ∧ Below w.heap.size w w' := by
  have hn : Calls Try.prog 16 #[.int .u64 10] w (New14 P 10 w) := K.new 10 (by decide) w
  have KA : Hid (∀ {w : World} {q : Nat} {l : List Et} {S : List Nat}, P w q 10 l S → ∀ (t n : Int) (b : Nat) (s : Int) (r : List Et × List Ky × Int), KyB ⟨3, t, 0, n⟩ → WnB ⟨b, s, s, 0, 0, 0⟩ → aAdmit 10 l ⟨3, t, 0, n⟩ ⟨b, s, s, 0, 0, 0⟩ = r → Calls Try.prog 19 #[.pointer (some ⟨q, 0, none⟩), .agg #[.int .i64 3, .int .i64 t, .int .i64 0, .int .i64 n], .agg #[.int .u64 (b : Int), .int .i64 s, .int .i64 s, .int .u32 0, .int .u32 0, .int .u32 0]] w (Adt14 P S q 10 r w)) := by
    intro w q l S hp t n b s r hk hv e
    subst e
    exact K.adm hp ⟨3, t, 0, n⟩ ⟨b, s, s, 0, 0, 0⟩ hk hv
  have KK := Lib.hid alivek14_calls
  go_enter Try.func11, Try.ntmps11
  go_wp2_with fail
  ((with_reducible refine hn.mono ?_))
  intro e w1 h
  obtain ⟨q, S, rfl, st⟩ := St14.start (Below.refl _ _) h
  have H := Lib.hid st
  clear st h hn
  go_wp2_with fail
  ((with_reducible refine (KK.out 1 1 _).mono ?_))
  rintro e wa0 ⟨rfl, hb⟩
  have G := Lib.hid (H.out.below K hb)
  clear hb H
  have hc : Calls Try.prog 19 #[.pointer (some ⟨q, 0, none⟩), .agg #[.int .i64 3, .int .i64 1, .int .i64 0, .int .i64 1], .agg #[.int .u64 6, .int .i64 5, .int .i64 5, .int .u32 0, .int .u32 0, .int .u32 0]] wa0 (Adt14 P _ q 10 ([⟨⟨3, 1, 0, 1⟩, ⟨6, 5, 5, 0, 0, 0⟩⟩], [], 0) wa0) := KA.out G.out.p 1 1 6 5 _ (by unfold KyB I64; simp only; omega) (by unfold WnB I64 WnOk; simp only; omega) rfl
  go_wp2_with fail
  ((with_reducible refine hc.mono ?_))
  rintro e wb0 ⟨S0, A0, c0, rfl, p, m, r⟩
  have H := Lib.hid (G.out.mv p m)
  clear hc p m r G
  go_wp2_with fail
  ((with_reducible refine (KK.out 1 2 _).mono ?_))
  rintro e wa1 ⟨rfl, hb⟩
  have G := Lib.hid (H.out.below K hb)
  clear hb H
  have hc : Calls Try.prog 19 #[.pointer (some ⟨q, 0, none⟩), .agg #[.int .i64 3, .int .i64 1, .int .i64 0, .int .i64 2], .agg #[.int .u64 8, .int .i64 5, .int .i64 5, .int .u32 0, .int .u32 0, .int .u32 0]] wa1 (Adt14 P _ q 10 ([⟨⟨3, 1, 0, 1⟩, ⟨6, 5, 5, 0, 0, 0⟩⟩, ⟨⟨3, 1, 0, 2⟩, ⟨8, 5, 5, 0, 0, 0⟩⟩], [], 0) wa1) := KA.out G.out.p 1 2 8 5 _ (by unfold KyB I64; simp only; omega) (by unfold WnB I64 WnOk; simp only; omega) rfl
  go_wp2_with fail
  ((with_reducible refine hc.mono ?_))
  rintro e wb1 ⟨S1, A1, c1, rfl, p, m, r⟩
  have H := Lib.hid (G.out.mv p m)
  clear hc p m r G
  go_wp2_with fail
  ((with_reducible refine (KK.out 2 1 _).mono ?_))
  rintro e wa2 ⟨rfl, hb⟩
  have G := Lib.hid (H.out.below K hb)
  clear hb H
  have hc : Calls Try.prog 19 #[.pointer (some ⟨q, 0, none⟩), .agg #[.int .i64 3, .int .i64 2, .int .i64 0, .int .i64 1], .agg #[.int .u64 3, .int .i64 5, .int .i64 5, .int .u32 0, .int .u32 0, .int .u32 0]] wa2 (Adt14 P _ q 10 ([⟨⟨3, 1, 0, 1⟩, ⟨6, 5, 5, 0, 0, 0⟩⟩, ⟨⟨3, 1, 0, 2⟩, ⟨8, 5, 5, 0, 0, 0⟩⟩], [], 14) wa2) := KA.out G.out.p 2 1 3 5 _ (by unfold KyB I64; simp only; omega) (by unfold WnB I64 WnOk; simp only; omega) rfl
  go_wp2_with fail
  ((with_reducible refine hc.mono ?_))
  rintro e wb2 ⟨S2, A2, c2, rfl, p, m, r⟩
  have H := Lib.hid (G.out.mv p m)
  clear hc p m r G
  go_wp2_with fail
  ((with_reducible refine (KK.out 2 1 _).mono ?_))
  rintro e wa3 ⟨rfl, hb⟩
  have G := Lib.hid (H.out.below K hb)
  clear hb H
  have hc : Calls Try.prog 19 #[.pointer (some ⟨q, 0, none⟩), .agg #[.int .i64 3, .int .i64 2, .int .i64 0, .int .i64 1], .agg #[.int .u64 3, .int .i64 4, .int .i64 4, .int .u32 0, .int .u32 0, .int .u32 0]] wa3 (Adt14 P _ q 10 ([⟨⟨3, 2, 0, 1⟩, ⟨3, 4, 4, 0, 0, 0⟩⟩], [⟨3, 1, 0, 1⟩, ⟨3, 1, 0, 2⟩], 0) wa3) := KA.out G.out.p 2 1 3 4 _ (by unfold KyB I64; simp only; omega) (by unfold WnB I64 WnOk; simp only; omega) rfl
  go_wp2_with fail
  ((with_reducible refine hc.mono ?_))
  rintro e wb3 ⟨S3, A3, c3, rfl, p, m, r⟩
  have H := Lib.hid (G.out.mv p m)
  clear hc p m r G
  have kk := fun W => K.kin ⟨3, 1, 0, 1⟩ ⟨3, 1, 0, 2⟩ W
  rw [show kKin ⟨3, 1, 0, 1⟩ ⟨3, 1, 0, 2⟩ = true by decide] at kk
  have kb := fun W => K.before ⟨3, 1, 0, 1⟩ ⟨3, 1, 0, 2⟩ W
  rw [show kBef ⟨3, 1, 0, 1⟩ ⟨3, 1, 0, 2⟩ = true by decide] at kb
  have hg := fun W (h : P W q 10 [⟨⟨3, 2, 0, 1⟩, ⟨3, 4, 4, 0, 0, 0⟩⟩] S3) => K.ledger h
  unfold Lgt14 at hg
  rw [show (lgc (ledgOf 10 (fams [⟨⟨3, 2, 0, 1⟩, ⟨3, 4, 4, 0, 0, 0⟩⟩]))).toArray = #[.int .u64 10, .int .u64 0, .int .u64 0, .int .u64 0, .int .u64 0, .int .u64 3, .int .u64 0, .int .u64 0, .int .u64 0] by rfl] at hg
  have G1 := Lib.hid kk
  have G2 := Lib.hid kb
  have G3 := Lib.hid hg
  clear kk kb hg
  go_wp2_with fail
  ((with_reducible refine (KK.out 1 1 _).mono ?_))
  rintro e w ⟨rfl, hb⟩
  have H := Lib.hid (H.out.below K hb)
  clear hb
  go_wp2_with fail
  ((with_reducible refine (KK.out 1 2 _).mono ?_))
  rintro e w ⟨rfl, hb⟩
  have H := Lib.hid (H.out.below K hb)
  clear hb
  go_wp2_with fail
  ((with_reducible refine (G1.out _).mono ?_))
  rintro e v ⟨rfl, hb⟩
  have H := Lib.hid (H.out.below K hb)
  clear hb
  go_wp2_with fail
  ((with_reducible refine (KK.out 1 1 _).mono ?_))
  rintro e v ⟨rfl, hb⟩
  have H := Lib.hid (H.out.below K hb)
  clear hb
  go_wp2_with fail
  ((with_reducible refine (KK.out 1 2 _).mono ?_))
  rintro e v ⟨rfl, hb⟩
  have H := Lib.hid (H.out.below K hb)
  clear hb
  go_wp2_with fail
  ((with_reducible refine (G2.out _).mono ?_))
  rintro e v ⟨rfl, hb⟩
  have H := Lib.hid (H.out.below K hb)
  clear hb
  go_wp2_with fail
  ((with_reducible refine (G3.out _ H.out.p).mono ?_))
  rintro e v ⟨S9, rfl, p, m⟩
  have H := Lib.hid (H.out.mv p m)
  clear p m
  have f1 := field14 v
  have f2 := index14 v
  go_wp2_with fail
  go_ret
  exact ⟨rfl, H.out.bel⟩

/-- A law's call. -/
theorem does14_calls {P : TabW} (K : Tk14 P) {w : World} {q sz : Nat} {l : List Et} {S : List Nat} (h : P w q sz l S) (x : Ac14) (hx : Ac14Ok x) : Calls Try.prog 27 #[.pointer (some ⟨q, 0, none⟩), .agg (a14 x).toArray] w (Adt14 P S q sz (aDo sz l x) w) := by
  have hnS : BlkT (w.alloc (.cells (a14 x).toArray 35)) S w.heap.size 35 (a14 x) := ⟨Blk.new w _ _, fun hS => by have := K.lt h _ hS; omega⟩
  have hb0 : Below w.heap.size w (w.alloc (.cells (a14 x).toArray 35)) := bel_new (Below.refl _ _) _
  have hp := K.keep h (fun b hS => hb0.block b (K.lt h b hS))
  have hd := K.drop hp x.k hx.1
  have ha := K.adm hp x.k x.w hx.1 hx.2
  have HM := Lib.hid (show Mv14 S w S (w.alloc (.cells (a14 x).toArray 35)) from Mv14.of_below hb0)
  have HB := Lib.hid hnS
  clear hnS hb0 hp
  cases hdr : x.dr with
  | true =>
    have e1 : aDo sz l x = ((aDrop l x.k).1, [], (aDrop l x.k).2) := by unfold aDo; rw [if_pos hdr]
    rw [e1]
    have H1 := Lib.hid hd
    clear ha hd e1
    go_enter Try.func27, Try.ntmps27
    go_upto_region 1 with fail
    generalize (w.alloc (.cells (a14 x).toArray 35)) = w1 at *
    have c0 : w1.cell? ⟨w.heap.size, 0, none⟩ = some (.bool true) := by rw [← hdr]; exact HB.out.blk.cell 0
    have c2 : w1.cell? ⟨w.heap.size, 2, none⟩ = some (.int .i64 x.k.tail) := HB.out.blk.cell 2
    have c3 : w1.cell? ⟨w.heap.size, 3, none⟩ = some (.int .i64 x.k.tun) := HB.out.blk.cell 3
    have c4 : w1.cell? ⟨w.heap.size, 4, none⟩ = some (.int .i64 x.k.head) := HB.out.blk.cell 4
    have c5 : w1.cell? ⟨w.heap.size, 5, none⟩ = some (.int .i64 x.k.lsp) := HB.out.blk.cell 5
    clear hdr
    go_wp2_with fail
    ((with_reducible refine H1.out.mono ?_))
    rintro e w2 ⟨S2, rfl, p2, m2⟩
    clear H1
    go_wp2_with fail
    refine bodyPost_ret (v := .tuple #[.slice none 0 0, .int .i64 (aDrop l x.k).2]) (by simp [results, Try.results27, go_sem]) rfl ?_
    exact ⟨S2, none, 0, rfl, p2, HM.out.trans m2, RowT.nil⟩
  | false =>
    have e1 : aDo sz l x = aAdmit sz l x.k x.w := by unfold aDo; rw [if_neg (by rw [hdr]; decide)]
    rw [e1]
    have H1 := Lib.hid ha
    clear ha hd e1
    go_enter Try.func27, Try.ntmps27
    go_upto_region 1 with fail
    generalize (w.alloc (.cells (a14 x).toArray 35)) = w1 at *
    have c0 : w1.cell? ⟨w.heap.size, 0, none⟩ = some (.bool false) := by rw [← hdr]; exact HB.out.blk.cell 0
    have c2 : w1.cell? ⟨w.heap.size, 2, none⟩ = some (.int .i64 x.k.tail) := HB.out.blk.cell 2
    have c3 : w1.cell? ⟨w.heap.size, 3, none⟩ = some (.int .i64 x.k.tun) := HB.out.blk.cell 3
    have c4 : w1.cell? ⟨w.heap.size, 4, none⟩ = some (.int .i64 x.k.head) := HB.out.blk.cell 4
    have c5 : w1.cell? ⟨w.heap.size, 5, none⟩ = some (.int .i64 x.k.lsp) := HB.out.blk.cell 5
    have c6 : w1.cell? ⟨w.heap.size, 6, none⟩ = some (.int .u64 (x.w.bw : Int)) := HB.out.blk.cell 6
    have c7 : w1.cell? ⟨w.heap.size, 7, none⟩ = some (.int .i64 x.w.su) := HB.out.blk.cell 7
    have c8 : w1.cell? ⟨w.heap.size, 8, none⟩ = some (.int .i64 x.w.ho) := HB.out.blk.cell 8
    have c9 : w1.cell? ⟨w.heap.size, 9, none⟩ = some (.int .u32 (x.w.an : Int)) := HB.out.blk.cell 9
    have c10 : w1.cell? ⟨w.heap.size, 10, none⟩ = some (.int .u32 (x.w.al : Int)) := HB.out.blk.cell 10
    have c11 : w1.cell? ⟨w.heap.size, 11, none⟩ = some (.int .u32 (x.w.no : Int)) := HB.out.blk.cell 11
    clear hdr
    go_wp2_with fail
    ((with_reducible refine H1.out.mono ?_))
    rintro e w2 ⟨S2, A2, c2', rfl, p2, m2, r2⟩
    clear H1
    have R2 := Lib.hid r2
    have M2 := Lib.hid (HM.out.trans m2)
    have P2 := Lib.hid p2
    clear r2 m2 p2
    generalize aAdmit sz l x.k x.w = r at *
    go_wp2_with fail
    refine bodyPost_ret (v := .tuple #[.slice A2 r.2.1.length c2', .int .i64 r.2.2]) (by simp [results, Try.results27, go_sem]) rfl ?_
    exact ⟨S2, A2, c2', rfl, P2.out, M2.out, R2.out⟩
end Go.Proofs.Ytnkoiageoenfeaa

namespace Go.Proofs.Ytnkoiageoenfeaa
set_option maxRecDepth 100000
set_option linter.unusedVariables false
open Go.RowKit

section
variable {P : TabW} {w0 w w' : World} {q sz g : Nat} {l : List Et} {S : List Nat}
theorem St14.stored (K : Tk14 P) (h : St14 P w0 w q sz l S) (hg : w.grownBy w' (some g)) (hn : g ∉ S) (h0 : w0.heap.size ≤ g) : St14 P w0 w' q sz l S :=
  ⟨K.keep h.p (fun b hS => hg.block b (K.lt h.p b hS) (fun e => hn (by injection e with e; subst e; exact hS))), bel_upd h.bel hg (Nat.le_refl _) h0, h.own⟩
end
section
variable {α : Type} {enc : α → List Value} {w w' : World} {S : List Nat} {A : Option Addr} {n g : Nat} {l : List α} {T : TypeId} {vs : List Value}
theorem BlkT.apart {q : Nat} (h : BlkT w S q T vs) : q ≠ w.heap.size := Nat.ne_of_lt h.blk.lt
theorem BlkT.stored {q : Nat} (h : BlkT w S q T vs) (hg : w.grownBy w' (some g)) (hne : q ≠ g) : BlkT w' S q T vs := ⟨h.blk.same (hg.block q h.blk.lt (fun e => hne (by injection e))), h.off⟩
theorem RowT.apart (h : RowT enc w S A n l) : 0 < n → ∀ b o, A = some ⟨b, o, none⟩ → b ≠ w.heap.size := fun hn b o e => by
  obtain ⟨b', o', e', hb, _⟩ := h.row.2 hn
  rw [e'] at e
  injection e with e
  injection e with e1 _ _
  omega
theorem RowT.stored (h : RowT enc w S A n l) (hg : w.grownBy w' (some g)) (hA : 0 < n → ∀ b o, A = some ⟨b, o, none⟩ → b ≠ g) : RowT enc w' S A n l := by
  refine ⟨⟨h.row.1, fun hn => ?_⟩, h.off⟩
  obtain ⟨b, o, e, hb, hc⟩ := h.row.2 hn
  exact ⟨b, o, e, Nat.lt_of_lt_of_le hb hg.size, fun i hi => (World.cell?_of_block (w := w) (hg.block b hb (fun e2 => hA hn b o e (by injection e2)))).trans (hc i hi)⟩
end
theorem ne_selfW14 (y : Wn) (w : World) : (binOp .neq 33 (.agg #[.int .u64 (y.bw : Int), .int .i64 y.su, .int .i64 y.ho, .int .u32 (y.an : Int), .int .u32 (y.al : Int), .int .u32 (y.no : Int)]) (.agg #[.int .u64 (y.bw : Int), .int .i64 y.su, .int .i64 y.ho, .int .u32 (y.an : Int), .int .u32 (y.al : Int), .int .u32 (y.no : Int)])).run Try.prog w = .ok (.bool false) w :=
  (eql_E (xs := wnc y) (ys := wnc y) (la := wnc y) (lb := wnc y) (m := 5) (D := 5) (by decide) (by kernel_rfl) (by rfl) (by rfl) (by rfl) (by rfl) w true (by simp)).2
/-- Admit that drove nobody out. -/
theorem adm_quiet {size : Nat} {l : List Et} {k : Ky} {v : Wn} {r : List Et × List Ky × Int} (hs : Srt14 l) (h : Adm14 size l k v r) (h0 : r.2.2 = 0) (hg : r.2.1 = []) : r.1 = wIns l ⟨k, v⟩ ∧ has14 l k = false := by
  cases h with
  | bad _ => simp at h0
  | have_ _ _ => simp at h0
  | full _ _ _ => simp at h0
  | room _ _ _ _ _ _ _ => simp at h0
  | ok h1 h2 h3 m h4 h5 h6 =>
    obtain rfl := gone_nil hs h4.sub hg
    exact ⟨rfl, h2⟩
end Go.Proofs.Ytnkoiageoenfeaa
