/-
  The code's search as it lies in memory, what stays when parts of it turn; contracts of spf.isNode and spf.extend. Condition: a route reads as whole numbers, at most 2^30 of them.
  Contract of offer: a route is kept if none to its last node is known, or only one that it is better than. Condition: fewer than 1024 items wait.
  Contract of leave: the routes that go on from a node by one link are offered. Condition: the links are a network's, the node is the one that came out of the queue.
  Contracts of slices.Repeat of one number, and of newSearch. Condition: from 1 to 16 nodes.
-/
import Derived.Test.YtjflbfianncpfaaSpfE
import Derived.Test.YtjflbfianncpfaaSeaG
import Derived.Test.YtjflbfianncpfaaSpfD
import Derived.Test.YtjflbfianncpfaaHeapQ
import Derived.ArgAppend
import Derived.Test.YtjflbfianncpfaaGrSU
namespace Go.Proofs.Ytjflbfianncpfaa
set_option maxRecDepth 100000
set_option linter.unusedVariables false
open Go.RowKit

/-- What a list and a cost tell. -/
def NoteOk (w : World) (base B : Nat) (x : Rs) (co : Int) : Option (Int × List Int) → Prop
  | none => x.n = 0 ∧ co = -1
  | some (c, r) => co = c ∧ 0 ≤ c ∧ x.n = r.length ∧ (1 ≤ x.n ∧ x.n ≤ 1073741824) ∧ AccI w base x.a x.c r ∧ ∀ b, blk x.a = some b → b ≠ B
/-- The blocks of a search that stay the same ones: its own, its routes', its costs', its queue's, the items'; how many nodes there are. -/
structure Sk where
  s : Nat
  A : Nat
  B : Nat
  q : Nat
  p : Nat
  N : Nat
/-- A search in memory that was made since w0, with what is noted, and what waits. -/
structure Sea (w0 w : World) (K : Sk) (g : Nat) (RS : List Rs) (C : List Int) (S : List (Option (Int × List Int))) (Q : List Itm) : Prop where
  bel : Below w0.heap.size w0 w
  head : Blk w K.s 113 [.slice (some ⟨K.A, 0, none⟩) K.N K.N, .slice (some ⟨K.B, 0, none⟩) K.N K.N, .pointer (some ⟨K.q, 0, none⟩)]
  routes : Blk w K.A 29 (RS.map rv)
  costs : Blk w K.B 3 (C.map (Value.int .i64))
  queue : Qe w w0.heap.size K.q K.p g Q
  lr : RS.length = K.N
  lc : C.length = K.N
  ls : S.length = K.N
  loA : w0.heap.size ≤ K.A
  loB : w0.heap.size ≤ K.B
  ok : ∀ (i : Nat) (x : Rs) (co : Int) (st : Option (Int × List Int)), RS[i]? = some x → C[i]? = some co → S[i]? = some st → NoteOk w w0.heap.size K.B x co st
section
variable {w0 w w' : World} {K : Sk} {g g' : Nat} {RS : List Rs} {C : List Int} {S : List (Option (Int × List Int))} {Q Q' : List Itm}

theorem NoteOk.same {base B : Nat} {x : Rs} {co : Int} {st : Option (Int × List Int)} (h : NoteOk w base B x co st) (hk : ∀ c r, AccI w base x.a x.c r → st = some (c, r) → AccI w' base x.a x.c r) : NoteOk w' base B x co st := by
  cases st with
  | none => exact h
  | some p =>
    obtain ⟨c, r⟩ := p
    exact ⟨h.1, h.2.1, h.2.2.1, h.2.2.2.1, hk c r h.2.2.2.2.1 rfl, h.2.2.2.2.2⟩
theorem Sea.below (h : Sea w0 w K g RS C S Q) (hb : Below w.heap.size w w') : Sea w0 w' K g RS C S Q :=
  ⟨h.bel.trans (hb.mono h.bel.size), h.head.below hb, h.routes.below hb, h.costs.below hb, h.queue.bel hb, h.lr, h.lc, h.ls, h.loA, h.loB,
    fun i x co st h1 h2 h3 => (h.ok i x co st h1 h2 h3).same (fun c r ha _ => AccR.bel ha hb)⟩
theorem Sea.drew (h : Sea w0 w K g RS C S Q) : Sea w0 w.drew K g RS C S Q := h.below (Below.refl _ _).drew

theorem Sea.apart (h : Sea w0 w K g RS C S Q) : (K.s ≠ K.A ∧ K.s ≠ K.B ∧ K.s ≠ K.q ∧ K.s ≠ K.p ∧ K.s ≠ g) ∧ (K.A ≠ K.B ∧ K.A ≠ K.q ∧ K.A ≠ K.p ∧ K.A ≠ g) ∧ (K.B ≠ K.q ∧ K.B ≠ K.p ∧ K.B ≠ g) ∧ K.q ≠ K.p ∧ K.q ≠ g := by
  obtain ⟨t1, t2, t3⟩ := h.queue.ty
  have ts := h.head.ty
  have ta := h.routes.ty
  have tb := h.costs.ty
  refine ⟨⟨ne_ty ts ta (by decide), ne_ty ts tb (by decide), ne_ty ts t1 (by decide), ne_ty ts t2 (by decide), ne_ty ts t3 (by decide)⟩, ⟨ne_ty ta tb (by decide), ne_ty ta t1 (by decide), ne_ty ta t2 (by decide), ne_ty ta t3 (by decide)⟩, ⟨ne_ty tb t1 (by decide), ne_ty tb t2 (by decide), ne_ty tb t3 (by decide)⟩, ne_ty t1 t2 (by decide), ne_ty t1 t3 (by decide)⟩
/-- A route's block is none of the search's. -/
theorem Sea.routeOff (h : Sea w0 w K g RS C S Q) {base c : Nat} {A : Option Addr} {r : List Int} (ha : AccI w base A c r) : ∀ b, blk A = some b → b ≠ K.s ∧ b ≠ K.A ∧ b ≠ K.q ∧ b ≠ K.p ∧ b ≠ g := by
  intro b hb
  have t0 := accr_ty ha hb
  obtain ⟨t1, t2, t3⟩ := h.queue.ty
  exact ⟨ne_ty t0 h.head.ty (by decide), ne_ty t0 h.routes.ty (by decide), ne_ty t0 t1 (by decide), ne_ty t0 t2 (by decide), ne_ty t0 t3 (by decide)⟩
/-- The queue turns. -/
theorem Sea.turn (h : Sea w0 w K g RS C S Q) (ht : Turn [K.p, g] w w') (hq : Qe w' w0.heap.size K.q K.p g' Q') : Sea w0 w' K g' RS C S Q' := by
  obtain ⟨⟨a1, a2, a3, a4, a5⟩, ⟨b1, b2, b3, b4⟩, ⟨c1, c2, c3⟩, d1, d2⟩ := h.apart
  have hlo := h.queue.lo
  refine ⟨ht.bel h.bel (Nat.le_refl _) (by simp; omega), h.head.same (ht.block _ h.head.lt (by simp; omega)), h.routes.same (ht.block _ h.routes.lt (by simp; omega)), h.costs.same (ht.block _ h.costs.lt (by simp; omega)), hq, h.lr, h.lc, h.ls, h.loA, h.loB, ?_⟩
  intro i x co st h1 h2 h3
  refine (h.ok i x co st h1 h2 h3).same (fun c r ha _ => accr_off11 ha ht (fun b hb => ?_))
  have := h.routeOff ha b hb
  simp
  omega
/-- A note is laid. -/
theorem Sea.store (h : Sea w0 w K g RS C S Q) {k : Nat} (x : Rs) (c : Int) (r : List Int) (hc : 0 ≤ c) (hn : x.n = r.length) (h1 : 1 ≤ x.n ∧ x.n ≤ 1073741824) (ha : AccI w w0.heap.size x.a x.c r) (hB : ∀ b, blk x.a = some b → b ≠ K.B) :
    Sea w0 ((w.setCell ⟨K.B, k, none⟩ (.int .i64 c)).setCell ⟨K.A, k, none⟩ (rv x)) K g (RS.set k x) (C.set k c) (S.set k (some (c, r))) Q ∧
      Turn [K.A, K.B] w ((w.setCell ⟨K.B, k, none⟩ (.int .i64 c)).setCell ⟨K.A, k, none⟩ (rv x)) := by
  obtain ⟨⟨a1, a2, a3, a4, a5⟩, ⟨b1, b2, b3, b4⟩, ⟨c1, c2, c3⟩, d1, d2⟩ := h.apart
  have g1 := upd_set_p w K.B k (.int .i64 c)
  have g2 := upd_set_p (w.setCell ⟨K.B, k, none⟩ (.int .i64 c)) K.A k (rv x)
  have ht : Turn [K.A, K.B] w ((w.setCell ⟨K.B, k, none⟩ (.int .i64 c)).setCell ⟨K.A, k, none⟩ (rv x)) := (Turn.of_grown g1 (by simp)).trans (Turn.of_grown g2 (by simp))
  have e1 := ((h.costs.set k (.int .i64 c)).other (p := ⟨K.A, k, none⟩) b1 (rv x))
  have e2 := ((h.routes.other (p := ⟨K.B, k, none⟩) (Ne.symm b1) (.int .i64 c)).set k (rv x))
  rw [← List.map_set] at e1
  rw [← List.map_set] at e2
  have hq := (h.queue.other g1 (by omega) (by omega) (by omega)).other g2 (by omega) (by omega) (by omega)
  have keep : ∀ (A : Option Addr) (cc : Nat) (rr : List Int), AccI w w0.heap.size A cc rr → (∀ b, blk A = some b → b ≠ K.B) → AccI ((w.setCell ⟨K.B, k, none⟩ (.int .i64 c)).setCell ⟨K.A, k, none⟩ (rv x)) w0.heap.size A cc rr := by
    intro A cc rr hA hAB
    refine accr_off11 hA ht (fun b hb => ?_)
    have := h.routeOff hA b hb
    have := hAB b hb
    simp
    omega
  refine ⟨⟨ht.bel h.bel (Nat.le_refl _) (by have := h.loA; have := h.loB; simp; omega), ?_, e2, e1, hq, by rw [List.length_set]; exact h.lr, by rw [List.length_set]; exact h.lc, by rw [List.length_set]; exact h.ls, h.loA, h.loB, ?_⟩, ht⟩
  · exact (h.head.other (p := ⟨K.B, k, none⟩) (Ne.symm a2) _).other (p := ⟨K.A, k, none⟩) (Ne.symm a1) _
  · intro i y co st h1' h2 h3
    rw [List.getElem?_set] at h1' h2 h3
    by_cases hk : k = i
    · subst hk
      rw [if_pos rfl] at h1' h2 h3
      by_cases hl : k < K.N
      · rw [if_pos (by rw [h.lr]; exact hl)] at h1'
        rw [if_pos (by rw [h.lc]; exact hl)] at h2
        rw [if_pos (by rw [h.ls]; exact hl)] at h3
        injection h1' with h1'
        injection h2 with h2
        injection h3 with h3
        subst h1' h2 h3
        exact ⟨rfl, hc, hn, h1, keep _ _ _ ha hB, hB⟩
      · rw [if_neg (by rw [h.lr]; exact hl)] at h1'; cases h1'
    · rw [if_neg hk] at h1' h2 h3
      have hy := h.ok i y co st h1' h2 h3
      cases st with
      | none => exact hy
      | some p =>
        obtain ⟨c', r'⟩ := p
        exact ⟨hy.1, hy.2.1, hy.2.2.1, hy.2.2.2.1, keep _ _ _ hy.2.2.2.2.1 hy.2.2.2.2.2, hy.2.2.2.2.2⟩

/-- Only the search has turned, and what was made since. -/
def Fr (K : Sk) (w : World) (g : Nat) (w' : World) (g' : Nat) : Prop := Turn [K.A, K.B, K.p, g] w w' ∧ (g' = g ∨ w.heap.size ≤ g')
theorem Fr.refl (K : Sk) (w : World) (g : Nat) : Fr K w g w g := ⟨Turn.refl _ _, .inl rfl⟩
theorem Fr.of_below (hb : Below w.heap.size w w') : Fr K w g w' g := ⟨Turn.of_below hb, .inl rfl⟩
theorem Fr.trans {w'' : World} {g'' : Nat} (h : Fr K w g w' g') (k : Fr K w' g' w'' g'') : Fr K w g w'' g'' := by
  obtain ⟨t1, e1⟩ := h
  obtain ⟨t2, e2⟩ := k
  refine ⟨⟨t2.os.trans t1.os, t2.tape.trans t1.tape, t2.output.trans t1.output, Nat.le_trans t1.size t2.size, fun i hi hn => ?_⟩, ?_⟩
  · refine (t2.block i (Nat.lt_of_lt_of_le hi t1.size) ?_).trans (t1.block i hi hn)
    simp at hn ⊢
    omega
  · have := t1.size
    omega
/-- A block that is none of the search's stays. -/
theorem Fr.stays (h : Fr K w g w' g') {b : Nat} {T : TypeId} {vs : List Value} (hb : Blk w b T vs) (hn : b ≠ K.A ∧ b ≠ K.B ∧ b ≠ K.p ∧ b ≠ g) : Blk w' b T vs :=
  hb.same (h.1.block b hb.lt (by simp; omega))
theorem Fr.acci (h : Fr K w g w' g') {base c : Nat} {A : Option Addr} {r : List Int} (ha : AccI w base A c r) (hn : ∀ b, blk A = some b → b ≠ K.A ∧ b ≠ K.B ∧ b ≠ K.p ∧ b ≠ g) : AccI w' base A c r :=
  accr_off11 ha h.1 (fun b hb => by have := hn b hb; simp; omega)
end

theorem isnode11_calls (n a : Int) (w : World) : Calls Try.prog 30 #[.int .i64 n, .int .i64 a] w fun e w' => e = .returned (.bool (decide (0 ≤ a ∧ a < n))) ∧ w' = w := by
  by_cases h0 : 0 ≤ a
  · by_cases h1 : a < n
    · have e : decide (0 ≤ a ∧ a < n) = true := decide_eq_true ⟨h0, h1⟩
      rw [e]
      have g0 : decide (0 ≤ a) = true := decide_eq_true h0
      have g1 : decide (a < n) = true := decide_eq_true h1
      clear h0 h1 e
      go_enter Try.func30, Try.ntmps30
      go_wp2
      go_ret
      exact ⟨rfl, rfl⟩
    · have e : decide (0 ≤ a ∧ a < n) = false := decide_eq_false (fun h => h1 h.2)
      rw [e]
      have g0 : decide (0 ≤ a) = true := decide_eq_true h0
      have g1 : decide (a < n) = false := decide_eq_false h1
      clear h0 h1 e
      go_enter Try.func30, Try.ntmps30
      go_wp2
      go_ret
      exact ⟨rfl, rfl⟩
  · have e : decide (0 ≤ a ∧ a < n) = false := decide_eq_false (fun h => h0 h.1)
    rw [e]
    have g0 : decide (0 ≤ a) = false := decide_eq_false h0
    clear h0 e
    go_enter Try.func30, Try.ntmps30
    go_wp2
    go_ret
    exact ⟨rfl, rfl⟩

/-- A route with a node more, in memory of its own. -/
def ExtPost (w : World) (r : List Int) (t : Int) (e : Ending) (w' : World) : Prop :=
  ∃ A c', e = .returned (.slice A (r.length + 1) c') ∧ AccI w' w.heap.size A c' (r ++ [t]) ∧ Below w.heap.size w w'
theorem extend11_calls (a : Option Addr) (n ca : Nat) (r : List Int) (t : Int) (w : World) (h : Row ei w w.heap.size a n r) (h1 : 1 ≤ n) (hca : n ≤ ca) (hn : n ≤ 1073741824) :
    Calls Try.prog 65 #[.slice a n ca, .int .i64 t] w (ExtPost w r t) := by
  obtain ⟨b, o, rfl, hb, hc⟩ := row_int h (by omega)
  have hrl := h.1
  have X := Lib.hid (Blk.new w 3 [.int .i64 t])
  have hb1 := bel_new (Below.refl w.heap.size w) (.cells #[.int .i64 t] 3)
  have hsz : (w.alloc (.cells #[.int .i64 t] 3)).heap.size = w.heap.size + 1 := by simp
  obtain ⟨i0, hi, hzz⟩ := Option.map_eq_some_iff.1 infoInt
  simp only [Prod.mk.injEq] at hzz
  obtain ⟨v', w', hrun, hown, hgr⟩ := run_append_arg_grows (P := Try.prog) (w.alloc (.cells #[.int .i64 t] 3)) 29 29 3 i0 (.int .i64 0) 1 8 Try.underlying29 hi hzz.1 hzz.2.1 hzz.2.2 rfl (by omega)
    ⟨b, o, none⟩ n n (r.map (Value.int .i64)) (by simp [hrl]) (fun j u hu => by
      rw [Addr.add_lit]
      have hj : j < r.length := by have := (List.getElem?_eq_some_iff.1 hu).1; simpa using this
      rw [hb1.cell (p := ⟨b, o + j, none⟩) hb, hc j hj]
      rw [List.getElem?_map, List.getElem?_eq_getElem hj] at hu
      exact hu)
    ⟨w.heap.size, 0, none⟩ 1 1 [.int .i64 t] rfl (fun j u hu => by
      rw [Addr.add_lit, Nat.zero_add, X.out.cell j]; exact hu) (by omega) (by unfold maxLen; omega) (by omega)
  have hfin : ∃ A c', v' = .slice A (n + 1) c' ∧ AccI w' w.heap.size A c' (r ++ [t]) := by
    have ho := hown
    rcases ho.2 with ⟨_, h0⟩ | ⟨g, cap, cur, rfl, hge, hh⟩
    · omega
    · refine ⟨_, _, rfl, ?_⟩
      unfold AccI AccR
      rw [ei_flat, List.map_append, List.length_append, List.length_singleton, hrl]
      exact ⟨hown.1, .inr ⟨g, cap, cur, rfl, by omega, hh⟩⟩
  obtain ⟨A', c', rfl, hacc⟩ := hfin
  have hbel : Below w.heap.size w w' := hb1.grown hgr (by rw [hsz]; omega) (fun k hk => by cases hk)
  have R := Lib.hid hrun
  have ACC := Lib.hid hacc
  have BEL := Lib.hid hbel
  have HRL := Lib.hid hrl
  have HCA := Lib.hid hca
  have k1 : (n : Int) ≤ (ca : Int) := by omega
  clear hc hb1 hsz hi hzz hrun hown hgr hacc hbel hrl X h hb
  go_enter Try.func65, Try.ntmps65
  go_wp2_with (at_builtin; refine step_append rfl rfl rfl rfl R.out ?_)
  go_ret
  exact ⟨A', c', by rw [HRL.out]; rfl, ACC.out, BEL.out⟩
end Go.Proofs.Ytjflbfianncpfaa

namespace Go.Proofs.Ytjflbfianncpfaa
set_option maxRecDepth 100000
set_option linter.unusedVariables false
open Go.RowKit

/-- A search, whatever its cells. -/
def Sy (w0 w : World) (K : Sk) (g : Nat) (S : List (Option (Int × List Int))) (Q : List Itm) : Prop := ∃ RS C, Sea w0 w K g RS C S Q
/-- What offer leaves. -/
def OffPost (w0 w : World) (K : Sk) (g : Nat) (S : List (Option (Int × List Int))) (Q : List Itm) (c : Int) (r : List Int) (k : Nat) (e : Ending) (w' : World) : Prop :=
  e = .returned (.tuple #[]) ∧ ∃ g', Fr K w g w' g' ∧ (∀ i, i ≠ k → w'.cell? ⟨K.B, i, none⟩ = w.cell? ⟨K.B, i, none⟩ ∧ w'.cell? ⟨K.A, i, none⟩ = w.cell? ⟨K.A, i, none⟩) ∧
    ((∃ p, sat S (k : Int) = some p ∧ ¬ bet (c, r) p ∧ Sy w0 w' K g' S Q) ∨
     ((∀ p, sat S (k : Int) = some p → bet (c, r) p) ∧ Sy w0 w' K g' (S.set k (some (c, r))) (insQ ⟨c, (r.length : Int) - 1, (k : Int)⟩ Q)))

set_option maxHeartbeats 4000000 in
theorem offer_calls {w0 w : World} {K : Sk} {g : Nat} {S : List (Option (Int × List Int))} {Q : List Itm} (h : Sy w0 w K g S Q) (xa : Option Addr) (n cap : Nat) (c : Int) (r : List Int) (k : Nat)
    (ha : AccI w w0.heap.size xa cap r) (hr : r.length = n) (hn1 : 1 ≤ n) (hn2 : n ≤ 1073741824) (hlast : r[n - 1]? = some (k : Int)) (hk : k < K.N) (hc : 0 ≤ c) (hB : ∀ b, blk xa = some b → b ≠ K.B) (hq : Q.length < 1024) :
    Calls Try.prog 44 #[.pointer (some ⟨K.s, 0, none⟩), .int .i64 c, .slice xa n cap] w (OffPost w0 w K g S Q c r k) := by
  obtain ⟨RS, C, h⟩ := h
  have hrow := AccR.row ha
  rw [hr] at hrow
  obtain ⟨b, o, rfl, hb, hcell⟩ := row_int hrow (by omega)
  have hcl : w.cell? ⟨b, o + (n - 1), none⟩ = some (.int .i64 (k : Int)) := by
    have hj : n - 1 < r.length := by omega
    rw [hcell (n - 1) hj]
    rw [List.getElem?_eq_getElem hj] at hlast
    injection hlast with hlast
    rw [hlast]
  have cs0 : w.cell? ⟨K.s, 0, none⟩ = some (.slice (some ⟨K.A, 0, none⟩) K.N K.N) := h.head.cell 0
  have cs1 : w.cell? ⟨K.s, 1, none⟩ = some (.slice (some ⟨K.B, 0, none⟩) K.N K.N) := h.head.cell 1
  have cs2 : w.cell? ⟨K.s, 2, none⟩ = some (.pointer (some ⟨K.q, 0, none⟩)) := h.head.cell 2
  have kR : k < RS.length := by rw [h.lr]; exact hk
  have kC : k < C.length := by rw [h.lc]; exact hk
  have kS : k < S.length := by rw [h.ls]; exact hk
  have hx : RS[k]? = some RS[k] := List.getElem?_eq_getElem kR
  have hco : C[k]? = some C[k] := List.getElem?_eq_getElem kC
  have hst : S[k]? = some S[k] := List.getElem?_eq_getElem kS
  have hsat : sat S (k : Int) = S[k] := by unfold sat; rw [Int.toNat_natCast, List.getD_eq_getElem?_getD, hst]; rfl
  have hnote := h.ok k _ _ _ hx hco hst
  have hbc : w.cell? ⟨K.B, k, none⟩ = some (.int .i64 C[k]) := by rw [h.costs.cell k, List.getElem?_map, hco]; rfl
  have hac : w.cell? ⟨K.A, k, none⟩ = some (rv RS[k]) := by rw [h.routes.cell k, List.getElem?_map, hx]; rfl
  generalize RS[k] = x at hx hnote hac
  generalize C[k] = co at hco hnote hbc
  generalize S[k] = st at hst hnote hsat
  obtain ⟨ya, yn, yc⟩ := x
  have hac' : w.cell? ⟨K.A, k, none⟩ = some (.slice ya yn yc) := hac
  have H := Lib.hid h
  have HA := Lib.hid ha
  have HR := Lib.hid hr
  have HSAT := Lib.hid hsat
  have HQ := Lib.hid hq
  have HBN := Lib.hid hB
  have HC := Lib.hid hc
  have SC := Lib.hid (And.intro hbc hac')
  have SS := Lib.hid (show ∀ W, Below w.heap.size w W → W.cell? ⟨K.s, 0, none⟩ = some (.slice (some ⟨K.A, 0, none⟩) K.N K.N) ∧ W.cell? ⟨K.s, 1, none⟩ = some (.slice (some ⟨K.B, 0, none⟩) K.N K.N) ∧ W.cell? ⟨K.B, k, none⟩ = some (.int .i64 co) ∧ W.cell? ⟨K.A, k, none⟩ = some (.slice ya yn yc) from fun W hW =>
    ⟨(hW.cell (p := ⟨K.s, 0, none⟩) h.head.lt).trans cs0, (hW.cell (p := ⟨K.s, 1, none⟩) h.head.lt).trans cs1, (hW.cell (p := ⟨K.B, k, none⟩) h.costs.lt).trans hbc, (hW.cell (p := ⟨K.A, k, none⟩) h.routes.lt).trans hac'⟩)
  obtain ⟨m, hm⟩ : ∃ m : Nat, m + 1 = n := ⟨n - 1, by omega⟩
  have i0 : (n : Int) - 1 = (m : Int) := by omega
  have i1 : (m : Int) < (n : Int) := by omega
  have i2 : (k : Int) < (K.N : Int) := by omega
  have i3 : n - 1 = m := by omega
  rw [i3] at hcl
  have HM := Lib.hid hm
  have HK := Lib.hid hk
  have HROW := Lib.hid hrow
  clear hrow hcell hlast kR kC kS hx hco hst hbc hac hac' h ha hr hsat hq hB hc hb hm i3
  by_cases hno : ∃ p, st = some p ∧ ¬ bet (c, r) p
  · obtain ⟨⟨c1, r1⟩, rfl, hbt⟩ := hno
    obtain ⟨e1, hc1, hyn, hy1, hya, _⟩ := hnote
    replace hyn : yn = r1.length := hyn
    replace hy1 : 1 ≤ yn ∧ yn ≤ 1073741824 := hy1
    subst e1
    have yrow := AccR.row hya
    rw [← hyn] at yrow
    have hbet := fun W (hW : Below w.heap.size w W) => better_ok c co (some ⟨b, o, none⟩) ya n yn cap yc r r1 W ((HROW.out.below hW).more hW.size) ((yrow.below hW).more hW.size) (by omega) (by omega)
    rw [show decide (bet (c, r) (co, r1)) = false from decide_eq_false hbt] at hbet
    have HBET := Lib.hid hbet
    have HBT := Lib.hid hbt
    have q1 : (co == -1) = false := by simp; omega
    have q2 : (co != -1) = true := by simp; omega
    have q3 : decide (co = -1) = false := by simp; omega
    clear hc1 hyn hya yrow hbet hbt
    go_enter Try.func44, Try.ntmps44
    go_wp2_with fail
    refine region_seq (fun W => Below w.heap.size w W) [(0, true), (1, true), (2, true), (3, true), (4, true), (5, true), (6, true), (7, true), (8, true), (9, true), (10, true), (11, true), (12, true), (13, true), (14, true), (15, true), (16, true), (17, true), (18, true), (19, true), (20, true), (21, true), (22, true), (23, true), (24, true), (25, false), (26, true), (27, true)]
      (by kernel_rfl) (by kernel_rfl) (by kernel_rfl) (by kernel_rfl) (fun _ _ _ _ _ h => h) (Below.refl _ _).drew ?_
    repeat
      refine seq_pure (v := ?_) rfl (by rfl) (fun W hW => ?_) ?_
      rotate_left
      · obtain ⟨t0, t1, t2, t3⟩ := SS.out W hW
        clear hW
        go_simp
        with_reducible rfl
      simp only [Act.put, List.setIfInBounds_toArray, List.set_cons_zero, List.set_cons_succ]
    refine seq_make rfl (by rfl) (fun K' hK' => ?_)
    go_simp
    ((with_reducible refine (HBET.out w.drew (Below.refl _ _).drew).mono ?_))
    rintro e w1 ⟨rfl, hb1⟩
    have B1 := Lib.hid (show Below w.heap.size w w1 from below_of_drew hb1)
    clear hb1
    go_simp
    refine hK' _ _ (fun W => Below w.heap.size w W) (fun W h => h) B1.out ?_
    clear hK' K'
    repeat
      refine seq_pure (v := ?_) rfl (by rfl) (fun W hW => ?_) ?_
      rotate_left
      · clear hW
        go_simp
        with_reducible rfl
      simp only [Act.put, List.setIfInBounds_toArray, List.set_cons_zero, List.set_cons_succ]
    refine seq_done ?_
    go_wp2
    go_end0
    exact ⟨rfl, g, Fr.of_below B1.out, fun i _ => ⟨B1.out.cell (p := ⟨K.B, i, none⟩) H.out.costs.lt, B1.out.cell (p := ⟨K.A, i, none⟩) H.out.routes.lt⟩, .inl ⟨_, HSAT.out, HBT.out, RS, C, H.out.below B1.out⟩⟩
  · have hyes : ∀ p, sat S (k : Int) = some p → bet (c, r) p := fun p hp => by
      rw [HSAT.out] at hp
      exact Classical.byContradiction fun hn => hno ⟨p, hp, hn⟩
    have HYES := Lib.hid hyes
    clear hno hyes
    cases st with
    | none =>
      obtain ⟨_, rfl⟩ := hnote
      go_enter Try.func44, Try.ntmps44
      go_wp2_with fail
      refine region_seq (fun W => Below w.heap.size w W) [(0, true), (1, true), (2, true), (3, true), (4, true), (5, true), (6, true), (7, true), (8, true), (9, true), (10, true), (11, true), (12, true), (13, true), (14, true), (15, true), (16, true), (17, true), (18, true), (19, true), (20, true), (21, true), (22, true), (23, true), (24, true), (25, false), (26, true), (27, true)]
        (by kernel_rfl) (by kernel_rfl) (by kernel_rfl) (by kernel_rfl) (fun _ _ _ _ _ h => h) (Below.refl _ _).drew ?_
      repeat
        first
          | (refine seq_pure (v := ?_) rfl (by rfl) (fun W hW => ?_) ?_
             rotate_left
             · obtain ⟨t0, t1, t2, t3⟩ := SS.out W hW
               clear hW
               go_simp
               with_reducible rfl
             simp only [Act.put, List.setIfInBounds_toArray, List.set_cons_zero, List.set_cons_succ])
          | (refine seq_skip rfl (by rfl) ?_
             simp only [Act.put, List.setIfInBounds_toArray, List.set_cons_zero, List.set_cons_succ])
          | (refine seq_unmake rfl (by rfl) (Below.refl _ _).drew ?_
             simp only [Act.put, List.setIfInBounds_toArray, List.set_cons_zero, List.set_cons_succ])
      refine seq_done ?_
      have B1 := Lib.hid (show Below w.heap.size w w.drew from (Below.refl _ _).drew)
      generalize w.drew = w1 at B1 ⊢
      have H1 := Lib.hid (H.out.below B1.out)
      have A1 := Lib.hid (show AccI w1 w0.heap.size (some ⟨b, o, none⟩) cap r from AccR.bel HA.out B1.out)
      have d0 : w1.cell? ⟨K.s, 0, none⟩ = some (.slice (some ⟨K.A, 0, none⟩) K.N K.N) := (SS.out w1 B1.out).1
      have d1 : w1.cell? ⟨K.s, 1, none⟩ = some (.slice (some ⟨K.B, 0, none⟩) K.N K.N) := (SS.out w1 B1.out).2.1
      have d2 := (SS.out w1 B1.out).2.2.1
      have d3 := (SS.out w1 B1.out).2.2.2
      have f2 := H1.out.costs.free k
      have f3 := H1.out.routes.free k
      obtain ⟨⟨a1, a2, _⟩, ⟨a3, _⟩, _⟩ := H1.out.apart
      have hsx := H1.out.store (k := k) ⟨some ⟨b, o, none⟩, n, cap⟩ c r HC.out (by rw [HR.out]) ⟨hn1, hn2⟩ A1.out HBN.out
      have hS2 : ∀ W, Blk W K.s 113 [.slice (some ⟨K.A, 0, none⟩) K.N K.N, .slice (some ⟨K.B, 0, none⟩) K.N K.N, .pointer (some ⟨K.q, 0, none⟩)] → W.cell? ⟨K.s, 0, none⟩ = some (.slice (some ⟨K.A, 0, none⟩) K.N K.N) ∧ W.cell? ⟨K.s, 1, none⟩ = some (.slice (some ⟨K.B, 0, none⟩) K.N K.N) := fun W hW => ⟨hW.cell 0, hW.cell 1⟩
      have S2 := Lib.hid hS2
      have HSX := Lib.hid hsx
      have HD2 := Lib.hid (H1.out.head.other (p := ⟨K.B, k, none⟩) (Ne.symm a2) (.int .i64 c))
      have HD3 := Lib.hid ((H1.out.head.other (p := ⟨K.B, k, none⟩) (Ne.symm a2) (.int .i64 c)).other (p := ⟨K.A, k, none⟩) (Ne.symm a1) (.slice (some ⟨b, o, none⟩) n cap))
      have hra := H1.out.routes.other (p := ⟨K.B, k, none⟩) (Ne.symm a3) (.int .i64 c)
      have g3 := hra.free k
      have g4 : (w1.setCell ⟨K.B, k, none⟩ (.int .i64 c)).cell? ⟨K.A, k, none⟩ = some (.slice ya yn yc) := (hra.cell k).trans ((H1.out.routes.cell k).symm.trans d3)
      have G3 := Lib.hid (And.intro g3 g4)
      clear hsx hS2 hra d0 d1 cs0 cs1 cs2 a1 a2 a3 g3 g4 f3 d3
      go_wp2_with fail
      refine region_seq (fun W => Blk W K.s 113 [.slice (some ⟨K.A, 0, none⟩) K.N K.N, .slice (some ⟨K.B, 0, none⟩) K.N K.N, .pointer (some ⟨K.q, 0, none⟩)]) [(0, true), (1, true), (2, true), (3, true), (4, true), (5, true), (6, true), (7, true), (8, true), (9, true), (10, true), (11, true), (12, true), (13, false), (14, true), (15, false)]
        (by kernel_rfl) (by kernel_rfl) (by kernel_rfl) (by kernel_rfl) (fun _ _ _ _ _ h => h) H1.out.head ?_
      repeat
        refine seq_pure (v := ?_) rfl (by rfl) (fun W hW => ?_) ?_
        rotate_left
        · obtain ⟨t0, t1⟩ := S2.out W hW
          clear hW
          go_simp
          with_reducible rfl
        simp only [Act.put, List.setIfInBounds_toArray, List.set_cons_zero, List.set_cons_succ]
      refine seq_make rfl (by rfl) (fun K' hK' => ?_)
      go_simp
      refine hK' _ _ (fun W => Blk W K.s 113 [.slice (some ⟨K.A, 0, none⟩) K.N K.N, .slice (some ⟨K.B, 0, none⟩) K.N K.N, .pointer (some ⟨K.q, 0, none⟩)]) (fun W h => h) HD2.out ?_
      clear hK' K' d2 f2
      repeat
        refine seq_pure (v := ?_) rfl (by rfl) (fun W hW => ?_) ?_
        rotate_left
        · obtain ⟨t0, t1⟩ := S2.out W hW
          clear hW
          go_simp
          with_reducible rfl
        simp only [Act.put, List.setIfInBounds_toArray, List.set_cons_zero, List.set_cons_succ]
      have g3 := G3.out.1
      have g4 := G3.out.2
      refine seq_make rfl (by rfl) (fun K' hK' => ?_)
      go_simp
      refine hK' _ _ (fun W => Blk W K.s 113 [.slice (some ⟨K.A, 0, none⟩) K.N K.N, .slice (some ⟨K.B, 0, none⟩) K.N K.N, .pointer (some ⟨K.q, 0, none⟩)]) (fun W h => h) HD3.out ?_
      clear hK' K' g3 g4
      refine seq_done ?_
      obtain ⟨w3, hw3⟩ : ∃ w3, w3 = ((w1.setCell ⟨K.B, k, none⟩ (.int .i64 c)).setCell ⟨K.A, k, none⟩ (.slice (some ⟨b, o, none⟩) n cap)).drew := ⟨_, rfl⟩
      rw [← hw3]
      have h3 := HSX.out
      rw [show rv ⟨some ⟨b, o, none⟩, n, cap⟩ = .slice (some ⟨b, o, none⟩) n cap from rfl] at h3
      have hs3 := h3.1.drew
      have ht3 : Turn [K.A, K.B] w1 (((w1.setCell ⟨K.B, k, none⟩ (.int .i64 c)).setCell ⟨K.A, k, none⟩ (.slice (some ⟨b, o, none⟩) n cap)).drew) := h3.2.drewN 1
      rw [← hw3] at hs3 ht3
      clear h3
      have H3 := Lib.hid hs3
      have T3 := Lib.hid ht3
      clear hs3 ht3 hw3
      have d2 : w3.cell? ⟨K.s, 2, none⟩ = some (.pointer (some ⟨K.q, 0, none⟩)) := H3.out.head.cell 2
      have hp := qpush_calls H3.out.queue ⟨c, (m : Int), (k : Int)⟩ H3.out.bel.size
      rw [show (Value.agg (itL ⟨c, (m : Int), (k : Int)⟩).toArray) = .agg #[.int .i64 c, .int .i64 (m : Int), .int .i64 (k : Int)] from rfl] at hp
      unfold QPushPost at hp
      rw [if_neg (show ¬ 1024 ≤ Q.length by have := HQ.out; omega), if_neg (show ¬ 1024 ≤ Q.length by have := HQ.out; omega)] at hp
      have HP := Lib.hid hp
      clear hp
      go_wp2_with fail
      ((with_reducible refine HP.out.mono ?_))
      rintro e w4 ⟨rfl, g4, hq4, ht4, hg4⟩
      go_wp2
      go_end0
      have hm1 : (r.length : Int) - 1 = (m : Int) := by have := HR.out; have := HM.out; omega
      refine ⟨rfl, g4, ?_, fun i hi => ?_, .inr ⟨HYES.out, ?_⟩⟩
      · have f1 : Fr K w g w1 g := Fr.of_below B1.out
        have f2 : Fr K w1 g w3 g := ⟨turn_more T3.out (by simp), .inl rfl⟩
        have f3 : Fr K w3 g w4 g4 := ⟨turn_more ht4 (by simp), hg4⟩
        exact (f1.trans f2).trans f3
      · have h4 := H3.out.turn ht4 hq4
        refine ⟨?_, ?_⟩
        · rw [h4.costs.cell i, H.out.costs.cell i, List.map_set, List.getElem?_set_ne (Ne.symm hi)]
        · rw [h4.routes.cell i, H.out.routes.cell i, List.map_set, List.getElem?_set_ne (Ne.symm hi)]
      · rw [hm1]
        exact ⟨_, _, H3.out.turn ht4 hq4⟩
    | some p =>
      obtain ⟨c1, r1⟩ := p
      obtain ⟨e1, hc1, hyn, hy1, hya, _⟩ := hnote
      replace hyn : yn = r1.length := hyn
      replace hy1 : 1 ≤ yn ∧ yn ≤ 1073741824 := hy1
      subst e1
      have yrow := AccR.row hya
      rw [← hyn] at yrow
      have hbet := fun W (hW : Below w.heap.size w W) => better_ok c co (some ⟨b, o, none⟩) ya n yn cap yc r r1 W ((HROW.out.below hW).more hW.size) ((yrow.below hW).more hW.size) (by omega) (by omega)
      rw [show decide (bet (c, r) (co, r1)) = true from decide_eq_true (HYES.out _ HSAT.out)] at hbet
      have HBET := Lib.hid hbet
      have q1 : (co == -1) = false := by simp; omega
      have q2 : (co != -1) = true := by simp; omega
      have q3 : decide (co = -1) = false := by simp; omega
      clear hc1 hyn hya yrow hbet
      go_enter Try.func44, Try.ntmps44
      go_wp2_with fail
      refine region_seq (fun W => Below w.heap.size w W) [(0, true), (1, true), (2, true), (3, true), (4, true), (5, true), (6, true), (7, true), (8, true), (9, true), (10, true), (11, true), (12, true), (13, true), (14, true), (15, true), (16, true), (17, true), (18, true), (19, true), (20, true), (21, true), (22, true), (23, true), (24, true), (25, false), (26, true), (27, true)]
        (by kernel_rfl) (by kernel_rfl) (by kernel_rfl) (by kernel_rfl) (fun _ _ _ _ _ h => h) (Below.refl _ _).drew ?_
      repeat
        refine seq_pure (v := ?_) rfl (by rfl) (fun W hW => ?_) ?_
        rotate_left
        · obtain ⟨t0, t1, t2, t3⟩ := SS.out W hW
          clear hW
          go_simp
          with_reducible rfl
        simp only [Act.put, List.setIfInBounds_toArray, List.set_cons_zero, List.set_cons_succ]
      refine seq_make rfl (by rfl) (fun K' hK' => ?_)
      go_simp
      ((with_reducible refine (HBET.out w.drew (Below.refl _ _).drew).mono ?_))
      rintro e w1 ⟨rfl, hb1⟩
      have B1 := Lib.hid (show Below w.heap.size w w1 from below_of_drew hb1)
      clear hb1
      go_simp
      refine hK' _ _ (fun W => Below w.heap.size w W) (fun W h => h) B1.out ?_
      clear hK' K'
      repeat
        refine seq_pure (v := ?_) rfl (by rfl) (fun W hW => ?_) ?_
        rotate_left
        · clear hW
          go_simp
          with_reducible rfl
        simp only [Act.put, List.setIfInBounds_toArray, List.set_cons_zero, List.set_cons_succ]
      refine seq_done ?_
      clear q1 q2 q3
      have H1 := Lib.hid (H.out.below B1.out)
      have A1 := Lib.hid (show AccI w1 w0.heap.size (some ⟨b, o, none⟩) cap r from AccR.bel HA.out B1.out)
      have d0 : w1.cell? ⟨K.s, 0, none⟩ = some (.slice (some ⟨K.A, 0, none⟩) K.N K.N) := (SS.out w1 B1.out).1
      have d1 : w1.cell? ⟨K.s, 1, none⟩ = some (.slice (some ⟨K.B, 0, none⟩) K.N K.N) := (SS.out w1 B1.out).2.1
      have d2 := (SS.out w1 B1.out).2.2.1
      have d3 := (SS.out w1 B1.out).2.2.2
      have f2 := H1.out.costs.free k
      have f3 := H1.out.routes.free k
      obtain ⟨⟨a1, a2, _⟩, ⟨a3, _⟩, _⟩ := H1.out.apart
      have hsx := H1.out.store (k := k) ⟨some ⟨b, o, none⟩, n, cap⟩ c r HC.out (by rw [HR.out]) ⟨hn1, hn2⟩ A1.out HBN.out
      have hS2 : ∀ W, Blk W K.s 113 [.slice (some ⟨K.A, 0, none⟩) K.N K.N, .slice (some ⟨K.B, 0, none⟩) K.N K.N, .pointer (some ⟨K.q, 0, none⟩)] → W.cell? ⟨K.s, 0, none⟩ = some (.slice (some ⟨K.A, 0, none⟩) K.N K.N) ∧ W.cell? ⟨K.s, 1, none⟩ = some (.slice (some ⟨K.B, 0, none⟩) K.N K.N) := fun W hW => ⟨hW.cell 0, hW.cell 1⟩
      have S2 := Lib.hid hS2
      have HSX := Lib.hid hsx
      have HD2 := Lib.hid (H1.out.head.other (p := ⟨K.B, k, none⟩) (Ne.symm a2) (.int .i64 c))
      have HD3 := Lib.hid ((H1.out.head.other (p := ⟨K.B, k, none⟩) (Ne.symm a2) (.int .i64 c)).other (p := ⟨K.A, k, none⟩) (Ne.symm a1) (.slice (some ⟨b, o, none⟩) n cap))
      have hra := H1.out.routes.other (p := ⟨K.B, k, none⟩) (Ne.symm a3) (.int .i64 c)
      have g3 := hra.free k
      have g4 : (w1.setCell ⟨K.B, k, none⟩ (.int .i64 c)).cell? ⟨K.A, k, none⟩ = some (.slice ya yn yc) := (hra.cell k).trans ((H1.out.routes.cell k).symm.trans d3)
      have G3 := Lib.hid (And.intro g3 g4)
      clear hsx hS2 hra d0 d1 cs0 cs1 cs2 a1 a2 a3 g3 g4 f3 d3
      go_wp2_with fail
      refine region_seq (fun W => Blk W K.s 113 [.slice (some ⟨K.A, 0, none⟩) K.N K.N, .slice (some ⟨K.B, 0, none⟩) K.N K.N, .pointer (some ⟨K.q, 0, none⟩)]) [(0, true), (1, true), (2, true), (3, true), (4, true), (5, true), (6, true), (7, true), (8, true), (9, true), (10, true), (11, true), (12, true), (13, false), (14, true), (15, false)]
        (by kernel_rfl) (by kernel_rfl) (by kernel_rfl) (by kernel_rfl) (fun _ _ _ _ _ h => h) H1.out.head ?_
      repeat
        refine seq_pure (v := ?_) rfl (by rfl) (fun W hW => ?_) ?_
        rotate_left
        · obtain ⟨t0, t1⟩ := S2.out W hW
          clear hW
          go_simp
          with_reducible rfl
        simp only [Act.put, List.setIfInBounds_toArray, List.set_cons_zero, List.set_cons_succ]
      refine seq_make rfl (by rfl) (fun K' hK' => ?_)
      go_simp
      refine hK' _ _ (fun W => Blk W K.s 113 [.slice (some ⟨K.A, 0, none⟩) K.N K.N, .slice (some ⟨K.B, 0, none⟩) K.N K.N, .pointer (some ⟨K.q, 0, none⟩)]) (fun W h => h) HD2.out ?_
      clear hK' K' d2 f2
      repeat
        refine seq_pure (v := ?_) rfl (by rfl) (fun W hW => ?_) ?_
        rotate_left
        · obtain ⟨t0, t1⟩ := S2.out W hW
          clear hW
          go_simp
          with_reducible rfl
        simp only [Act.put, List.setIfInBounds_toArray, List.set_cons_zero, List.set_cons_succ]
      have g3 := G3.out.1
      have g4 := G3.out.2
      refine seq_make rfl (by rfl) (fun K' hK' => ?_)
      go_simp
      refine hK' _ _ (fun W => Blk W K.s 113 [.slice (some ⟨K.A, 0, none⟩) K.N K.N, .slice (some ⟨K.B, 0, none⟩) K.N K.N, .pointer (some ⟨K.q, 0, none⟩)]) (fun W h => h) HD3.out ?_
      clear hK' K' g3 g4
      refine seq_done ?_
      obtain ⟨w3, hw3⟩ : ∃ w3, w3 = ((w1.setCell ⟨K.B, k, none⟩ (.int .i64 c)).setCell ⟨K.A, k, none⟩ (.slice (some ⟨b, o, none⟩) n cap)).drew := ⟨_, rfl⟩
      rw [← hw3]
      have h3 := HSX.out
      rw [show rv ⟨some ⟨b, o, none⟩, n, cap⟩ = .slice (some ⟨b, o, none⟩) n cap from rfl] at h3
      have hs3 := h3.1.drew
      have ht3 : Turn [K.A, K.B] w1 (((w1.setCell ⟨K.B, k, none⟩ (.int .i64 c)).setCell ⟨K.A, k, none⟩ (.slice (some ⟨b, o, none⟩) n cap)).drew) := h3.2.drewN 1
      rw [← hw3] at hs3 ht3
      clear h3
      have H3 := Lib.hid hs3
      have T3 := Lib.hid ht3
      clear hs3 ht3 hw3
      have d2 : w3.cell? ⟨K.s, 2, none⟩ = some (.pointer (some ⟨K.q, 0, none⟩)) := H3.out.head.cell 2
      have hp := qpush_calls H3.out.queue ⟨c, (m : Int), (k : Int)⟩ H3.out.bel.size
      rw [show (Value.agg (itL ⟨c, (m : Int), (k : Int)⟩).toArray) = .agg #[.int .i64 c, .int .i64 (m : Int), .int .i64 (k : Int)] from rfl] at hp
      unfold QPushPost at hp
      rw [if_neg (show ¬ 1024 ≤ Q.length by have := HQ.out; omega), if_neg (show ¬ 1024 ≤ Q.length by have := HQ.out; omega)] at hp
      have HP := Lib.hid hp
      clear hp
      go_wp2_with fail
      ((with_reducible refine HP.out.mono ?_))
      rintro e w4 ⟨rfl, g4, hq4, ht4, hg4⟩
      go_wp2
      go_end0
      have hm1 : (r.length : Int) - 1 = (m : Int) := by have := HR.out; have := HM.out; omega
      refine ⟨rfl, g4, ?_, fun i hi => ?_, .inr ⟨HYES.out, ?_⟩⟩
      · have f1 : Fr K w g w1 g := Fr.of_below B1.out
        have f2 : Fr K w1 g w3 g := ⟨turn_more T3.out (by simp), .inl rfl⟩
        have f3 : Fr K w3 g w4 g4 := ⟨turn_more ht4 (by simp), hg4⟩
        exact (f1.trans f2).trans f3
      · have h4 := H3.out.turn ht4 hq4
        refine ⟨?_, ?_⟩
        · rw [h4.costs.cell i, H.out.costs.cell i, List.map_set, List.getElem?_set_ne (Ne.symm hi)]
        · rw [h4.routes.cell i, H.out.routes.cell i, List.map_set, List.getElem?_set_ne (Ne.symm hi)]
      · rw [hm1]
        exact ⟨_, _, H3.out.turn ht4 hq4⟩
end Go.Proofs.Ytjflbfianncpfaa

namespace Go.Proofs.Ytjflbfianncpfaa
set_option maxRecDepth 100000
set_option linter.unusedVariables false
open Go.RowKit

/-- The links that were offered. -/
def offd (L : List Lk) (D : List Int) (o : List Int) (j : Nat) (z : Lk) : Prop := z.f ∈ D ∨ z ∈ (o.take j).map (fun y => L.getD y.toNat default)
/-- What leave leaves. -/
def LeavePost (w0 w : World) (K : Sk) (g : Nat) (n : Int) (L : List Lk) (a : Int) (D : List Int) (k x : Int) (ub : Nat) (e : Ending) (w' : World) : Prop :=
  e = .returned (.tuple #[]) ∧ ∃ g' S' Q', Fr K w g w' g' ∧ Sy w0 w' K g' S' Q' ∧ Djk n L a S' Q' (x :: D) (fun z => z.f ∈ x :: D) k ∧ Q'.length + rest L (x :: D) ≤ ub
/-- The search between two links. -/
def MidL (w0 w1 : World) (K : Sk) (g : Nat) (n : Int) (L : List Lk) (a : Int) (D : List Int) (k x : Int) (o : List Int) (ql : Nat) (j : Nat) (W : World) : Prop :=
  ∃ g' S' Q', Fr K w1 g W g' ∧ Sy w0 W K g' S' Q' ∧ Djk n L a S' Q' (x :: D) (offd L D o j) k ∧ (x ∉ D → ∃ r, sat S' x = some (k, r)) ∧ (x ∈ D → Q'.length ≤ ql) ∧ Q'.length ≤ ql + j
theorem offd_step {L : List Lk} {D o : List Int} {j : Nat} {y : Int} (h : o[j]? = some y) (z : Lk) : offd L D o (j + 1) z → offd L D o j z ∨ z = L.getD y.toNat default := by
  unfold offd
  rw [List.take_add_one, h, List.map_append, List.mem_append]
  rintro (h | h | h)
  · exact .inl (.inl h)
  · exact .inl (.inr h)
  · exact .inr (by simpa using h)

/-- What is read for one link. -/
def ReadOk (W : World) (K : Sk) (xn : Nat) (co : Int) (ya : Option Addr) (yn yc b7 o1 o3 : Nat) (tn zm : Int) : Prop :=
  W.cell? ⟨K.s, 0, none⟩ = some (.slice (some ⟨K.A, 0, none⟩) K.N K.N) ∧ W.cell? ⟨K.s, 1, none⟩ = some (.slice (some ⟨K.B, 0, none⟩) K.N K.N) ∧ W.cell? ⟨K.B, xn, none⟩ = some (.int .i64 co) ∧ W.cell? ⟨K.A, xn, none⟩ = some (.slice ya yn yc) ∧ W.cell? ⟨b7, o1, none⟩ = some (.int .i64 tn) ∧ W.cell? ⟨b7, o3, none⟩ = some (.int .i64 zm)

set_option maxHeartbeats 4000000 in
theorem leave_calls {w0 w : World} {K : Sk} {g : Nat} {S : List (Option (Int × List Int))} {Q : List Itm} (h : Sy w0 w K g S Q) {n a : Int} {L : List Lk} {D : List Int} {k x : Int} (hL : NetOk n L) (hne : ∀ z ∈ L, z.f ≠ z.t) (ha : 0 ≤ a ∧ a < n) (hn : n ≤ 16) (hL64 : L.length ≤ 64)
    (p : Option Addr) (m cl : Nat) (hR : Row lkc w0 w0.heap.size p m L) (hx0 : 0 ≤ x) (hx1 : x < n) (hN : (K.N : Int) = n) (hD : Djk n L a S Q (x :: D) (fun z => z.f ∈ D) k) (hfr : x ∉ D → ∃ r, sat S x = some (k, r)) (hlen : Q.length + rest L D ≤ 1000) :
    Calls Try.prog 45 #[.pointer (some ⟨K.s, 0, none⟩), .int .i64 x, .slice p m cl] w (LeavePost w0 w K g n L a D k x (Q.length + rest L D)) := by
  obtain ⟨xn, rfl⟩ : ∃ i : Nat, x = (i : Int) := ⟨x.toNat, by omega⟩
  have hbel : Below w0.heap.size w0 w := by obtain ⟨RS, C, hs⟩ := h; exact hs.bel
  have hm := hR.1
  have hRw : Row lkc w w.heap.size p m L := (hR.below hbel).more hbel.size
  have hout := outs_calls (xn : Int) p m cl L w hRw (by omega)
  have H0 := Lib.hid h
  have HL := Lib.hid hL
  have HNE := Lib.hid hne
  have HA := Lib.hid ha
  have HN := Lib.hid hN
  have HR := Lib.hid hR
  have HD := Lib.hid hD
  have HF := Lib.hid hfr
  have HLEN := Lib.hid hlen
  have HM := Lib.hid hm
  have HX := Lib.hid hx1
  have H16 := Lib.hid hn
  clear h hL hne ha hN hR hD hfr hlen hm hx0 hx1 hbel hRw hn
  go_enter Try.func45, Try.ntmps45
  go_wp2_with fail
  refine hout.mono ?_
  rintro e w1 ⟨o, A5, c5, rfl, a5, ho, b5⟩
  have HO := Lib.hid ho
  have A1 := Lib.hid a5
  have B1 := Lib.hid b5
  have F1 := Lib.hid (show Fr K w g w1 g from Fr.of_below b5)
  have H1 := Lib.hid (show Sy w0 w1 K g S Q from by obtain ⟨RS, C, hs⟩ := H0.out; exact ⟨RS, C, hs.below b5⟩)
  have hol : o.length ≤ 64 := by have := ho.count; have := List.countP_le_length (p := fun z : Lk => z.f == (xn : Int)) (l := L); omega
  have hcnt := ho.count
  have OFF := Lib.hid (show ∀ y, blk A5 = some y → y ≠ K.A ∧ y ≠ K.B ∧ y ≠ K.p ∧ y ≠ g from fun y hy => by
    obtain ⟨RS, C, hs⟩ := H0.out
    have h1 := (AccR.ge a5 hy).1
    have h2 := hs.routes.lt
    have h3 := hs.costs.lt
    have h4 := hs.queue.lt
    omega)
  have HCNT := Lib.hid hcnt
  clear a5 ho b5 hout hcnt
  go_wp2_with fail
  go_loopw [12] (fun t W => ∃ j : Nat, j ≤ o.length ∧ t = .int .i64 (j : Int) ∧ MidL w0 w1 K g n L a D k (xn : Int) o Q.length j W) (fun t W => o.length - (intOf t).toNat)
  case atStart =>
    refine ⟨0, Nat.zero_le _, rfl, g, S, Q, Fr.refl _ _ _, H1.out, HD.out.less (fun z _ hz => ?_), HF.out, fun _ => Nat.le_refl _, by omega⟩
    rcases hz with hz | hz
    · exact hz
    · simp at hz
  case round =>
    obtain ⟨j, hj, rfl, g', S', Q', hfr, hsy, hdj, hx, hq1, hq2⟩ := hrel
    have F2 := Lib.hid hfr
    have DJ := Lib.hid hdj
    have HX2 := Lib.hid hx
    have HQ := Lib.hid (And.intro hq1 hq2)
    obtain ⟨RS, C, hs⟩ := hsy
    have H2 := Lib.hid hs
    have A2 := Lib.hid (show AccI wr w.heap.size A5 c5 o from Fr.acci hfr A1.out OFF.out)
    clear hfr hdj hx hq1 hq2 hs
    by_cases hlt : j < o.length
    · obtain ⟨y, hy⟩ : ∃ y, o[j]? = some y := ⟨_, List.getElem?_eq_getElem hlt⟩
      obtain ⟨y0, y1, hzL, hzf⟩ := HO.out.link hy
      obtain ⟨kk, rfl⟩ : ∃ i : Nat, y = (i : Int) := ⟨y.toNat, by omega⟩
      rw [Int.toNat_natCast] at hzL hzf
      have hkL : kk < L.length := by omega
      obtain ⟨b6, o6, rfl, hb6, hc6⟩ := row_int (AccR.row A2.out) (by omega)
      have d1 : wr.cell? ⟨b6, o6 + j, none⟩ = some (.int .i64 (kk : Int)) := by
        rw [hc6 j hlt]
        rw [List.getElem?_eq_getElem hlt] at hy
        injection hy with hy
        rw [hy]
      have hRw : Row lkc wr w0.heap.size p m L := HR.out.below H2.out.bel
      obtain ⟨b7, o7, rfl, hb7, hc7⟩ := row_link hRw (by have := HM.out; omega)
      have hat := hc7 kk hkL
      have hze : L[kk] = L.getD kk default := by simp [List.getD_eq_getElem?_getD, List.getElem?_eq_getElem hkL]
      rw [hze] at hat
      obtain ⟨z, hz⟩ : ∃ z, z = L.getD kk default := ⟨_, rfl⟩
      rw [← hz] at hat hzL hzf
      obtain ⟨_, l1, _, l3, _⟩ := link_cells hat
      have hnz := HL.out z hzL
      have hnt := HNE.out z hzL
      obtain ⟨tn, htn⟩ : ∃ i : Nat, z.t = (i : Int) := ⟨z.t.toNat, by omega⟩
      obtain ⟨zf, zt, zc, zm, zg⟩ := z
      simp only at hzf htn hnz hnt l1 l3
      subst hzf
      subst htn
      -- what is noted of the node itself
      obtain ⟨_, _, cx, rx, hsx, hcx⟩ := DJ.out.done (xn : Int) (List.mem_cons_self ..)
      have hwy := DJ.out.way (xn : Int) cx rx (by omega) HX.out hsx
      have hcost := hwy.cost HL.out
      have hshort := hwy.short HL.out HA.out
      have hxN : xn < K.N := by have := HN.out; have := HX.out; omega
      have htN : tn < K.N := by have := HN.out; omega
      have h16 := H16.out
      have kR : xn < RS.length := by rw [H2.out.lr]; exact hxN
      have kC : xn < C.length := by rw [H2.out.lc]; exact hxN
      have kS : xn < S'.length := by rw [H2.out.ls]; exact hxN
      have hxr : RS[xn]? = some RS[xn] := List.getElem?_eq_getElem kR
      have hxc : C[xn]? = some C[xn] := List.getElem?_eq_getElem kC
      have hxs : S'[xn]? = some (some (cx, rx)) := by
        unfold sat at hsx
        rw [Int.toNat_natCast, List.getD_eq_getElem?_getD, List.getElem?_eq_getElem kS] at hsx
        rw [List.getElem?_eq_getElem kS]
        simpa using hsx
      have hnote := H2.out.ok xn _ _ _ hxr hxc hxs
      have hbc : wr.cell? ⟨K.B, xn, none⟩ = some (.int .i64 C[xn]) := by rw [H2.out.costs.cell xn, List.getElem?_map, hxc]; rfl
      have hac : wr.cell? ⟨K.A, xn, none⟩ = some (rv RS[xn]) := by rw [H2.out.routes.cell xn, List.getElem?_map, hxr]; rfl
      generalize RS[xn] = ys at hnote hac
      generalize C[xn] = co at hnote hbc
      obtain ⟨ya, yn, yc⟩ := ys
      obtain ⟨e1, hc0, hyn, hy1, hya, _⟩ := hnote
      subst e1
      replace hyn : yn = rx.length := hyn
      replace hy1 : 1 ≤ yn ∧ yn ≤ 1073741824 := hy1
      replace hya : AccI wr w0.heap.size ya yc rx := hya
      have hac' : wr.cell? ⟨K.A, xn, none⟩ = some (.slice ya yn yc) := hac
      have hcap := (AccR.cap hya).1
      have yrow := AccR.row hya
      rw [← hyn] at yrow hcap
      have YROW := Lib.hid yrow
      have hs0 : wr.cell? ⟨K.s, 0, none⟩ = some (.slice (some ⟨K.A, 0, none⟩) K.N K.N) := H2.out.head.cell 0
      have hs1 : wr.cell? ⟨K.s, 1, none⟩ = some (.slice (some ⟨K.B, 0, none⟩) K.N K.N) := H2.out.head.cell 1
      have hb6' : b6 < wr.heap.size := hb6
      have hb7' : b7 < wr.heap.size := Nat.lt_of_lt_of_le hb7 H2.out.bel.size
      have SS := Lib.hid (show ∀ W, Below wr.heap.size wr W → ReadOk W K xn co ya yn yc b7 (o7 + kk * 5 + 1) (o7 + kk * 5 + 3) (tn : Int) zm from fun W hW =>
        ⟨(hW.cell (p := ⟨K.s, 0, none⟩) H2.out.head.lt).trans hs0, (hW.cell (p := ⟨K.s, 1, none⟩) H2.out.head.lt).trans hs1, (hW.cell (p := ⟨K.B, xn, none⟩) H2.out.costs.lt).trans hbc, (hW.cell (p := ⟨K.A, xn, none⟩) H2.out.routes.lt).trans hac', (hW.cell (p := ⟨b7, o7 + kk * 5 + 1, none⟩) hb7').trans l1, (hW.cell (p := ⟨b7, o7 + kk * 5 + 3, none⟩) hb7').trans l3⟩)
      have i0 : (j : Int) < (o.length : Int) := by omega
      have i1 : (xn : Int) < (K.N : Int) := by omega
      have i2 : (kk : Int) < (m : Int) := by have := HM.out; omega
      have hco : co ≤ 1099511627776 := by omega
      have hzm : 1 ≤ zm ∧ zm ≤ 65535 := hnz.2.2.2.2
      have HZ := Lib.hid (And.intro hz hzL)
      have HY := Lib.hid hy
      have HSX := Lib.hid hsx
      have HYN := Lib.hid hyn
      have HC0 := Lib.hid hc0
      have hy16 : yn ≤ 16 := by omega
      have HTN := Lib.hid htN
      have HNZ := Lib.hid hnz
      have HCAP := Lib.hid hcap
      have HNT := Lib.hid (show xn ≠ tn by omega)
      have HLO := Lib.hid (And.intro hb7 (And.intro H2.out.costs.lt (And.intro l1 l3)))
      have hy2 := hy1.1
      clear hz hzL hnz hnt hat hze hc7 hRw hc6 hsx hcx hwy hcost hshort hxN htN h16 kR kC kS hxr hxc hxs hbc hac hac' hcap yrow hs0 hs1 hb6 hb6' hb7 hb7' hy y0 y1 hya hyn l1 l3 hy1 A1
      go_wp2_with fail
      refine region_seq (fun W => ReadOk W K xn co ya yn yc b7 (o7 + kk * 5 + 1) (o7 + kk * 5 + 3) (tn : Int) zm) [(0, true), (1, true), (2, true), (3, true), (4, true), (5, true), (6, true), (7, true), (8, true), (9, true), (10, true), (11, true), (12, true), (13, true), (14, true), (15, true), (16, true), (17, true), (18, true), (19, true), (20, true), (21, true), (22, true), (23, true), (24, true), (25, true), (26, false), (27, false)]
        (by kernel_rfl) (by kernel_rfl) (by kernel_rfl) (by kernel_rfl) (fun _ _ _ _ _ h => h) (SS.out _ (Below.refl _ _).drew) ?_
      repeat
        refine seq_pure (v := ?_) rfl (by rfl) (fun W hW => ?_) ?_
        rotate_left
        · obtain ⟨t0, t1, t2, t3, t4, t5⟩ := hW
          go_simp
          with_reducible rfl
        simp only [Act.put, List.setIfInBounds_toArray, List.set_cons_zero, List.set_cons_succ]
      refine seq_make rfl (by rfl) (fun K' hK' => ?_)
      go_simp
      ((with_reducible refine (extend11_calls ya yn yc rx (tn : Int) wr.drew (Row.drewS YROW.out) hy2 HCAP.out (by omega)).mono ?_))
      rintro e w5 ⟨A9, c9, he, a9, hb5⟩
      rw [← HYN.out] at he
      subst he
      have B5 := Lib.hid (show Below wr.heap.size wr w5 from below_of_drew hb5)
      have H5 := Lib.hid (H2.out.below B5.out)
      have A9' := Lib.hid (show AccI w5 wr.heap.size A9 c9 (rx ++ [(tn : Int)]) from a9)
      clear a9 hb5
      go_simp
      refine hK' _ _ (fun W => ReadOk W K xn co ya yn yc b7 (o7 + kk * 5 + 1) (o7 + kk * 5 + 3) (tn : Int) zm) (fun W h => h) (SS.out _ B5.out) ?_
      clear hK' K'
      have hrr : (rx ++ [(tn : Int)]).length = yn + 1 := by simp [HYN.out]
      have hql : Q'.length < 1024 := by
        have h1 := HLEN.out
        have h2 := HQ.out.2
        have h3 := HCNT.out
        by_cases hxd : (xn : Int) ∈ D
        · have := HQ.out.1 hxd; omega
        · have := rest_new L hxd; omega
      have hoff := offer_calls (w0 := w0) (w := w5) (K := K) (g := g') (S := S') (Q := Q') ⟨RS, C, H5.out⟩ A9 (yn + 1) c9 (co + zm) (rx ++ [(tn : Int)]) tn (AccR.lower A9'.out H2.out.bel.size) hrr (by omega) (by omega)
        (by rw [Nat.add_sub_cancel, HYN.out]; simp) HTN.out (by have := HC0.out; omega) (fun b hb => by have h1 := (AccR.ge A9'.out hb).1; have h2 := HLO.out.2.1; omega) hql
      have HOFF := Lib.hid hoff
      clear hrr hql hoff
      have hwr : IntKind.i64.wrap (co + zm) = co + zm := by rw [IntKind.wrap_i64]; omega
      refine seq_make rfl (by rfl) (fun K' hK' => ?_)
      go_simp
      ((with_reducible refine HOFF.out.mono ?_))
      rintro e w6 ⟨rfl, g6, hf6, hc6, hcase⟩
      have F6 := Lib.hid ((F2.out.trans (Fr.of_below B5.out)).trans hf6)
      have hb6 : Below w0.heap.size w0 w6 := by rcases hcase with ⟨_, _, _, _, _, h⟩ | ⟨_, _, _, h⟩ <;> exact h.bel
      have hd6 : Blk w6 K.s 113 [.slice (some ⟨K.A, 0, none⟩) K.N K.N, .slice (some ⟨K.B, 0, none⟩) K.N K.N, .pointer (some ⟨K.q, 0, none⟩)] := by rcases hcase with ⟨_, _, _, _, _, h⟩ | ⟨_, _, _, h⟩ <;> exact h.head
      have hrd := SS.out _ B5.out
      have R6 := Lib.hid (show ReadOk w6 K xn co ya yn yc b7 (o7 + kk * 5 + 1) (o7 + kk * 5 + 3) (tn : Int) zm from
        ⟨hd6.cell 0, hd6.cell 1, (hc6 xn HNT.out).1.trans hrd.2.2.1, (hc6 xn HNT.out).2.trans hrd.2.2.2.1, ((hb6.cell (p := ⟨b7, o7 + kk * 5 + 1, none⟩) HLO.out.1).trans (H2.out.bel.cell (p := ⟨b7, o7 + kk * 5 + 1, none⟩) HLO.out.1).symm).trans HLO.out.2.2.1,
          ((hb6.cell (p := ⟨b7, o7 + kk * 5 + 3, none⟩) HLO.out.1).trans (H2.out.bel.cell (p := ⟨b7, o7 + kk * 5 + 3, none⟩) HLO.out.1).symm).trans HLO.out.2.2.2⟩)
      have CASE := Lib.hid hcase
      clear hf6 hc6 hcase hb6 hd6 hrd
      go_simp
      refine hK' _ _ (fun W => ReadOk W K xn co ya yn yc b7 (o7 + kk * 5 + 1) (o7 + kk * 5 + 3) (tn : Int) zm) (fun W h => h) R6.out ?_
      clear hK' K'
      refine seq_done ?_
      have hyk : o[j]? = some (kk : Int) := HY.out
      have hmid : MidL w0 w1 K g n L a D k (xn : Int) o Q.length (j + 1) w6 := by
        have hgk : L.getD ((kk : Int)).toNat default = ⟨(xn : Int), (tn : Int), zc, zm, zg⟩ := by rw [Int.toNat_natCast]; exact HZ.out.1.symm
        have hsat := HSX.out
        rcases CASE.out with ⟨p', hp', hnb, hsy⟩ | ⟨hyes, hsy⟩
        · refine ⟨g6, S', Q', F6.out, hsy, (DJ.out.no (z := ⟨(xn : Int), (tn : Int), zc, zm, zg⟩) hsat (List.mem_cons_self ..) hp' hnb).less (fun z hz hF => ?_), HX2.out, HQ.out.1, by have := HQ.out.2; omega⟩
          have := offd_step hyk z hF
          rw [hgk] at this
          exact this
        · have hk' : co = k ∨ offd L D o j ⟨(xn : Int), (tn : Int), zc, zm, zg⟩ := by
            by_cases hxd : (xn : Int) ∈ D
            · exact .inr (.inl hxd)
            · obtain ⟨r', hr'⟩ := HX2.out hxd
              rw [hsat] at hr'
              injection hr' with hr'
              injection hr' with e1 _
              exact .inl e1
          obtain ⟨hnF, htD, hdj⟩ := DJ.out.yes HL.out HA.out (z := ⟨(xn : Int), (tn : Int), zc, zm, zg⟩) HZ.out.2 hsat (List.mem_cons_self ..) hk' hyes (((rx ++ [(tn : Int)]).length : Int) - 1)
          have hxd : (xn : Int) ∉ D := fun hm => hnF (.inl hm)
          refine ⟨g6, _, _, F6.out, hsy, hdj.less (fun z hz hF => ?_), fun hx => ?_, fun hx => absurd hx hxd, by rw [insQ_length]; have := HQ.out.2; omega⟩
          · have := offd_step hyk z hF
            rw [hgk] at this
            exact this
          · obtain ⟨r', hr'⟩ := HX2.out hx
            refine ⟨r', ?_⟩
            have h1 := sat_set (S := S') (t := (tn : Int)) (some (co + zm, rx ++ [(tn : Int)])) (xn : Int) ⟨by omega, by rw [DJ.out.len]; exact HNZ.out.2.2.2.1⟩ (by omega)
            rw [Int.toNat_natCast] at h1
            rw [h1, if_neg (by have := HNT.out; omega)]
            exact hr'
      have HMID := Lib.hid hmid
      clear hmid hyk
      go_wp2_with fail
      go_roundw
      case rel => exact ⟨j + 1, by omega, rfl, HMID.out⟩
      case measure => simp [intOf]; omega
    · obtain rfl : j = o.length := by omega
      have i1 : ¬ (o.length : Int) < (o.length : Int) := by omega
      go_wp2
      go_end0
      refine ⟨rfl, g', S', Q', (Fr.of_below B1.out).trans F2.out, ⟨RS, C, H2.out⟩, DJ.out.less (fun z hz hF => ?_), ?_⟩
      · rcases List.mem_cons.1 hF with hF | hF
        · right
          rw [List.take_length]
          exact HO.out.all hz hF
        · exact .inl hF
      · have h3 := HCNT.out
        by_cases hxd : (xn : Int) ∈ D
        · rw [rest_old L hxd]
          have := HQ.out.1 hxd
          omega
        · have := rest_new L hxd
          have := HQ.out.2
          omega
end Go.Proofs.Ytjflbfianncpfaa

namespace Go.Proofs.Ytjflbfianncpfaa
set_option maxRecDepth 100000
set_option linter.unusedVariables false
open Go.RowKit

theorem make_ints11 (n : Nat) (hn : n ≤ 1099511627776) (W : World) : (Instr.makeSlice 29 (.int .i64 (n : Int)) (.int .i64 (n : Int))).run Try.prog W =
      .ok (.slice (some ⟨W.heap.size, 0, none⟩) n n) (W.alloc (.cells (Array.replicate n (Value.int .i64 0)) 3)) := by
  obtain ⟨i, hi, hzz⟩ := Option.map_eq_some_iff.1 infoInt
  simp only [Prod.mk.injEq] at hzz
  obtain ⟨hz, hs, hb⟩ := hzz
  have h := run_make (P := Try.prog) W 29 3 i (.int .i64 0) Try.underlying29 hi hz .i64 .i64 (n : Int) (n : Int) (by omega) (by omega) (by rw [hb]; omega) (by omega)
  simp only [hs, Nat.mul_one, Int.toNat_natCast] at h
  rw [h]
  have e : (Value.int .i64 0).cells = #[.int .i64 0] := rfl
  rw [e]
  congr 3
  apply Array.ext
  · simp [madeCells]
  · intro k h1 h2
    simp [madeCells, Nat.mod_one]
theorem infoInts : (Try.prog.info? 29).map (fun i => (i.zero, i.size, i.bytes)) = some (some (.slice none 0 0), 1, 24) := by kernel_rfl
theorem make_lists11 (n : Nat) (hn : n ≤ 1099511627776) (W : World) : (Instr.makeSlice 77 (.int .i64 (n : Int)) (.int .i64 (n : Int))).run Try.prog W =
      .ok (.slice (some ⟨W.heap.size, 0, none⟩) n n) (W.alloc (.cells (Array.replicate n (Value.slice none 0 0)) 29)) := by
  obtain ⟨i, hi, hzz⟩ := Option.map_eq_some_iff.1 infoInts
  simp only [Prod.mk.injEq] at hzz
  obtain ⟨hz, hs, hb⟩ := hzz
  have h := run_make (P := Try.prog) W 77 29 i (.slice none 0 0) Try.underlying77 hi hz .i64 .i64 (n : Int) (n : Int) (by omega) (by omega) (by rw [hb]; omega) (by omega)
  simp only [hs, Nat.mul_one, Int.toNat_natCast] at h
  rw [h]
  have e : (Value.slice none 0 0).cells = #[.slice none 0 0] := rfl
  rw [e]
  congr 3
  apply Array.ext
  · simp [madeCells]
  · intro k h1 h2
    simp [madeCells, Nat.mod_one]

theorem mul64_calls (N : Nat) (h : N ≤ 16) (w : World) : Calls Try.prog 89 #[.int .u64 1, .int .u64 (N : Int)] w fun e w' => e = .returned (.tuple #[.int .u64 0, .int .u64 (N : Int)]) ∧ w' = w := by
  have f1 : bits .and .u64 1 4294967295 = 1 := by kernel_rfl
  have f0 : bits .and .u64 0 4294967295 = 0 := by kernel_rfl
  have f2 : bits .and .u64 (N : Int) 4294967295 = (N : Int) := by
    have : N = 0 ∨ N = 1 ∨ N = 2 ∨ N = 3 ∨ N = 4 ∨ N = 5 ∨ N = 6 ∨ N = 7 ∨ N = 8 ∨ N = 9 ∨ N = 10 ∨ N = 11 ∨ N = 12 ∨ N = 13 ∨ N = 14 ∨ N = 15 ∨ N = 16 := by omega
    rcases this with rfl | rfl | rfl | rfl | rfl | rfl | rfl | rfl | rfl | rfl | rfl | rfl | rfl | rfl | rfl | rfl | rfl <;> rfl
  have f3 : (N : Int) / 4294967296 = 0 := by omega
  have f4 : IntKind.u64.wrap (N : Int) = (N : Int) := by
    have : N = 0 ∨ N = 1 ∨ N = 2 ∨ N = 3 ∨ N = 4 ∨ N = 5 ∨ N = 6 ∨ N = 7 ∨ N = 8 ∨ N = 9 ∨ N = 10 ∨ N = 11 ∨ N = 12 ∨ N = 13 ∨ N = 14 ∨ N = 15 ∨ N = 16 := by omega
    rcases this with rfl | rfl | rfl | rfl | rfl | rfl | rfl | rfl | rfl | rfl | rfl | rfl | rfl | rfl | rfl | rfl | rfl <;> rfl
  have f5 : IntKind.u64.wrap 0 = 0 := by kernel_rfl
  clear h
  go_enter Try.func89, Try.ntmps89
  go_wp2
  refine bodyPost_ret (v := .tuple #[.int .u64 0, .int .u64 (N : Int)]) (by simp [results, Try.results89, go_sem]) rfl ?_
  exact ⟨rfl, rfl⟩
theorem mul11_calls (N : Nat) (h : N ≤ 16) (w : World) : Calls Try.prog 79 #[.int .u64 1, .int .u64 (N : Int)] w fun e w' => e = .returned (.tuple #[.int .u64 0, .int .u64 (N : Int)]) ∧ w' = w := by
  have hm := mul64_calls N h w
  go_enter Try.func79, Try.ntmps79
  go_wp2_with fail
  ((with_reducible refine hm.mono ?_))
  rintro e w1 ⟨rfl, rfl⟩
  go_wp2
  refine bodyPost_ret (v := .tuple #[.int .u64 0, .int .u64 (N : Int)]) (by simp [results, Try.results79, go_sem]) rfl ?_
  exact ⟨rfl, rfl⟩

/-- What a block of so many numbers holds while it is filled. -/
def fil (i N : Nat) : List Value := List.replicate i (.int .i64 (-1)) ++ List.replicate (N - i) (.int .i64 0)
theorem fil_length {i N : Nat} (h : i ≤ N) : (fil i N).length = N := by unfold fil; simp; omega
theorem fil_copy {i N d : Nat} (h : i + d ≤ N) : (fil i N).take i ++ List.replicate d (.int .i64 (-1)) ++ (fil i N).drop (i + d) = fil (i + d) N := by
  unfold fil
  rw [List.take_append_of_le_length (by simp), List.take_of_length_le (by simp), List.drop_append, List.drop_of_length_le (by simp)]
  simp only [List.length_replicate, List.nil_append, List.drop_replicate]
  rw [show N - i - (i + d - i) = N - (i + d) by omega, List.replicate_append_replicate]
/-- One step of the filling. -/
theorem fil_run {W : World} {g i N d cD cS : Nat} (h : Blk W g 3 (fil i N)) (hi : i + d ≤ N) (hd : d = Nat.min i (N - i)) (ty : TypeId) :
    ∃ W', (Builtin.copy_ #[29, 29] ty #[.slice (some ⟨g, i, none⟩) (N - i) cD, .slice (some ⟨g, 0, none⟩) i cS]).run Try.prog W = .ok (.int .i64 (d : Int)) W' ∧ Blk W' g 3 (fil (i + d) N) ∧ W.grownBy W' (some g) := by
  have hlen := fil_length (i := i) (N := N) (by omega)
  have hcs : (List.replicate d (Value.int .i64 (-1))).length = d := by simp
  have hr := run_copy_row (P := Try.prog) W 29 29 ty 3 g i (N - i) cD ⟨g, 0, none⟩ i cS (fil i N).toArray 3 (List.replicate d (.int .i64 (-1))) Try.underlying29 (by kernel_rfl) h (by rw [hcs]; exact hd)
    (fun j v hj => by
      rw [add_plain, Nat.zero_add, h.cell j]
      rw [List.getElem?_replicate] at hj
      by_cases hjd : j < d
      · rw [if_pos hjd] at hj
        have hdi : d ≤ i := by rw [hd]; exact Nat.min_le_left ..
        have hji : j < i := by omega
        unfold fil
        rw [List.getElem?_append_left (by simpa using hji), List.getElem?_replicate, if_pos hji]
        exact hj
      · rw [if_neg hjd] at hj; cases hj) (by rw [hcs]; simp [hlen]; exact hi) (by intro v hv; rw [(List.mem_replicate.1 hv).2]; rfl)
  rw [hcs] at hr
  refine ⟨_, hr, ?_, ?_⟩
  · unfold Blk
    rw [setRow_heap W g _ _ 3 _ h, show (fil i N).toArray.toList = fil i N from rfl, fil_copy hi]
  · exact ⟨rfl, rfl, rfl, by simp [World.setRow], fun k hk hne => setRow_other W g k _ (fun e => hne (by rw [e]))⟩

/-- What Repeat leaves. -/
def RepPost (w : World) (N : Nat) (e : Ending) (w' : World) : Prop := ∃ g, e = .returned (.slice (some ⟨g, 0, none⟩) N N) ∧ Blk w' g 3 (List.replicate N (.int .i64 (-1))) ∧ w.heap.size ≤ g ∧ Below w.heap.size w w'
set_option maxHeartbeats 1600000 in
theorem repeat_calls (b N : Nat) (h1 : 1 ≤ N) (h2 : N ≤ 16) (w : World) (hx : Blk w b 3 [.int .i64 (-1)]) :
    Calls Try.prog 64 #[.slice (some ⟨b, 0, none⟩) 1 1, .int .i64 (N : Int)] w (RepPost w N) := by
  have hm := mul11_calls N h2 w
  have hmk := make_ints11 N (by omega) w
  obtain ⟨g, hg⟩ : ∃ g, g = w.heap.size := ⟨_, rfl⟩
  have g0 := Lib.hid (show Blk (w.alloc (.cells (Array.replicate N (Value.int .i64 0)) 3)) g 3 (List.replicate N (.int .i64 0)) by
    rw [hg, show Array.replicate N (Value.int .i64 0) = (List.replicate N (Value.int .i64 0)).toArray by simp]; exact Blk.new w _ _)
  have b0 := Lib.hid (bel_new (Below.refl w.heap.size w) (.cells (Array.replicate N (Value.int .i64 0)) 3))
  have x0 := Lib.hid (hx.alloc (.cells (Array.replicate N (Value.int .i64 0)) 3))
  have HG := Lib.hid hg
  have q0 : ¬ (N : Int) < 0 := by omega
  have q1 : (0 : Int) ≤ (N : Int) := by omega
  rw [← hg] at hmk
  clear hx hg
  go_enter Try.func64, Try.ntmps64
  go_wp2_with fail
  ((with_reducible refine hm.mono ?_))
  rintro e w1 ⟨rfl, rfl⟩
  clear hm
  go_upto_region 7 with fail
  generalize w1.alloc (.cells (Array.replicate N (Value.int .i64 0)) 3) = w2 at *
  have hcp : ∃ W', (Builtin.copy_ #[29, 29] 3 #[.slice (some ⟨g, 0, none⟩) N N, .slice (some ⟨b, 0, none⟩) 1 1]).run Try.prog w2 = .ok (.int .i64 1) W' ∧ Blk W' g 3 (fil 1 N) ∧ w2.grownBy W' (some g) := by
    have hr := run_copy_row (P := Try.prog) w2 29 29 3 3 g 0 N N ⟨b, 0, none⟩ 1 1 (List.replicate N (Value.int .i64 0)).toArray 3 [.int .i64 (-1)] Try.underlying29 (by kernel_rfl) g0.out (by simp [Nat.min_def]; omega)
      (fun j v hj => by rw [add_plain, Nat.zero_add, x0.out.cell j]; exact hj) (by simp; omega) (by intro v hv; simp at hv; subst hv; rfl)
    refine ⟨_, hr, ?_, ?_⟩
    · unfold Blk
      rw [setRow_heap w2 g _ _ 3 _ g0.out]
      unfold fil
      simp [List.drop_replicate]
    · exact ⟨rfl, rfl, rfl, by simp [World.setRow], fun k hk hne => setRow_other w2 g k _ (fun e => hne (by rw [e]))⟩
  obtain ⟨w3, r3, g3, gr3⟩ := hcp
  have G3 := Lib.hid g3
  have B3 := Lib.hid (show Below w1.heap.size w1 w3 from b0.out.grown gr3 b0.out.size (fun k hk => by injection hk with hk; have := HG.out; omega))
  clear g3 gr3
  go_wp2_with fail
  clear r3
  go_loopw [8] (fun t W => ∃ i : Nat, 1 ≤ i ∧ i ≤ N ∧ t = .int .i64 (i : Int) ∧ Blk W g 3 (fil i N) ∧ Below w1.heap.size w1 W) (fun t W => N - (intOf t).toNat)
  case atStart => exact ⟨1, Nat.le_refl _, h1, rfl, G3.out, B3.out⟩
  case round =>
    obtain ⟨i, hi1, hi, rfl, hgi, hbi⟩ := hrel
    have GI := Lib.hid hgi
    have BI := Lib.hid hbi
    clear hgi hbi
    by_cases hlt : i < N
    · have i1 : (i : Int) < (N : Int) := by omega
      obtain ⟨d, hd⟩ : ∃ d, d = Nat.min i (N - i) := ⟨_, rfl⟩
      have hd0 : d ≤ N - i := by rw [hd]; exact Nat.min_le_right ..
      have hd1 : i + d ≤ N := by omega
      have hd2 : 1 ≤ d := by rw [hd]; exact Nat.le_min.2 ⟨hi1, by omega⟩
      obtain ⟨w4, r4, g4, gr4⟩ := fil_run (cD := N - i) (cS := N) GI.out.drew hd1 hd 3
      have G4 := Lib.hid g4
      have B4 := Lib.hid (show Below w1.heap.size w1 w4 from BI.out.drew.grown gr4 BI.out.size (fun k hk => by injection hk with hk; have := HG.out; omega))
      have HD1 := Lib.hid hd1
      have hNi : ¬ N = i := by omega
      clear hd g4 gr4 hd1 hd0
      go_wp2_with fail
      refine region_seq (fun W => True) [(0, true), (1, true), (2, true), (3, true), (4, true), (5, true), (6, true), (7, false), (8, true), (9, true)]
        (by kernel_rfl) (by kernel_rfl) (by kernel_rfl) (by kernel_rfl) (fun _ _ _ _ _ h => h) trivial ?_
      repeat
        refine seq_pure (v := ?_) rfl (by rfl) (fun W hW => ?_) ?_
        rotate_left
        · clear hW
          go_simp
          with_reducible rfl
        simp only [Act.put, List.setIfInBounds_toArray, List.set_cons_zero, List.set_cons_succ]
      refine seq_make rfl (by rfl) (fun K' hK' => ?_)
      go_simp
      clear r4
      refine hK' _ _ (fun W => True) (fun W h => h) trivial ?_
      clear hK' K'
      have hwr : IntKind.i64.wrap ((i : Int) + (d : Int)) = ((i + d : Nat) : Int) := by have := HD1.out; rw [IntKind.wrap_i64]; omega
      repeat
        refine seq_pure (v := ?_) rfl (by rfl) (fun W hW => ?_) ?_
        rotate_left
        · clear hW
          go_simp
          with_reducible rfl
        simp only [Act.put, List.setIfInBounds_toArray, List.set_cons_zero, List.set_cons_succ]
      refine seq_done ?_
      go_wp2_with fail
      go_roundw
      case rel => exact ⟨i + d, by omega, HD1.out, rfl, G4.out, B4.out⟩
      case measure => have := HD1.out; simp [intOf]; omega
    · obtain rfl : i = N := by omega
      have i1 : ¬ (i : Int) < (i : Int) := by omega
      go_wp2
      go_ret
      refine ⟨g, rfl, ?_, by rw [HG.out]; exact Nat.le_refl _, BI.out⟩
      have := GI.out
      unfold fil at this
      rw [Nat.sub_self, List.replicate_zero, List.append_nil] at this
      exact this

/-- What newSearch leaves. -/
def NewPost11 (w : World) (N : Nat) (e : Ending) (w' : World) : Prop :=
  ∃ K g, e = .returned (.pointer (some ⟨K.s, 0, none⟩)) ∧ K.N = N ∧ Sea w w' K g (List.replicate N ⟨none, 0, 0⟩) (List.replicate N (-1)) (List.replicate N none) []
theorem sea_new {w w4 : World} {A B q p g N : Nat} (hA : Blk w4 A 29 (List.replicate N (.slice none 0 0))) (hB : Blk w4 B 3 (List.replicate N (.int .i64 (-1)))) (hq : Qe w4 w.heap.size q p g []) (hb : Below w.heap.size w w4) (lA : w.heap.size ≤ A) (lB : w.heap.size ≤ B) :
    Sea w (w4.alloc (.cells #[.slice (some ⟨A, 0, none⟩) N N, .slice (some ⟨B, 0, none⟩) N N, .pointer (some ⟨q, 0, none⟩)] 113)) ⟨w4.heap.size, A, B, q, p, N⟩ g (List.replicate N ⟨none, 0, 0⟩) (List.replicate N (-1)) (List.replicate N none) [] := by
  have hn := bel_new (Below.refl w4.heap.size w4) (.cells #[.slice (some ⟨A, 0, none⟩) N N, .slice (some ⟨B, 0, none⟩) N N, .pointer (some ⟨q, 0, none⟩)] 113)
  refine ⟨bel_alloc hb (Nat.le_refl _) _, Blk.new w4 _ [.slice (some ⟨A, 0, none⟩) N N, .slice (some ⟨B, 0, none⟩) N N, .pointer (some ⟨q, 0, none⟩)], ?_, ?_, hq.bel hn, by simp, by simp, by simp, lA, lB, ?_⟩
  · rw [List.map_replicate]; exact hA.alloc _
  · rw [List.map_replicate]; exact hB.alloc _
  · intro i x co st h1 h2 h3
    obtain ⟨_, rfl⟩ := by simpa [List.getElem?_replicate] using h1
    obtain ⟨_, rfl⟩ := by simpa [List.getElem?_replicate] using h2
    obtain ⟨_, rfl⟩ := by simpa [List.getElem?_replicate] using h3
    exact ⟨rfl, rfl⟩

set_option maxHeartbeats 4000000 in
theorem newsearch_calls (N : Nat) (h1 : 1 ≤ N) (h2 : N ≤ 16) (w : World) : Calls Try.prog 43 #[.int .i64 (N : Int)] w (NewPost11 w N) := by
  have hmk := fun W => make_lists11 N (by omega) W
  have mkA : ∀ W : World, Blk (W.alloc (.cells (Array.replicate N (Value.slice none 0 0)) 29)) W.heap.size 29 (List.replicate N (.slice none 0 0)) := fun W => by
    rw [show Array.replicate N (Value.slice none 0 0) = (List.replicate N (Value.slice none 0 0)).toArray by simp]; exact Blk.new W _ _
  have MKA := Lib.hid mkA
  clear mkA
  go_enter Try.func43, Try.ntmps43
  go_wp2_with fail
  refine region_way (fun _ => True) (.step 0 true (.step 3 true (.both 1 2 (.step 2 false (.step 4 false (.step 5 false (.step 6 true (.step 7 false (.step 8 true .done)))))) (.both 1 4 (.step 4 false (.step 5 false (.step 6 true (.step 7 false (.step 8 true .done))))) (.both 1 5 (.step 5 false (.step 6 true (.step 7 false (.step 8 true .done)))) (.step 1 false (.step 6 true (.step 7 false (.step 8 true .done)))))))))
    (by kernel_rfl) (by kernel_rfl) (by kernel_rfl) (by kernel_rfl) (fun _ _ _ _ _ h => h) trivial ?_
  repeat
    refine way_pure (v := ?_) rfl (by rfl) (fun W hW => ?_) ?_
    rotate_left
    · clear hW
      go_simp
      with_reducible rfl
    simp only [Act.put, List.setIfInBounds_toArray, List.set_cons_zero, List.set_cons_succ]
  refine way_both rfl (by rfl) rfl (by rfl) (fun K hK => ?_) (fun K hK => ?_)
  · go_simp
    refine hK _ _ (fun _ => True) (fun _ h => h) trivial ?_
    clear hK K
    obtain ⟨A, hA⟩ : ∃ x, x = w.heap.size := ⟨_, rfl⟩
    have f0 := (MKA.out w).drew
    have e0 := (bel_new (Below.refl w.heap.size w) (.cells (Array.replicate N (Value.slice none 0 0)) 29)).drew
    rw [← hA] at f0
    rw [← hA]
    have BL1 := Lib.hid (show Below w.heap.size w (w.alloc (.cells (Array.replicate N (Value.slice none 0 0)) 29)).drew from e0)
    have LA := Lib.hid (show w.heap.size ≤ A from by rw [hA]; exact Nat.le_refl _)
    have FA1 := Lib.hid f0
    clear f0 e0 hA
    generalize (w.alloc (.cells (Array.replicate N (Value.slice none 0 0)) 29)).drew = w1 at *
    refine way_make rfl (by rfl) (fun K hK => ?_)
    go_simp
    refine hK _ _ (fun _ => True) (fun _ h => h) trivial ?_
    clear hK K
    obtain ⟨b, hb⟩ : ∃ x, x = w1.heap.size := ⟨_, rfl⟩
    have f0 := (Blk.new w1 3 [.int .i64 (-1)])
    have e0 := (bel_new (Below.refl w1.heap.size w1) (.cells #[.int .i64 (-1)] 3))
    rw [← hb] at f0
    rw [← hb]
    have BL2 := Lib.hid (show Below w.heap.size w (w1.alloc (.cells #[.int .i64 (-1)] 3)) from BL1.out.trans (e0.mono BL1.out.size))
    have FA2 := Lib.hid (Blk.below FA1.out e0)
    have Lb := Lib.hid (show w.heap.size ≤ b from by rw [hb]; exact BL1.out.size)
    have FX2 := Lib.hid f0
    clear f0 e0 hb
    generalize (w1.alloc (.cells #[.int .i64 (-1)] 3)) = w2 at *
    refine way_make rfl (by rfl) (fun K hK => ?_)
    have hr := repeat_calls b N h1 h2 w2 FX2.out
    go_simp
    ((with_reducible refine hr.mono ?_))
    rintro e w3 ⟨B, rfl, hC, hlB, e0⟩
    have BL3 := Lib.hid (BL2.out.trans (e0.mono BL2.out.size))
    have FA3 := Lib.hid (Blk.below FA2.out e0)
    have FX3 := Lib.hid (Blk.below FX2.out e0)
    have FC3 := Lib.hid hC
    have LB := Lib.hid (Nat.le_trans BL2.out.size hlB)
    clear hr hC hlB e0
    go_simp
    refine hK _ _ (fun _ => True) (fun _ h => h) trivial ?_
    clear hK K
    refine way_make rfl (by rfl) (fun K hK => ?_)
    have hr := new10_calls w3
    go_simp
    ((with_reducible refine hr.mono ?_))
    rintro e w4 ⟨q, p, g, rfl, e0, hQ⟩
    have BL4 := Lib.hid (BL3.out.trans (e0.mono BL3.out.size))
    have FA4 := Lib.hid (Blk.below FA3.out e0)
    have FX4 := Lib.hid (Blk.below FX3.out e0)
    have FC4 := Lib.hid (Blk.below FC3.out e0)
    have FQ4 := Lib.hid (hQ.lower BL3.out.size)
    clear hr hQ e0
    go_simp
    refine hK _ _ (fun _ => True) (fun _ h => h) trivial ?_
    clear hK K
    repeat
      refine way_pure (v := ?_) rfl (by rfl) (fun W hW => ?_) ?_
      rotate_left
      · clear hW
        go_simp
        with_reducible rfl
      simp only [Act.put, List.setIfInBounds_toArray, List.set_cons_zero, List.set_cons_succ]
    refine way_make rfl (by rfl) (fun K hK => ?_)
    go_simp
    refine hK _ _ (fun _ => True) (fun _ h => h) trivial ?_
    clear hK K
    have hs := sea_new FA4.out FC4.out FQ4.out BL4.out LA.out LB.out
    have HS := Lib.hid hs
    clear hs
    repeat
      refine way_pure (v := ?_) rfl (by rfl) (fun W hW => ?_) ?_
      rotate_left
      · clear hW
        go_simp
        with_reducible rfl
      simp only [Act.put, List.setIfInBounds_toArray, List.set_cons_zero, List.set_cons_succ]
    refine way_done ?_
    go_wp2
    go_ret
    exact ⟨_, _, rfl, rfl, HS.out⟩
  · go_simp
    refine hK _ _ (fun _ => True) (fun _ h => h) trivial ?_
    clear hK K
    obtain ⟨b, hb⟩ : ∃ x, x = w.heap.size := ⟨_, rfl⟩
    have f0 := (Blk.new w 3 [.int .i64 (-1)]).drew
    have e0 := (bel_new (Below.refl w.heap.size w) (.cells #[.int .i64 (-1)] 3)).drew
    rw [← hb] at f0
    rw [← hb]
    have BL1 := Lib.hid (show Below w.heap.size w (w.alloc (.cells #[.int .i64 (-1)] 3)).drew from e0)
    have Lb := Lib.hid (show w.heap.size ≤ b from by rw [hb]; exact Nat.le_refl _)
    have FX1 := Lib.hid f0
    clear f0 e0 hb
    generalize (w.alloc (.cells #[.int .i64 (-1)] 3)).drew = w1 at *
    refine way_both rfl (by rfl) rfl (by rfl) (fun K hK => ?_) (fun K hK => ?_)
    · go_simp
      refine hK _ _ (fun _ => True) (fun _ h => h) trivial ?_
      clear hK K
      obtain ⟨A, hA⟩ : ∃ x, x = w1.heap.size := ⟨_, rfl⟩
      have f0 := (MKA.out w1)
      have e0 := (bel_new (Below.refl w1.heap.size w1) (.cells (Array.replicate N (Value.slice none 0 0)) 29))
      rw [← hA] at f0
      rw [← hA]
      have BL2 := Lib.hid (show Below w.heap.size w (w1.alloc (.cells (Array.replicate N (Value.slice none 0 0)) 29)) from BL1.out.trans (e0.mono BL1.out.size))
      have FX2 := Lib.hid (Blk.below FX1.out e0)
      have LA := Lib.hid (show w.heap.size ≤ A from by rw [hA]; exact BL1.out.size)
      have FA2 := Lib.hid f0
      clear f0 e0 hA
      generalize (w1.alloc (.cells (Array.replicate N (Value.slice none 0 0)) 29)) = w2 at *
      refine way_make rfl (by rfl) (fun K hK => ?_)
      have hr := repeat_calls b N h1 h2 w2 FX2.out
      go_simp
      ((with_reducible refine hr.mono ?_))
      rintro e w3 ⟨B, rfl, hC, hlB, e0⟩
      have BL3 := Lib.hid (BL2.out.trans (e0.mono BL2.out.size))
      have FX3 := Lib.hid (Blk.below FX2.out e0)
      have FA3 := Lib.hid (Blk.below FA2.out e0)
      have FC3 := Lib.hid hC
      have LB := Lib.hid (Nat.le_trans BL2.out.size hlB)
      clear hr hC hlB e0
      go_simp
      refine hK _ _ (fun _ => True) (fun _ h => h) trivial ?_
      clear hK K
      refine way_make rfl (by rfl) (fun K hK => ?_)
      have hr := new10_calls w3
      go_simp
      ((with_reducible refine hr.mono ?_))
      rintro e w4 ⟨q, p, g, rfl, e0, hQ⟩
      have BL4 := Lib.hid (BL3.out.trans (e0.mono BL3.out.size))
      have FX4 := Lib.hid (Blk.below FX3.out e0)
      have FA4 := Lib.hid (Blk.below FA3.out e0)
      have FC4 := Lib.hid (Blk.below FC3.out e0)
      have FQ4 := Lib.hid (hQ.lower BL3.out.size)
      clear hr hQ e0
      go_simp
      refine hK _ _ (fun _ => True) (fun _ h => h) trivial ?_
      clear hK K
      repeat
        refine way_pure (v := ?_) rfl (by rfl) (fun W hW => ?_) ?_
        rotate_left
        · clear hW
          go_simp
          with_reducible rfl
        simp only [Act.put, List.setIfInBounds_toArray, List.set_cons_zero, List.set_cons_succ]
      refine way_make rfl (by rfl) (fun K hK => ?_)
      go_simp
      refine hK _ _ (fun _ => True) (fun _ h => h) trivial ?_
      clear hK K
      have hs := sea_new FA4.out FC4.out FQ4.out BL4.out LA.out LB.out
      have HS := Lib.hid hs
      clear hs
      repeat
        refine way_pure (v := ?_) rfl (by rfl) (fun W hW => ?_) ?_
        rotate_left
        · clear hW
          go_simp
          with_reducible rfl
        simp only [Act.put, List.setIfInBounds_toArray, List.set_cons_zero, List.set_cons_succ]
      refine way_done ?_
      go_wp2
      go_ret
      exact ⟨_, _, rfl, rfl, HS.out⟩
    · have hr := repeat_calls b N h1 h2 w1 FX1.out
      go_simp
      ((with_reducible refine hr.mono ?_))
      rintro e w2 ⟨B, rfl, hC, hlB, e0⟩
      have BL2 := Lib.hid (BL1.out.trans (e0.mono BL1.out.size))
      have FX2 := Lib.hid (Blk.below FX1.out e0)
      have FC2 := Lib.hid hC
      have LB := Lib.hid (Nat.le_trans BL1.out.size hlB)
      clear hr hC hlB e0
      go_simp
      refine hK _ _ (fun _ => True) (fun _ h => h) trivial ?_
      clear hK K
      refine way_both rfl (by rfl) rfl (by rfl) (fun K hK => ?_) (fun K hK => ?_)
      · go_simp
        refine hK _ _ (fun _ => True) (fun _ h => h) trivial ?_
        clear hK K
        obtain ⟨A, hA⟩ : ∃ x, x = w2.heap.size := ⟨_, rfl⟩
        have f0 := (MKA.out w2)
        have e0 := (bel_new (Below.refl w2.heap.size w2) (.cells (Array.replicate N (Value.slice none 0 0)) 29))
        rw [← hA] at f0
        rw [← hA]
        have BL3 := Lib.hid (show Below w.heap.size w (w2.alloc (.cells (Array.replicate N (Value.slice none 0 0)) 29)) from BL2.out.trans (e0.mono BL2.out.size))
        have FX3 := Lib.hid (Blk.below FX2.out e0)
        have FC3 := Lib.hid (Blk.below FC2.out e0)
        have LA := Lib.hid (show w.heap.size ≤ A from by rw [hA]; exact BL2.out.size)
        have FA3 := Lib.hid f0
        clear f0 e0 hA
        generalize (w2.alloc (.cells (Array.replicate N (Value.slice none 0 0)) 29)) = w3 at *
        refine way_make rfl (by rfl) (fun K hK => ?_)
        have hr := new10_calls w3
        go_simp
        ((with_reducible refine hr.mono ?_))
        rintro e w4 ⟨q, p, g, rfl, e0, hQ⟩
        have BL4 := Lib.hid (BL3.out.trans (e0.mono BL3.out.size))
        have FX4 := Lib.hid (Blk.below FX3.out e0)
        have FC4 := Lib.hid (Blk.below FC3.out e0)
        have FA4 := Lib.hid (Blk.below FA3.out e0)
        have FQ4 := Lib.hid (hQ.lower BL3.out.size)
        clear hr hQ e0
        go_simp
        refine hK _ _ (fun _ => True) (fun _ h => h) trivial ?_
        clear hK K
        repeat
          refine way_pure (v := ?_) rfl (by rfl) (fun W hW => ?_) ?_
          rotate_left
          · clear hW
            go_simp
            with_reducible rfl
          simp only [Act.put, List.setIfInBounds_toArray, List.set_cons_zero, List.set_cons_succ]
        refine way_make rfl (by rfl) (fun K hK => ?_)
        go_simp
        refine hK _ _ (fun _ => True) (fun _ h => h) trivial ?_
        clear hK K
        have hs := sea_new FA4.out FC4.out FQ4.out BL4.out LA.out LB.out
        have HS := Lib.hid hs
        clear hs
        repeat
          refine way_pure (v := ?_) rfl (by rfl) (fun W hW => ?_) ?_
          rotate_left
          · clear hW
            go_simp
            with_reducible rfl
          simp only [Act.put, List.setIfInBounds_toArray, List.set_cons_zero, List.set_cons_succ]
        refine way_done ?_
        go_wp2
        go_ret
        exact ⟨_, _, rfl, rfl, HS.out⟩
      · have hr := new10_calls w2
        go_simp
        ((with_reducible refine hr.mono ?_))
        rintro e w3 ⟨q, p, g, rfl, e0, hQ⟩
        have BL3 := Lib.hid (BL2.out.trans (e0.mono BL2.out.size))
        have FX3 := Lib.hid (Blk.below FX2.out e0)
        have FC3 := Lib.hid (Blk.below FC2.out e0)
        have FQ3 := Lib.hid (hQ.lower BL2.out.size)
        clear hr hQ e0
        go_simp
        refine hK _ _ (fun _ => True) (fun _ h => h) trivial ?_
        clear hK K
        refine way_make rfl (by rfl) (fun K hK => ?_)
        go_simp
        refine hK _ _ (fun _ => True) (fun _ h => h) trivial ?_
        clear hK K
        obtain ⟨A, hA⟩ : ∃ x, x = w3.heap.size := ⟨_, rfl⟩
        have f0 := (MKA.out w3)
        have e0 := (bel_new (Below.refl w3.heap.size w3) (.cells (Array.replicate N (Value.slice none 0 0)) 29))
        rw [← hA] at f0
        rw [← hA]
        have BL4 := Lib.hid (show Below w.heap.size w (w3.alloc (.cells (Array.replicate N (Value.slice none 0 0)) 29)) from BL3.out.trans (e0.mono BL3.out.size))
        have FX4 := Lib.hid (Blk.below FX3.out e0)
        have FC4 := Lib.hid (Blk.below FC3.out e0)
        have FQ4 := Lib.hid (FQ3.out.bel e0)
        have LA := Lib.hid (show w.heap.size ≤ A from by rw [hA]; exact BL3.out.size)
        have FA4 := Lib.hid f0
        clear f0 e0 hA
        generalize (w3.alloc (.cells (Array.replicate N (Value.slice none 0 0)) 29)) = w4 at *
        repeat
          refine way_pure (v := ?_) rfl (by rfl) (fun W hW => ?_) ?_
          rotate_left
          · clear hW
            go_simp
            with_reducible rfl
          simp only [Act.put, List.setIfInBounds_toArray, List.set_cons_zero, List.set_cons_succ]
        refine way_make rfl (by rfl) (fun K hK => ?_)
        go_simp
        refine hK _ _ (fun _ => True) (fun _ h => h) trivial ?_
        clear hK K
        have hs := sea_new FA4.out FC4.out FQ4.out BL4.out LA.out LB.out
        have HS := Lib.hid hs
        clear hs
        repeat
          refine way_pure (v := ?_) rfl (by rfl) (fun W hW => ?_) ?_
          rotate_left
          · clear hW
            go_simp
            with_reducible rfl
          simp only [Act.put, List.setIfInBounds_toArray, List.set_cons_zero, List.set_cons_succ]
        refine way_done ?_
        go_wp2
        go_ret
        exact ⟨_, _, rfl, rfl, HS.out⟩
end Go.Proofs.Ytjflbfianncpfaa
