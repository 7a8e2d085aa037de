/-
  Slices of values of several cells each: what such a slice reads as, and a slice that a call itself gathers by append. 'enc' tells a value's cells, of which there are 'k'. Condition of an append: what comes out has at most 2^47 bytes.
-/
import Derived.Test.YtmffmoflelnmoaaAcc
namespace Go.Proofs.Ytmffmoflelnmoaa
open Go.RowKit

/-- One more block. -/
theorem bel_alloc {B : Nat} {a w : World} (h : Below B a w) (hB : B ≤ a.heap.size) (o : Obj) : Below B a (w.alloc o) := h.alloc (Nat.le_trans hB h.size) o
theorem bel_new {a w : World} (h : Below a.heap.size a w) (o : Obj) : Below a.heap.size a (w.alloc o) := bel_alloc h (Nat.le_refl _) o

section
variable {α : Type} {enc : α → List Value} {k : Nat}

/-- The slice value '.slice a n _' reads as the values 'l'; where it has any, they lie in a block below 'B'. -/
def Row (enc : α → List Value) (w : World) (B : Nat) (a : Option Addr) (n : Nat) (l : List α) : Prop :=
  l.length = n ∧ (0 < n → ∃ b o : Nat, a = some ⟨b, o, none⟩ ∧ b < B ∧ ∀ (i : Nat) (h : i < (l.flatMap enc).length), w.cell? ⟨b, o + i, none⟩ = some (l.flatMap enc)[i])

theorem flat_length (hk : ∀ x, (enc x).length = k) (l : List α) : (l.flatMap enc).length = l.length * k := by
  induction l with
  | nil => simp
  | cons x l ih => simp [ih, hk, Nat.succ_mul]; omega
theorem flat_get (hk : ∀ x, (enc x).length = k) : ∀ (l : List α) (i : Nat) (hi : i < l.length) (j : Nat), j < k → (l.flatMap enc)[i * k + j]? = (enc l[i])[j]?
  | x :: l, 0, _, j, hj => by
    rw [List.flatMap_cons, Nat.zero_mul, Nat.zero_add, List.getElem?_append_left (by rw [hk]; exact hj)]; rfl
  | x :: l, i + 1, hi, j, hj => by
    have hi' : i < l.length := by simpa using hi
    rw [List.flatMap_cons, List.getElem?_append_right (by rw [hk, Nat.succ_mul]; omega), hk]
    have e : (i + 1) * k + j - k = i * k + j := by rw [Nat.succ_mul]; omega
    rw [e, flat_get hk l i hi' j hj]; rfl

section
variable {w w' : World} {B n : Nat} {a : Option Addr} {l : List α}
theorem Row.nil : Row enc w B a 0 [] := ⟨rfl, fun h => absurd h (by omega)⟩
theorem Row.zero (h : Row enc w B a 0 l) : l = [] := List.eq_nil_of_length_eq_zero h.1
theorem Row.keep (h : Row enc w B a n l) (hk : ∀ b, b < B → w'.heap[b]? = w.heap[b]?) : Row enc w' B a n l :=
  ⟨h.1, fun hn => by
    obtain ⟨b, o, e, hb, hc⟩ := h.2 hn
    exact ⟨b, o, e, hb, fun i hi => (World.cell?_of_block (w := w) (hk b hb)).trans (hc i hi)⟩⟩
theorem Row.below (h : Row enc w B a n l) (hb : Below B w w') : Row enc w' B a n l := h.keep hb.block
theorem Row.more (h : Row enc w B a n l) {B' : Nat} (hB : B ≤ B') : Row enc w B' a n l :=
  ⟨h.1, fun hn => by
    obtain ⟨b, o, e, hb, hc⟩ := h.2 hn
    exact ⟨b, o, e, by omega, hc⟩⟩
theorem Row.drewN (h : Row enc w B a n l) (m : Nat) : Row enc (w.drewN m) B a n l := h
theorem Row.drew (h : Row enc w B a n l) : Row enc w.drew B a n l := h
/-- The cells, value by value. -/
theorem Row.cells (hk : ∀ x, (enc x).length = k) (h : Row enc w B a n l) (hn : 0 < n) : ∃ b o : Nat, a = some ⟨b, o, none⟩ ∧ b < B ∧ ∀ (i : Nat) (hi : i < l.length) (j : Nat), j < k → w.cell? ⟨b, o + i * k + j, none⟩ = (enc l[i])[j]? := by
  obtain ⟨b, o, e, hb, hc⟩ := h.2 hn
  refine ⟨b, o, e, hb, fun i hi j hj => ?_⟩
  have hlt : i * k + j < (l.flatMap enc).length := by
    rw [flat_length hk]
    have : (i + 1) * k ≤ l.length * k := Nat.mul_le_mul_right _ hi
    rw [Nat.succ_mul] at this; omega
  rw [Nat.add_assoc, hc _ hlt, ← flat_get hk l i hi j hj, List.getElem?_eq_getElem hlt]
/-- The other way round. -/
theorem Row.mk (hk : ∀ x, (enc x).length = k) (hl : l.length = n) (h : 0 < n → ∃ b o : Nat, a = some ⟨b, o, none⟩ ∧ b < B ∧ ∀ (i : Nat) (hi : i < l.length) (j : Nat), j < k → w.cell? ⟨b, o + i * k + j, none⟩ = (enc l[i])[j]?) : Row enc w B a n l := by
  refine ⟨hl, fun hn => ?_⟩
  obtain ⟨b, o, e, hb, hc⟩ := h hn
  refine ⟨b, o, e, hb, fun i hi => ?_⟩
  have hi' : i < l.length * k := by rw [flat_length hk] at hi; exact hi
  have hk0 : 0 < k := by
    rcases Nat.eq_zero_or_pos k with h0 | h0
    · rw [h0] at hi'; omega
    · exact h0
  have hd : i / k < l.length := Nat.div_lt_of_lt_mul (by rw [Nat.mul_comm]; exact hi')
  have hm := Nat.mod_lt i hk0
  have e1 : i / k * k + i % k = i := by rw [Nat.mul_comm]; exact Nat.div_add_mod i k
  have h1 := hc (i / k) hd (i % k) hm
  rw [Nat.add_assoc, e1] at h1
  rw [h1, ← flat_get hk l (i / k) hd (i % k) hm, e1, List.getElem?_eq_getElem hi]
/-- The rest of such a slice. -/
theorem Row.rest (hk : ∀ x, (enc x).length = k) {b o : Nat} (h : Row enc w B (some ⟨b, o, none⟩) n l) (i : Nat) (hi : i ≤ n) : Row enc w B (some ⟨b, o + i * k, none⟩) (n - i) (l.drop i) := by
  have hn := h.1
  refine Row.mk hk (by simp; omega) fun h0 => ?_
  obtain ⟨b', o', e, hb, hc⟩ := h.cells hk (by omega)
  injection e with e; injection e with e1 e2; subst e1; subst e2
  refine ⟨b, o + i * k, rfl, hb, fun j hj t ht => ?_⟩
  have hj' : j < l.length - i := by simpa using hj
  have h1 := hc (i + j) (by omega) t ht
  have e : o + i * k + j * k + t = o + (i + j) * k + t := by rw [Nat.add_mul]; omega
  rw [e, h1]; simp
end

/-- The slice value '.slice A l.length c' reads as 'l' (values of type 'T'), and lies at the head of a block from 'base' on that nothing else has a slice of (or is nil). -/
def AccR (enc : α → List Value) (k : Nat) (w : World) (base : Nat) (T : TypeId) (A : Option Addr) (c : Nat) (l : List α) : Prop := w.ownsRow base T k (.slice A l.length c) l.length (l.flatMap enc)

section
variable {w w' : World} {base c : Nat} {T : TypeId} {A : Option Addr} {l : List α}
theorem AccR.nil (w : World) (base : Nat) (T : TypeId) : AccR enc k w base T none 0 [] := World.ownsRow_nil w base _ k
theorem AccR.ge (h : AccR enc k w base T A c l) {x : Nat} (hx : blk A = some x) : base ≤ x ∧ x < w.heap.size := World.ownsRow.lt h x (by rw [ownBlock_slice]; exact hx)
theorem AccR.kept (h : AccR enc k w base T A c l) {row : Option Nat} (hg : w.grownBy w' row) (hne : ∀ x, blk A = some x → row ≠ some x) : AccR enc k w' base T A c l :=
  World.ownsRow.kept h hg (by
    rw [ownBlock_slice]
    cases hb : blk A with
    | none => exact .inl rfl
    | some x => exact .inr (Ne.symm (hne x hb)))
theorem AccR.bel (h : AccR enc k w base T A c l) (hb : Below w.heap.size w w') : AccR enc k w' base T A c l :=
  h.kept (row := none) ⟨hb.os, hb.tape, hb.output, hb.size, fun i hi _ => hb.block i hi⟩ (fun _ _ => by simp)
theorem AccR.alloc (h : AccR enc k w base T A c l) (o : Obj) : AccR enc k (w.alloc o) base T A c l := World.ownsRow.alloc h o
theorem AccR.drew (h : AccR enc k w base T A c l) : AccR enc k w.drew base T A c l := h
theorem AccR.drewN (h : AccR enc k w base T A c l) (n : Nat) : AccR enc k (w.drewN n) base T A c l := h
theorem AccR.lower (h : AccR enc k w base T A c l) {base' : Nat} (hb : base' ≤ base) : AccR enc k w base' T A c l := by
  obtain ⟨h1, h2⟩ := h
  refine ⟨h1, ?_⟩
  rcases h2 with h2 | ⟨g, cap, cur, hv, hg, r⟩
  · exact .inl h2
  · exact .inr ⟨g, cap, cur, hv, by omega, r⟩
theorem AccR.cap (h : AccR enc k w base T A c l) : l.length ≤ c ∧ c ≤ maxLen := by
  rcases h.2 with ⟨hv, h0⟩ | ⟨g, cap, cur, hv, _, _, hnc, hm, _⟩
  · injection hv with _ _ e; subst e; exact ⟨by omega, Nat.zero_le _⟩
  · injection hv with _ _ e; subst e; exact ⟨hnc, hm⟩
theorem AccR.row (h : AccR enc k w base T A c l) : Row enc w w.heap.size A l.length l := by
  refine ⟨rfl, fun hn => ?_⟩
  rcases h.2 with ⟨_, h0⟩ | ⟨g, cap, cur, hv, hg, hh, hnc, _, hcs, hx⟩
  · omega
  · have hA : A = some ⟨g, 0, none⟩ := by injection hv
    subst hA
    refine ⟨g, 0, rfl, (AccR.ge h rfl).2, fun i hi => ?_⟩
    have := World.ownsRow.cells h (g := g) rfl i (l.flatMap enc)[i] (by simp)
    rwa [add_plain] at this
theorem belr_acc {w W W' : World} (hb : Below w.heap.size w W) (ha : AccR enc k W w.heap.size T A c l) (hg : W.grownBy W' (blk A)) : Below w.heap.size w W' :=
  hb.grown hg hb.size (fun _ hk => (ha.ge hk).1)

/-- An append of values that such a slice reads as. -/
theorem accr_append {P : Program} (hk : ∀ x, (enc x).length = k) (h1 : ∀ x, ∀ u ∈ enc x, u.oneCell' = true) (hk0 : 0 < k) (h : AccR enc k w base T A c l) {B m cc : Nat} {a : Option Addr} {l2 : List α} (hs : Row enc w B a m l2)
    {ST ty : TypeId} {z : Value} {bytes : Nat} (ht : P.underlying ST = some (.slice T)) (hinfo : (P.info? T).map (fun i => (i.zero, i.size, i.bytes)) = some (some z, k, bytes)) (hzs : z.cells.size = k)
    (hbase : base ≤ w.heap.size) (hlen : (l.length + m) * bytes ≤ 140737488355328) (hml : l.length + m ≤ 140737488355328) :
    ∃ A' c' w', (Builtin.append_ #[ST, ST] ty #[.slice A l.length c, .slice a m cc]).run P w = .ok (.slice A' (l.length + m) c') w' ∧ AccR enc k w' base T A' c' (l ++ l2) ∧ w.grownBy w' (blk A) ∧
      (blk A' = blk A ∨ blk A' = some w.heap.size) := by
  have hm := hs.1
  subst hm
  obtain ⟨i, hi, hzz⟩ := Option.map_eq_some_iff.1 hinfo
  simp only [Prod.mk.injEq] at hzz
  obtain ⟨hz, hsz, hby⟩ := hzz
  have fin : ∀ v' w2, w2.ownsRow base T k v' (l.length + l2.length) (l.flatMap enc ++ l2.flatMap enc) → ∃ A' c', v' = .slice A' (l.length + l2.length) c' ∧ AccR enc k w2 base T A' c' (l ++ l2) := by
    intro v' w2 ho
    have ho' : w2.ownsRow base T k v' (l ++ l2).length ((l ++ l2).flatMap enc) := by rw [List.flatMap_append, List.length_append]; exact ho
    rcases ho.2 with ⟨rfl, h0⟩ | ⟨g, cap, cur, rfl, _⟩
    · refine ⟨none, 0, by rw [h0], ?_⟩
      unfold AccR
      rw [List.length_append, h0]; rw [List.length_append, h0] at ho'; exact ho'
    · refine ⟨_, cap, rfl, ?_⟩
      unfold AccR
      rw [List.length_append]; rw [List.length_append] at ho'; exact ho'
  cases a with
  | none =>
    have h0 : l2.length = 0 := by
      rcases Nat.eq_zero_or_pos l2.length with h0 | h0
      · exact h0
      · obtain ⟨b, o, e, _⟩ := hs.2 h0; cases e
    obtain rfl := List.eq_nil_of_length_eq_zero h0
    refine ⟨A, c, w, ?_, by simpa using h, World.grownBy.refl w _, .inl rfl⟩
    rcases h.2 with ⟨hv, hn⟩ | ⟨g, cap, cur, hv, _, _, hnc, _⟩
    · rw [hv, List.length_nil, Nat.add_zero, hn]
      injection hv with e1 e2 e3
      simp [Builtin.append_, run_underlying ht, sizeOf, typeInfo, hi, Builtin.lenOf, Builtin.firstCells, e1, e3]
    · injection hv with e1 e2 e3
      simp [Builtin.append_, run_underlying ht, sizeOf, typeInfo, hi, Builtin.lenOf, Builtin.firstCells, e1, e3, hnc, storeCells]
  | some ad =>
    have hcells : ∀ j u, (l2.flatMap enc)[j]? = some u → w.cell? (ad.add j) = some u := by
      intro j u hu
      have hj : j < (l2.flatMap enc).length := by
        rcases Nat.lt_or_ge j (l2.flatMap enc).length with h | h
        · exact h
        · rw [List.getElem?_eq_none h] at hu; cases hu
      have hpos : 0 < l2.length := by
        rcases Nat.eq_zero_or_pos l2.length with h0 | h0
        · rw [flat_length hk, h0] at hj; omega
        · exact h0
      obtain ⟨b, o, e, _, hc⟩ := hs.2 hpos
      injection e with e
      subst e
      rw [add_plain, hc j hj]
      rw [List.getElem?_eq_getElem hj] at hu; exact hu
    obtain ⟨v', w', hrun, h2, h3, _, h5⟩ := run_append_own_at (P := P) w base ST ty T i z k bytes ht hi hz hsz hby hzs hk0 _ l.length (l.flatMap enc) h ad l2.length cc (l2.flatMap enc) (flat_length hk l2) hcells
      (by intro v hv; obtain ⟨x, _, hx⟩ := List.mem_flatMap.1 hv; exact h1 x v hx) (by unfold maxLen; omega) hlen hbase
    obtain ⟨A', c', rfl, hacc⟩ := fin v' w' h2
    rw [ownBlock_slice, ownBlock_slice] at h5
    rw [ownBlock_slice] at h3
    exact ⟨A', c', w', hrun, hacc, h3, h5⟩

/-- An append of one value, which the program lays into a block of its own first. -/
theorem accr_push {P : Program} (hk : ∀ x, (enc x).length = k) (h1 : ∀ x, ∀ u ∈ enc x, u.oneCell' = true) (hk0 : 0 < k) (h : AccR enc k w base T A c l) (x : α)
    {ST ty : TypeId} {z : Value} {bytes : Nat} (ht : P.underlying ST = some (.slice T)) (hinfo : (P.info? T).map (fun i => (i.zero, i.size, i.bytes)) = some (some z, k, bytes)) (hzs : z.cells.size = k)
    (hbase : base ≤ w.heap.size) (hlen : (l.length + 1) * bytes ≤ 140737488355328) (hml : l.length + 1 ≤ 140737488355328) :
    ∃ A' c' w', (Builtin.append_ #[ST, ST] ty #[.slice A l.length c, .slice (some ⟨w.heap.size, 0, none⟩) 1 1]).run P (w.alloc (.cells (enc x).toArray T)) = .ok (.slice A' (l.length + 1) c') w' ∧
      AccR enc k w' base T A' c' (l ++ [x]) ∧ w.grownBy w' (blk A) := by
  have hs : Row enc (w.alloc (.cells (enc x).toArray T)) (w.heap.size + 1) (some ⟨w.heap.size, 0, none⟩) 1 [x] := by
    refine ⟨rfl, fun _ => ⟨w.heap.size, 0, rfl, by omega, fun i hi => ?_⟩⟩
    have hi' : i < (enc x).length := by simpa using hi
    rw [cell_of_row _ _ _ _ _ _ (heap_alloc_new w _)]
    simp [hi']
  obtain ⟨A', c', w', r1, r2, r3, _⟩ := accr_append (P := P) hk h1 hk0 (h.alloc _) (cc := 1) hs (ty := ty) ht hinfo hzs (by simp; omega) hlen hml
  refine ⟨A', c', w', r1, r2, ⟨r3.os, r3.tape, r3.output, Nat.le_trans (by simp) r3.size, fun i hi hne => (r3.block i (by simp; omega) hne).trans (Below.heap_alloc _ _ _ hi)⟩⟩
end
end
end Go.Proofs.Ytmffmoflelnmoaa
