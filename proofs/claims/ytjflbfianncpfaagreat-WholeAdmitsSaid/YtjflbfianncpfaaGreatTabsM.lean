/-
  Tables of layer 14 side by side: what the code of layer 14 must keep, as far as WholeAdmits asks (Tk17); many tables in memory that don't share a block (Tabs17); what a step in one of them leaves (Td17). Plain: what the tables hold, and why the path is admitted on each link of its route. No condition: definitions and their simplest consequences.
-/
import Derived.Test.YtjflbfianncpfaaGreatAdmTS
import Derived.Test.YtjflbfianncpfaaGreatFitM
import Derived.Test.YtjflbfianncpfaaGreatSeaG
namespace Go.Proofs.YtjflbfianncpfaaGreat
set_option maxRecDepth 100000
set_option linter.unusedVariables false
open Go.RowKit

/-- What the code of layer 14 must keep. -/
structure Tk17 (P : TabW) : Prop where
  keep : ∀ {w w' : World} {q sz : Nat} {l : List Et} {S : List Nat}, P w q sz l S → (∀ b ∈ S, w'.heap[b]? = w.heap[b]?) → P w' q sz l S
  lt : ∀ {w : World} {q sz : Nat} {l : List Et} {S : List Nat}, P w q sz l S → ∀ b ∈ S, b < w.heap.size
  ty : ∀ {w : World} {q sz : Nat} {l : List Et} {S : List Nat}, P w q sz l S → ∀ b ∈ S, tyAt w b = some 65 ∨ tyAt w b = some 77
  tbl : ∀ {w : World} {q sz : Nat} {l : List Et} {S : List Nat}, P w q sz l S → Tbl14 sz l
  new : ∀ (sz : Nat), sz < 18446744073709551616 → ∀ w, Calls Tryz.prog 4 #[.int .u64 (sz : Int)] w (New14 P sz w)
  adm : ∀ {w : World} {q sz : Nat} {l : List Et} {S : List Nat}, P w q sz l S → ∀ (k : Ky) (v : Wn), KyB k → WnB v → Calls Tryz.prog 10 #[.pointer (some ⟨q, 0, none⟩), .agg #[.int .i64 k.tail, .int .i64 k.tun, .int .i64 k.head, .int .i64 k.lsp], .agg #[.int .u64 (v.bw : Int), .int .i64 v.su, .int .i64 v.ho, .int .u32 (v.an : Int), .int .u32 (v.al : Int), .int .u32 (v.no : Int)]] w (Adt14 P S q sz (aAdmit sz l k v) w)
  drop : ∀ {w : World} {q sz : Nat} {l : List Et} {S : List Nat}, P w q sz l S → ∀ (k : Ky), KyB k → Calls Tryz.prog 8 #[.pointer (some ⟨q, 0, none⟩), .agg #[.int .i64 k.tail, .int .i64 k.tun, .int .i64 k.head, .int .i64 k.lsp]] w (Drt14 P S q sz (aDrop l k) w)
  ledger : ∀ {w : World} {q sz : Nat} {l : List Et} {S : List Nat}, P w q sz l S → Calls Tryz.prog 5 #[.pointer (some ⟨q, 0, none⟩)] w (Lgt14 P S q sz l w)
  kin : ∀ (a b : Ky) (w : World), Calls Tryz.prog 9 #[.agg #[.int .i64 a.tail, .int .i64 a.tun, .int .i64 a.head, .int .i64 a.lsp], .agg #[.int .i64 b.tail, .int .i64 b.tun, .int .i64 b.head, .int .i64 b.lsp]] w (Yes14 (kKin a b) w)

/-- A table: its block, its size, its entries. -/
structure Tb17 where
  q : Nat
  sz : Nat
  l : List Et
/-- Tables that were made since w0, none of whose own blocks is another's. -/
def Tabs17 (P : TabW) (w0 w : World) (ts : List Tb17) : Prop :=
  Below w0.heap.size w0 w ∧ ∃ Ss : List (List Nat), Ss.length = ts.length ∧ (∀ (i : Nat) (t : Tb17) (S : List Nat), ts[i]? = some t → Ss[i]? = some S → P w t.q t.sz t.l S ∧ ∀ b ∈ S, w0.heap.size ≤ b) ∧
    ∀ (i j : Nat) (S S' : List Nat), Ss[i]? = some S → Ss[j]? = some S' → i ≠ j → ∀ b ∈ S, b ∉ S'
/-- A step that turns no block but tables' own. -/
structure Td17 (w w' : World) : Prop where
  size : w.heap.size ≤ w'.heap.size
  block : ∀ b, b < w.heap.size → tyAt w b ≠ some 65 → tyAt w b ≠ some 77 → w'.heap[b]? = w.heap[b]?
section
variable {P : TabW} {w0 w w' : World} {ts : List Tb17}
theorem Td17.refl (w : World) : Td17 w w := ⟨Nat.le_refl _, fun _ _ _ _ => rfl⟩
theorem Td17.of_below (h : Below w.heap.size w w') : Td17 w w' := ⟨h.size, fun b hb _ _ => h.block b hb⟩
theorem Td17.trans {w'' : World} (h : Td17 w w') (k : Td17 w' w'') : Td17 w w'' := by
  refine ⟨Nat.le_trans h.size k.size, fun b hb h1 h2 => ?_⟩
  have e := h.block b hb h1 h2
  have et : tyAt w' b = tyAt w b := by unfold tyAt; rw [e]
  exact (k.block b (Nat.lt_of_lt_of_le hb h.size) (by rw [et]; exact h1) (by rw [et]; exact h2)).trans e
theorem Td17.acc {α : Type} {enc : α → List Value} {k base c : Nat} {T : TypeId} {A : Option Addr} {l : List α} (hm : Td17 w w') (h : AccR enc k w base T A c l) (h1 : T ≠ 65) (h2 : T ≠ 77) : AccR enc k w' base T A c l := by
  have key := fun b (hb : Go.Proofs.YtjflbfianncpfaaGreat.blk A = some b) => accr_ty h hb
  obtain ⟨g1, g2⟩ := h
  refine ⟨g1, ?_⟩
  rcases g2 with g2 | ⟨g, cap, cur, hv, hg, hb, r⟩
  · exact .inl g2
  · have hgl : g < w.heap.size := (Array.getElem?_eq_some_iff.1 hb).1
    have e : Go.Proofs.YtjflbfianncpfaaGreat.blk A = some g := by injection hv with e _ _; rw [e]; rfl
    have ht := key g e
    exact .inr ⟨g, cap, cur, hv, hg, (hm.block g hgl (by rw [ht]; intro e; injection e with e; exact h1 e) (by rw [ht]; intro e; injection e with e; exact h2 e)).trans hb, r⟩
theorem Td17.blk {q : Nat} {T : TypeId} {vs : List Value} (hm : Td17 w w') (h : Blk w q T vs) (h1 : T ≠ 65) (h2 : T ≠ 77) : Blk w' q T vs :=
  h.same (hm.block q h.lt (by rw [h.ty]; intro e; injection e with e; exact h1 e) (by rw [h.ty]; intro e; injection e with e; exact h2 e))

theorem Tabs17.nil (h : Below w0.heap.size w0 w) : Tabs17 P w0 w [] := ⟨h, [], rfl, fun i t S h => by simp at h, fun i j S S' h => by simp at h⟩
theorem Tabs17.bel (h : Tabs17 P w0 w ts) : Below w0.heap.size w0 w := h.1
theorem Tabs17.below (K : Tk17 P) (h : Tabs17 P w0 w ts) (hb : Below w.heap.size w w') : Tabs17 P w0 w' ts := by
  obtain ⟨h0, Ss, h1, h2, h3⟩ := h
  exact ⟨h0.trans (hb.mono h0.size), Ss, h1, fun i t S ht hS => ⟨K.keep (h2 i t S ht hS).1 (fun b hbS => hb.block b (K.lt (h2 i t S ht hS).1 b hbS)), (h2 i t S ht hS).2⟩, h3⟩
/-- A block of another type turns. -/
theorem Tabs17.beside (K : Tk17 P) (h : Tabs17 P w0 w ts) {r : Option Nat} (hg : w.grownBy w' r) (hb : Below w0.heap.size w0 w') (hr : ∀ b, r = some b → tyAt w b ≠ some 65 ∧ tyAt w b ≠ some 77) : Tabs17 P w0 w' ts := by
  obtain ⟨h0, Ss, h1, h2, h3⟩ := h
  refine ⟨hb, Ss, h1, fun i t S ht hS => ⟨K.keep (h2 i t S ht hS).1 (fun b hbS => hg.block b (K.lt (h2 i t S ht hS).1 b hbS) (fun e => ?_)), (h2 i t S ht hS).2⟩, h3⟩
  have := hr b e.symm
  rcases K.ty (h2 i t S ht hS).1 b hbS with e2 | e2
  · exact this.1 e2
  · exact this.2 e2
/-- A table is made. -/
theorem Tabs17.new (K : Tk17 P) (h : Tabs17 P w0 w ts) {sz : Nat} {e : Ending} (hn : New14 P sz w e w') : ∃ q, e = .returned (.pointer (some ⟨q, 0, none⟩)) ∧ Tabs17 P w0 w' (ts ++ [⟨q, sz, []⟩]) ∧ Below w.heap.size w w' := by
  obtain ⟨q, S, rfl, hp, hb, hS⟩ := hn
  obtain ⟨h0, Ss, h1, h2, h3⟩ := h
  refine ⟨q, rfl, ⟨h0.trans (hb.mono h0.size), Ss ++ [S], by simp [h1], fun i t S' ht hS' => ?_, fun i j S1 S2 e1 e2 hne b hb1 hb2 => ?_⟩, hb⟩
  · rcases Nat.lt_or_ge i ts.length with hi | hi
    · rw [List.getElem?_append_left hi] at ht
      rw [List.getElem?_append_left (by rw [h1]; exact hi)] at hS'
      exact ⟨K.keep (h2 i t S' ht hS').1 (fun b hbS => hb.block b (K.lt (h2 i t S' ht hS').1 b hbS)), (h2 i t S' ht hS').2⟩
    · rw [List.getElem?_append_right hi] at ht
      rw [List.getElem?_append_right (by rw [h1]; exact hi), h1] at hS'
      obtain ⟨k, hk⟩ : ∃ k, i - ts.length = k := ⟨_, rfl⟩
      rw [hk] at ht hS'
      cases k with
      | zero =>
        simp at ht hS'
        subst ht
        subst hS'
        exact ⟨hp, fun b hbS => Nat.le_trans h0.size (hS b hbS)⟩
      | succ k => simp at ht
  · have low : ∀ (i : Nat) (S' : List Nat), i < Ss.length → Ss[i]? = some S' → ∀ b ∈ S', b < w.heap.size := fun i S' hi he b hbS => by
      have hit : i < ts.length := by rw [← h1]; exact hi
      exact K.lt (h2 i _ S' (List.getElem?_eq_getElem hit) he).1 b hbS
    have one : ∀ (i : Nat) (S' : List Nat), ¬ i < Ss.length → (Ss ++ [S])[i]? = some S' → S' = S ∧ i = Ss.length := fun i S' hi he => by
      rw [List.getElem?_append_right (by omega)] at he
      obtain ⟨k, hk⟩ : ∃ k, i - Ss.length = k := ⟨_, rfl⟩
      rw [hk] at he
      cases k with
      | zero =>
        simp at he
        exact ⟨he.symm, by omega⟩
      | succ k => simp at he
    by_cases hi : i < Ss.length
    · rw [List.getElem?_append_left hi] at e1
      by_cases hj : j < Ss.length
      · rw [List.getElem?_append_left hj] at e2
        exact h3 i j S1 S2 e1 e2 hne b hb1 hb2
      · obtain ⟨rfl, _⟩ := one j S2 hj e2
        have := low i S1 hi e1 b hb1
        have := hS b hb2
        omega
    · obtain ⟨rfl, ei⟩ := one i S1 hi e1
      by_cases hj : j < Ss.length
      · rw [List.getElem?_append_left hj] at e2
        have := low j S2 hj e2 b hb2
        have := hS b hb1
        omega
      · obtain ⟨_, ej⟩ := one j S2 hj e2
        omega
/-- One of the tables, and what becomes of all by a step in it. -/
theorem Tabs17.at (K : Tk17 P) (h : Tabs17 P w0 w ts) {i : Nat} {t : Tb17} (hi : ts[i]? = some t) : ∃ S, P w t.q t.sz t.l S ∧
    ∀ (w' : World) (S' : List Nat) (l' : List Et), P w' t.q t.sz l' S' → Mv14 S w S' w' → Tabs17 P w0 w' (ts.set i ⟨t.q, t.sz, l'⟩) ∧ Td17 w w' := by
  obtain ⟨h0, Ss, h1, h2, h3⟩ := h
  have hil : i < ts.length := (List.getElem?_eq_some_iff.1 hi).1
  have hS : Ss[i]? = some (Ss[i]'(by rw [h1]; exact hil)) := List.getElem?_eq_getElem _
  generalize Ss[i]'(by rw [h1]; exact hil) = S at hS
  have hp := h2 i t S hi hS
  refine ⟨S, hp.1, fun w' S' l' hp' hm => ⟨⟨Mv14.bel h0 (Nat.le_refl _) hm hp.2, Ss.set i S', by simp [h1], fun j u S2 hu hS2 => ?_, fun j k S1 S2 e1 e2 hne b hb1 hb2 => ?_⟩, hm.turn.size, fun b hb n1 n2 => ?_⟩⟩
  · rw [List.getElem?_set] at hu hS2
    by_cases e : i = j
    · subst e
      rw [if_pos rfl, if_pos hil] at hu
      rw [if_pos rfl, if_pos (by rw [h1]; exact hil)] at hS2
      injection hu with hu
      injection hS2 with hS2
      subst hu
      subst hS2
      refine ⟨hp', fun b hb => ?_⟩
      rcases hm.own b hb with h4 | h4
      · exact hp.2 b h4
      · exact Nat.le_trans h0.size h4
    · rw [if_neg e] at hu hS2
      have hj := h2 j u S2 hu hS2
      exact ⟨K.keep hj.1 (fun b hb => hm.turn.block b (K.lt hj.1 b hb) (fun hbS => h3 i j S S2 hS hS2 e b hbS hb)), hj.2⟩
  · have low : ∀ (j : Nat) (S2 : List Nat), Ss[j]? = some S2 → ∀ b ∈ S2, b < w.heap.size := fun j S2 he b hbS => by
      have hjt : j < ts.length := by rw [← h1]; exact (List.getElem?_eq_some_iff.1 he).1
      exact K.lt (h2 j _ S2 (List.getElem?_eq_getElem hjt) he).1 b hbS
    have new : ∀ b ∈ S', b ∈ S ∨ w.heap.size ≤ b := hm.own
    rw [List.getElem?_set] at e1 e2
    by_cases ej : i = j
    · rw [if_pos ej, if_pos (by rw [h1]; exact hil)] at e1
      injection e1 with e1
      subst e1
      by_cases ek : i = k
      · omega
      · rw [if_neg ek] at e2
        rcases new b hb1 with h4 | h4
        · exact h3 i k S S2 hS e2 ek b h4 hb2
        · have := low k S2 e2 b hb2; omega
    · rw [if_neg ej] at e1
      by_cases ek : i = k
      · rw [if_pos ek, if_pos (by rw [h1]; exact hil)] at e2
        injection e2 with e2
        subst e2
        rcases new b hb2 with h4 | h4
        · exact h3 i j S S1 hS e1 ej b h4 hb1
        · have := low j S1 e1 b hb1; omega
      · rw [if_neg ek] at e2
        exact h3 j k S1 S2 e1 e2 hne b hb1 hb2
  · refine hm.turn.block b hb (fun hbS => ?_)
    rcases K.ty hp.1 b hbS with e | e
    · exact n1 e
    · exact n2 e
theorem Tabs17.tbl (K : Tk17 P) (h : Tabs17 P w0 w ts) {i : Nat} {t : Tb17} (hi : ts[i]? = some t) : Tbl14 t.sz t.l := by
  obtain ⟨S, hp, _⟩ := h.at K hi
  exact K.tbl hp
end
theorem set_self17 {ts : List Tb17} {i : Nat} {t : Tb17} (h : ts[i]? = some t) : ts.set i ⟨t.q, t.sz, t.l⟩ = ts := by
  refine List.ext_getElem? fun j => ?_
  rw [List.getElem?_set]
  by_cases e : i = j
  · subst e
    rw [if_pos rfl, if_pos (List.getElem?_eq_some_iff.1 h).1, h]
  · rw [if_neg e]

theorem set_id17 {α : Type} {l : List α} {i : Nat} {x : α} (h : l[i]? = some x) : l.set i x = l := by
  refine List.ext_getElem? fun j => ?_
  rw [List.getElem?_set]
  by_cases e : i = j
  · subst e
    rw [if_pos rfl, if_pos (List.getElem?_eq_some_iff.1 h).1, h]
  · rw [if_neg e]

/-! ### plain -/
/-- Entries come out of those that were there, and of the one that is admitted. -/
theorem adm_grow17 {sz : Nat} {l : List Et} (hs : Srt14 l) (k : Ky) (w : Wn) : (aAdmit sz l k w).1.length ≤ l.length + 1 ∧ ∀ x ∈ (aAdmit sz l k w).1, x ∈ l ∨ x.k = k := by
  have ha := aAdmit_is (size := sz) hs k w
  generalize aAdmit sz l k w = r at ha
  cases ha with
  | bad _ => exact ⟨Nat.le_succ _, fun x hx => .inl hx⟩
  | have_ _ _ => exact ⟨Nat.le_succ _, fun x hx => .inl hx⟩
  | full _ _ _ => exact ⟨Nat.le_succ _, fun x hx => .inl hx⟩
  | room _ _ _ _ _ _ _ => exact ⟨Nat.le_succ _, fun x hx => .inl hx⟩
  | ok _ _ _ m h4 _ _ =>
    refine ⟨by rw [wIns_length]; have := h4.sub.length_le; omega, fun x hx => ?_⟩
    rcases mem_wIns.1 hx with hx | rfl
    · exact .inl (h4.sub.subset hx)
    · exact .inr rfl
theorem drop_less17 (l : List Et) (k : Ky) : (aDrop l k).1.length ≤ l.length ∧ ∀ x ∈ (aDrop l k).1, x ∈ l := by
  unfold aDrop
  split
  · exact ⟨List.length_filter_le _ _, fun x hx => (List.mem_filter.1 hx).1⟩
  · exact ⟨Nat.le_refl _, fun x hx => hx⟩
/-- What the tables of the links hold behind i calls: each is of its link's size, has at most i entries, and none of the key's kin. -/
structure Hold17 (L : List Lk) (z : Ky) (i : Nat) (ts : List Tb17) : Prop where
  len : ts.length = L.length
  sz : ∀ (k : Nat) (t : Tb17), ts[k]? = some t → (t.sz : Int) = (L.getD k default).c
  few : ∀ (k : Nat) (t : Tb17), ts[k]? = some t → t.l.length ≤ i
  kin : ∀ (k : Nat) (t : Tb17), ts[k]? = some t → ∀ x ∈ t.l, kKin x.k z = false
theorem Hold17.more {L : List Lk} {z : Ky} {i : Nat} {ts : List Tb17} (h : Hold17 L z i ts) : Hold17 L z (i + 1) ts := ⟨h.len, h.sz, fun k t ht => Nat.le_succ_of_le (h.few k t ht), h.kin⟩
theorem Hold17.set {L : List Lk} {z : Ky} {i : Nat} {ts : List Tb17} (h : Hold17 L z i ts) {j : Nat} {t : Tb17} (hj : ts[j]? = some t) {l' : List Et} (hl : l'.length ≤ i + 1) (hk : ∀ x ∈ l', kKin x.k z = false) : Hold17 L z (i + 1) (ts.set j ⟨t.q, t.sz, l'⟩) := by
  have hjl := (List.getElem?_eq_some_iff.1 hj).1
  have key : ∀ (k : Nat) (u : Tb17), (ts.set j ⟨t.q, t.sz, l'⟩)[k]? = some u → (j = k ∧ u = ⟨t.q, t.sz, l'⟩) ∨ ts[k]? = some u := fun k u hu => by
    rw [List.getElem?_set] at hu
    by_cases e : j = k
    · rw [if_pos e, if_pos hjl] at hu
      injection hu with hu
      exact .inl ⟨e, hu.symm⟩
    · rw [if_neg e] at hu
      exact .inr hu
  refine ⟨by rw [List.length_set]; exact h.len, fun k u hu => ?_, fun k u hu => ?_, fun k u hu => ?_⟩
  · rcases key k u hu with ⟨rfl, rfl⟩ | hu
    · exact h.sz _ t hj
    · exact h.sz k u hu
  · rcases key k u hu with ⟨rfl, rfl⟩ | hu
    · exact hl
    · exact Nat.le_succ_of_le (h.few k u hu)
  · rcases key k u hu with ⟨rfl, rfl⟩ | hu
    · exact hk
    · exact h.kin k u hu
theorem Hold17.adm_ {L : List Lk} {z : Ky} {i : Nat} {ts : List Tb17} (h : Hold17 L z i ts) {j : Nat} {t : Tb17} (hj : ts[j]? = some t) (hb : Tbl14 t.sz t.l) {k : Ky} (hk : kKin k z = false) (v : Wn) : Hold17 L z (i + 1) (ts.set j ⟨t.q, t.sz, (aAdmit t.sz t.l k v).1⟩) := by
  obtain ⟨h1, h2⟩ := adm_grow17 (sz := t.sz) hb.srt k v
  refine h.set hj (Nat.le_trans h1 (Nat.succ_le_succ (h.few j t hj))) fun x hx => ?_
  rcases h2 x hx with hx | e
  · exact h.kin j t hj x hx
  · rw [e]; exact hk
theorem Hold17.dro_ {L : List Lk} {z : Ky} {i : Nat} {ts : List Tb17} (h : Hold17 L z i ts) {j : Nat} {t : Tb17} (hj : ts[j]? = some t) (k : Ky) : Hold17 L z (i + 1) (ts.set j ⟨t.q, t.sz, (aDrop t.l k).1⟩) := by
  obtain ⟨h1, h2⟩ := drop_less17 t.l k
  exact h.set hj (Nat.le_succ_of_le (Nat.le_trans h1 (h.few j t hj))) fun x hx => h.kin j t hj x (h2 x hx)
/-- What is free in a table. -/
def fr17 (t : Tb17) : List Nat := lFree (ledgOf t.sz (fams t.l))
/-- What is told of the first i links. -/
def adv17 (L : List Lk) (ts : List Tb17) (i : Nat) : List Ad := (List.range i).map (fun k => ⟨L.getD k default, 0, true, fr17 (ts.getD k ⟨0, 0, []⟩)⟩)
theorem adv17_length (L : List Lk) (ts : List Tb17) (i : Nat) : (adv17 L ts i).length = i := by simp [adv17]
theorem adv17_snoc (L : List Lk) (ts : List Tb17) (i : Nat) : adv17 L ts (i + 1) = adv17 L ts i ++ [⟨L.getD i default, 0, true, fr17 (ts.getD i ⟨0, 0, []⟩)⟩] := by
  unfold adv17
  rw [List.range_succ, List.map_append]; rfl
/-- What fits has room. -/
theorem fit17_room {w : Wn} {x : Ad} (h : fit16 ⟨w, [], [], []⟩ x = true) (hf : x.f.getD w.su.toNat 0 < 18446744073709551616) : w.bw ≤ x.f.getD w.su.toNat 0 := by
  unfold fit16 room16 had16 at h
  have ho : own16 [] x.k.f x.k.t = 0 := rfl
  simp only [ho, Nat.add_zero, Bool.and_eq_true, hf, decide_true] at h
  simpa using h.2.2.2.2
theorem fr17_length (t : Tb17) : (fr17 t).length = 8 := lFree_length _
theorem fr17_lt {t : Tb17} (hb : Tbl14 t.sz t.l) (hs : t.sz < 18446744073709551616) (j : Nat) : (fr17 t).getD j 0 < 18446744073709551616 := by
  have h1 := lFree_bound (ledgOf t.sz (fams t.l)) j
  rw [(ledgOf_sum (size := t.sz) (fams_ho hb.srt hb.rgt)).2.2] at h1
  unfold fr17
  omega
theorem adv17_mem {L : List Lk} {ts : List Tb17} {i : Nat} {a : Ad} (h : a ∈ adv17 L ts i) : ∃ k, k < i ∧ a = ⟨L.getD k default, 0, true, fr17 (ts.getD k ⟨0, 0, []⟩)⟩ := by
  obtain ⟨k, hk, rfl⟩ := List.mem_map.1 h
  exact ⟨k, List.mem_range.1 hk, rfl⟩
theorem adv17_map (L : List Lk) (ts : List Tb17) : (adv17 L ts L.length).map (·.k) = L := by
  unfold adv17
  rw [List.map_map]
  refine List.ext_getElem (by simp) fun k h1 h2 => ?_
  simp [List.getD_eq_getElem?_getD, List.getElem?_eq_getElem h2]
theorem Hold17.at_ {L : List Lk} {z : Ky} {i : Nat} {ts : List Tb17} (h : Hold17 L z i ts) {k : Nat} (hk : k < L.length) : ∃ t, ts[k]? = some t ∧ ts.getD k ⟨0, 0, []⟩ = t := by
  have hl : k < ts.length := by rw [h.len]; exact hk
  exact ⟨ts[k], List.getElem?_eq_getElem hl, by rw [List.getD_eq_getElem?_getD, List.getElem?_eq_getElem hl]; rfl⟩
end Go.Proofs.YtjflbfianncpfaaGreat
