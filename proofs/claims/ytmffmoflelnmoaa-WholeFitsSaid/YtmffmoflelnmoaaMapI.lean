/-
  Lists that rise, the keys of a map that are whole numbers, and worlds that part in some blocks. No condition: definitions and their simplest consequences.
-/
import Derived.Test.YtmffmoflelnmoaaAccV
import Derived.Test.YtmffmoflelnmoaaRow
import Derived.Test.YtmffmoflelnmoaaSeq
import Derived.Maps.OwnSet
import Derived.Maps.RangeWalk
import Derived.Sort.KeysCollected
namespace Go.Proofs.Ytmffmoflelnmoaa
open Go.RowKit Go.Maps

/-! ### lists that rise -/

/-- Each is less than the one behind it. -/
def Rising (s : List Int) : Prop := s.Pairwise (· < ·)

theorem Rising.nodup {s : List Int} (h : Rising s) : s.Nodup := List.Pairwise.imp (fun h e => by omega) h

theorem Rising.snoc {s : List Int} (h : Rising s) {x : Int} (hx : ∀ y ∈ s, y < x) : Rising (s ++ [x]) := by
  refine List.pairwise_append.2 ⟨h, by simp, ?_⟩
  intro a ha b hb
  simp at hb
  subst hb
  exact hx a ha

theorem Rising.filter {s : List Int} (h : Rising s) (p : Int → Bool) : Rising (s.filter p) := List.Pairwise.filter p h

theorem Rising.len : ∀ {s : List Int} {a b : Int}, Rising s → (∀ x ∈ s, a ≤ x ∧ x < b) → a ≤ b → (s.length : Int) ≤ b - a
  | [], a, b, _, _, hab => by simp; omega
  | x :: s, a, b, h, hx, hab => by
    have h0 := hx x (by simp)
    have h1 := List.pairwise_cons.1 h
    have := Rising.len (s := s) (a := x + 1) (b := b) h1.2 (fun y hy => ⟨by have := h1.1 y hy; omega, (hx y (by simp [hy])).2⟩) (by omega)
    simp
    omega

/-- A list without repeats that has just the members of one that rises, sorted, is that one. -/
theorem sort_rising {ss s : List Int} (hn : ss.Nodup) (hs : Rising s) (hm : ∀ x, x ∈ ss ↔ x ∈ s) : ss.mergeSort (fun x y => decide (x ≤ y)) = s := by
  have hp : ss.Perm s := (List.perm_ext_iff_of_nodup hn hs.nodup).2 hm
  refine List.Perm.eq_of_pairwise (le := fun a b : Int => decide (a ≤ b) = true) (fun a b _ _ h1 h2 => by simp at h1 h2; omega) (List.pairwise_mergeSort (fun a b c h1 h2 => by simp at *; omega) (fun a b => by simp; omega) ss) (hs.imp (fun h => by simp; omega)) ((List.mergeSort_perm ss _).trans hp)

/-! ### the keys of a map -/

theorem key_law : Keyed Try.prog 3 := int_keyed Try.underlying3

theorem own_tight {P : Program} {k : TypeId} {R : Value → Option (DataW Unit × List MemPlace)} {w : World} {b n : Nat} {D : DataW Unit} (h : w.ownsMap P k R b n D) : w.ownsMap P k R b (Maps.size D) D := by
  obtain ⟨es, clock, hb, F, hs, rfl⟩ := h
  exact ⟨es, clock, hb, F, by simp [Maps.size, length_sorted], rfl⟩

/-- The number of a key. -/
def litInt : Lit → Int
  | .int _ x => x
  | _ => 0

theorem keys_int {w : World} {R : Value → Option (DataW Unit × List MemPlace)} {b n : Nat} {D : DataW Unit} (h : w.ownsMap Try.prog 3 R b n D) : ∃ es, D = .map es ∧ es.Pairwise (fun p q => p.1 ≠ q.1) ∧ ∀ p ∈ es, ∃ x, p.1 = .int .i64 x := by
  obtain ⟨es, hD, hpw, _⟩ := h.entries key_law
  obtain ⟨es', hD', hko⟩ := h.keysOf
  obtain rfl : es = es' := by rw [hD] at hD'; simpa using hD'
  refine ⟨es, hD, hpw, fun p hp => ?_⟩
  obtain ⟨v, hv⟩ := hko p hp
  obtain ⟨x, _, hx, _⟩ := Maps.keyOf_int_inv Try.underlying3 hv
  exact ⟨x, hx⟩

theorem has_int {es : List (Lit × DataW Unit)} (hk : ∀ p ∈ es, ∃ x, p.1 = .int .i64 x) (x : Int) : Maps.has (.map es) (.int .i64 x) = true ↔ x ∈ es.map fun p => litInt p.1 := by
  rw [Maps.has_eq, List.any_eq_true, List.mem_map]
  constructor
  · rintro ⟨p, hp, hs⟩
    obtain ⟨a, ha⟩ := hk p hp
    rw [ha] at hs
    exact ⟨p, hp, by rw [ha]; simpa [Lit.sameKey, litInt] using hs⟩
  · rintro ⟨p, hp, rfl⟩
    obtain ⟨a, ha⟩ := hk p hp
    exact ⟨p, hp, by rw [ha]; simp [Lit.sameKey, litInt]⟩

theorem size_labels {w : World} {R : Value → Option (DataW Unit × List MemPlace)} {b n : Nat} {D : DataW Unit} {s : List Int} (h : w.ownsMap Try.prog 3 R b n D) (hs : Rising s) (hh : ∀ x : Int, Maps.has D (.int .i64 x) = decide (x ∈ s)) : Maps.size D = s.length := by
  obtain ⟨es, rfl, hpw, hk⟩ := keys_int h
  have hn : (es.map fun p => litInt p.1).Nodup := by
    refine List.pairwise_map.2 (hpw.imp_of_mem fun {p q} hp hq hne e => hne ?_)
    obtain ⟨a, ha⟩ := hk p hp
    obtain ⟨c, hc⟩ := hk q hq
    rw [ha, hc] at e ⊢
    simp only [litInt] at e
    rw [e]
  have hp : (es.map fun p => litInt p.1).Perm s := (List.perm_ext_iff_of_nodup hn hs.nodup).2 fun x => by
    rw [← has_int hk x, hh x]; simp
  have := hp.length_eq
  rw [Maps.size_eq]
  simpa using this

theorem has_put_int {D : DataW Unit} (hD : IsMap D) {s : List Int} (hh : ∀ x : Int, Maps.has D (.int .i64 x) = decide (x ∈ s)) (l : Int) (d : DataW Unit) (x : Int) : Maps.has (D.put (.int .i64 l) d) (.int .i64 x) = decide (x ∈ s ++ [l]) := by
  by_cases hx : x = l
  · subst hx
    rw [Maps.has_put_same hD (by simp [WideAt.IsKeyLit])]
    simp
  · rw [Maps.has_put_other (by simpa using hx), hh x]
    simp [hx]

theorem has_del_int {D : DataW Unit} {s : List Int} (hh : ∀ x : Int, Maps.has D (.int .i64 x) = decide (x ∈ s)) (l : Int) (x : Int) : Maps.has (D.del (.int .i64 l)) (.int .i64 x) = decide (x ∈ s.filter (fun y => !(y == l))) := by
  by_cases hx : x = l
  · subst hx
    rw [Maps.has_del_same]
    simp
  · rw [Maps.has_del_other (by simpa using hx), hh x]
    simp [hx]

/-! ### worlds that part in some blocks -/

/-- Nothing but the blocks of 'S', and new ones, has turned. -/
structure Turn (S : List Nat) (w w' : World) : Prop where
  os : w'.os = w.os
  tape : w'.tape = w.tape
  output : w'.output = w.output
  size : w.heap.size ≤ w'.heap.size
  block : ∀ k, k < w.heap.size → k ∉ S → w'.heap[k]? = w.heap[k]?

theorem Turn.refl (S : List Nat) (w : World) : Turn S w w := ⟨rfl, rfl, rfl, Nat.le_refl _, fun _ _ _ => rfl⟩
theorem Turn.trans {S : List Nat} {a b c : World} (h : Turn S a b) (k : Turn S b c) : Turn S a c :=
  ⟨k.os.trans h.os, k.tape.trans h.tape, k.output.trans h.output, Nat.le_trans h.size k.size, fun i hi hne => (k.block i (Nat.lt_of_lt_of_le hi h.size) hne).trans (h.block i hi hne)⟩
theorem Turn.of_below {S : List Nat} {a b : World} (h : Below a.heap.size a b) : Turn S a b := ⟨h.os, h.tape, h.output, h.size, fun k hk _ => h.block k hk⟩
theorem Turn.of_grown {S : List Nat} {a b : World} {r : Nat} (h : a.grownBy b (some r)) (hr : r ∈ S) : Turn S a b :=
  ⟨h.os, h.tape, h.output, h.size, fun k hk hne => h.block k hk (fun e => hne (by injection e with e; subst e; exact hr))⟩
theorem Turn.drewN {S : List Nat} {a b : World} (h : Turn S a b) (n : Nat) : Turn S a (b.drewN n) := ⟨h.os, h.tape, h.output, h.size, h.block⟩
theorem Turn.bel {S : List Nat} {B : Nat} {a w w' : World} (h : Below B a w) (hB : B ≤ a.heap.size) (ht : Turn S w w') (hS : ∀ k ∈ S, B ≤ k) : Below B a w' :=
  ⟨ht.os.trans h.os, ht.tape.trans h.tape, ht.output.trans h.output, Nat.le_trans h.size ht.size, fun k hk =>
    (ht.block k (Nat.lt_of_lt_of_le hk (Nat.le_trans hB h.size)) (fun hm => by have := hS k hm; omega)).trans (h.block k hk)⟩

theorem upd_set_p (w : World) (r k : Nat) (u : Value) : w.grownBy (w.setCell ⟨r, k, none⟩ u) (some r) :=
  ⟨rfl, rfl, rfl, by simp [World.setCell], fun j _ hj => Below.heap_setCell _ _ _ _ (fun e => hj (by rw [e]))⟩

end Go.Proofs.Ytmffmoflelnmoaa
