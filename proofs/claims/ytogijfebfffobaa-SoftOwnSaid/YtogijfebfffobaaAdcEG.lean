/-
  Contracts of package admit: the families of a table in memory; next, book, fits. Condition: at most a thousand families.
  Contracts of package admit: fits; slices.Grow of none, slices.Concat, slices.Clone, slices.Delete as they are used there. Condition: at most a thousand slices of a thousand entries each.
  Contracts of package admit: parts of slices; slices.Clone and slices.Delete of entries, slices.Delete of families. Condition: at most a thousand entries.
-/
import Derived.Test.YtogijfebfffobaaAdcKD
import Derived.Test.YtogijfebfffobaaAdmAH
import Derived.Test.YtogijfebfffobaaLedgMK
import Derived.Deep.CutBlock
import Derived.Lib.AppendZeros
import Derived.Lib.SliceRun
namespace Go.Proofs.Ytogijfebfffobaa
set_option maxRecDepth 100000
set_option linter.unusedVariables false
open Go.RowKit

/-- A family as it lies in memory: its slice, and its paths. -/
structure SF where
  a : Option Addr
  n : Nat
  c : Nat
  g : List Et
def sfc (p : SF) : List Value := [.slice p.a p.n p.c]
theorem sfc_length (p : SF) : (sfc p).length = 1 := rfl
theorem sfc_one (p : SF) : ∀ u ∈ sfc p, u.oneCell' = true := by intro u hu; simp [sfc] at hu; subst hu; rfl
/-- Such families. -/
def Sfs (w : World) (B : Nat) (fs : List SF) : Prop := ∀ p ∈ fs, Row ent w B p.a p.n p.g ∧ 0 < p.n ∧ p.n ≤ 1024 ∧ p.n ≤ p.c
theorem Sfs.below {w w' : World} {B : Nat} {fs : List SF} (h : Sfs w B fs) (hb : Below B w w') : Sfs w' B fs := fun p hp => ⟨(h p hp).1.below hb, (h p hp).2⟩
theorem Sfs.more {w : World} {B B' : Nat} {fs : List SF} (h : Sfs w B fs) (hB : B ≤ B') : Sfs w B' fs := fun p hp => ⟨(h p hp).1.more hB, (h p hp).2⟩
/-- One family's slice. -/
theorem row_sf {w : World} {B m : Nat} {A : Option Addr} {fs : List SF} (h : Row sfc w B A m fs) (h0 : 0 < m) : ∃ b o, A = some ⟨b, o, none⟩ ∧ b < B ∧ ∀ (i : Nat) (hi : i < fs.length) (W : World), W.heap[b]? = w.heap[b]? → W.cell? ⟨b, o + i, none⟩ = some (.slice fs[i].a fs[i].n fs[i].c) := by
  obtain ⟨b, o, e, hb, hc⟩ := h.cells sfc_length h0
  refine ⟨b, o, e, hb, fun i hi W hW => ?_⟩
  have := hc i hi 0 (by omega)
  rw [Nat.mul_one, Nat.add_zero] at this
  rw [World.cell?_of_block (w := w) (a := ⟨b, o + i, none⟩) hW, this]
  rfl
/-- What they tell. -/
def Fof (fs : List SF) : List Fam := fs.map fun p => gF p.g
theorem Fof_snoc {fs : List SF} {i : Nat} (hi : i < fs.length) : Fof (fs.take (i + 1)) = Fof (fs.take i) ++ [gF fs[i].g] := by
  unfold Fof
  rw [List.take_succ_eq_append_getElem hi, List.map_append]
  rfl
/-- Which family is the one that gives way among the first of them. -/
def Bst (k : Ky) (su : Int) (fs : List SF) (j : Nat) (b : Int) : Prop :=
  (b = -1 ∧ (Fof (fs.take j)).foldl (vstep k su) none = none) ∨ ∃ i : Nat, ∃ hi : i < fs.length, i < j ∧ b = (i : Int) ∧ (Fof (fs.take j)).foldl (vstep k su) none = some (gF fs[i].g)
theorem Bst.start (k : Ky) (su : Int) (fs : List SF) : Bst k su fs 0 (-1) := .inl ⟨rfl, by simp [Fof]⟩
theorem Bst.fold {k : Ky} {su : Int} {fs : List SF} {j : Nat} (hj : j < fs.length) : (Fof (fs.take (j + 1))).foldl (vstep k su) none = vstep k su ((Fof (fs.take j)).foldl (vstep k su) none) (gF fs[j].g) := by
  rw [Fof_snoc hj, List.foldl_append]; rfl
theorem Bst.stay {k : Ky} {su : Int} {fs : List SF} {j : Nat} {b : Int} (hj : j < fs.length) (h : Bst k su fs j b) (hg : gives14 k su (gF fs[j].g) = false) : Bst k su fs (j + 1) b := by
  rcases h with ⟨h1, h2⟩ | ⟨i, hi, hij, h1, h2⟩
  · exact .inl ⟨h1, by rw [Bst.fold hj, h2, vstep_none hg]⟩
  · exact .inr ⟨i, hi, by omega, h1, by rw [Bst.fold hj, h2, vstep_none hg]⟩
theorem Bst.take {k : Ky} {su : Int} {fs : List SF} {j : Nat} (hj : j < fs.length) (hg : gives14 k su (gF fs[j].g) = true) (hb : beats14 ((Fof (fs.take j)).foldl (vstep k su) none) (gF fs[j].g) = true) : Bst k su fs (j + 1) (j : Int) :=
  .inr ⟨j, hj, by omega, rfl, by rw [Bst.fold hj, vstep_some hg hb]⟩
theorem Bst.keep {k : Ky} {su : Int} {fs : List SF} {j i : Nat} (hj : j < fs.length) (hi : i < fs.length) (hij : i < j) (h2 : (Fof (fs.take j)).foldl (vstep k su) none = some (gF fs[i].g)) (hw : worse14 (gF fs[j].g) (gF fs[i].g) = false) : Bst k su fs (j + 1) (i : Int) := by
  refine .inr ⟨i, hi, by omega, rfl, ?_⟩
  rw [Bst.fold hj, h2]
  exact vstep_stay hw
/-- A ledger is loaded in a region whose order is drawn. -/
theorem way_load14 {P : Program} {ops : Array Oper} {Q : Exit → Act → World → Prop} {S : World → Prop} {i : Nat} {r : Way} {a : Act} {w : World} {o : Oper} {x : Operand} {ty t : TypeId} {g : Nat} {vs : List Value} {d : TypeDesc}
    (ho : ops.toList[i]? = some o) (hw : Region.wanted o (yielded ops a.tmps) = true) (hop : o.op = .load ty x) (hx : a.eval x = .pointer (some ⟨g, 0, none⟩)) (hb : ∀ W, S W → Blk W g t vs) (hu : P.underlying ty = some d) (hd : d.isRow = true) (hi : (P.info? ty).map (·.size) = some vs.length)
    (h : wpWay P ops Q S r (a.put o.dst (.agg vs.toArray)) w) : wpWay P ops Q S (.step i true r) a w :=
  ⟨o, _, by rw [← Array.getElem?_toList]; exact ho, yieldsIf_load_mid hw ty x hop g 0 hx vs d (fun W hW => (hb W hW).range) hu hd hi, h⟩
/-- What the families together hold. -/
def bookL (sz : Nat) (F : List Fam) : Lg := if fsum F ≤ sz then ledgOf sz F else lz
theorem ledgOf_snoc (sz : Nat) (F : List Fam) (f : Fam) : ledgOf sz (F ++ [f]) = lstep (ledgOf sz F) f := by unfold ledgOf; rw [List.foldl_append]; rfl
theorem put_step {sz : Nat} {F : List Fam} {f : Fam} (hF : ∀ f ∈ F, 0 ≤ f.ho ∧ f.ho ≤ 7) (hf : 0 ≤ f.ho ∧ f.ho ≤ 7) (h : fsum F ≤ sz) :
    lPut (ledgOf sz F) f.ho f.bw = if fsum (F ++ [f]) ≤ sz then (ledgOf sz (F ++ [f]), 0) else (lz, 14) := by
  obtain ⟨h1, h2, h3⟩ := ledgOf_sum (size := sz) hF
  have hr : lRight (ledgOf sz F) = true := decide_eq_true (by rw [h1, h3]; exact h)
  unfold lPut
  rw [if_pos ⟨hf, hr⟩, h1, h3, fsum_snoc, ledgOf_snoc]
  unfold lstep
  rw [h3]
end Go.Proofs.Ytogijfebfffobaa

namespace Go.Proofs.Ytogijfebfffobaa
set_option maxRecDepth 100000
set_option linter.unusedVariables false
open Go.RowKit

/-- One behind another. -/
def catF (fs : List SF) : List Et := (fs.map (·.g)).flatten
theorem catF_snoc {fs : List SF} {i : Nat} (hi : i < fs.length) : catF (fs.take (i + 1)) = catF (fs.take i) ++ fs[i].g := by
  unfold catF
  rw [List.take_succ_eq_append_getElem hi, List.map_append, List.flatten_append]
  simp
/-- Slices of entries, one at least or none in each. -/
def Sfs0 (w : World) (B : Nat) (fs : List SF) : Prop := ∀ p ∈ fs, Row ent w B p.a p.n p.g ∧ p.n ≤ 1024
theorem catF_le {w : World} {B : Nat} {fs : List SF} (h : Sfs0 w B fs) : ∀ i, (catF (fs.take i)).length ≤ i * 1024
  | 0 => by simp [catF]
  | i + 1 => by
    have ih := catF_le h i
    rcases Nat.lt_or_ge i fs.length with hi | hi
    · rw [catF_snoc hi, List.length_append]
      obtain ⟨h1, h2⟩ := h fs[i] (List.getElem_mem hi)
      have := h1.1
      omega
    · rw [List.take_of_length_le (by omega)]
      rw [List.take_of_length_le hi] at ih
      omega
end Go.Proofs.Ytogijfebfffobaa

namespace Go.Proofs.Ytogijfebfffobaa
set_option maxRecDepth 100000
set_option linter.unusedVariables false
open Go.RowKit

/-- No address, or one of a place of its own. -/
def Pla (a : Option Addr) : Prop := a = none ∨ ∃ b o, a = some ⟨b, o, none⟩
section
variable {P : Program} {ST T : TypeId} {k : Nat} {a : Option Addr}
theorem elem_of (ht : P.underlying ST = some (.slice T)) : P.underlying ST = some (.slice (P.elem ST)) := by rw [show P.elem ST = T by simp [Program.elem, ht]]; exact ht
theorem size_of14 {z : Option Value} {b : Nat} (hinfo : (P.info? T).map (fun i => (i.zero, i.size, i.bytes)) = some (z, k, b)) (w : World) : (sizeOf T).run P w = .ok k w := by
  obtain ⟨i, hi, hzz⟩ := Option.map_eq_some_iff.1 hinfo
  simp only [Prod.mk.injEq] at hzz
  simp [sizeOf, typeInfo, hi, hzz.2.1]
/-- From a place on. -/
def lowA (a : Option Addr) (j c k : Nat) : Option Addr := if c = j then a else a.map (·.add (j * k))
theorem slice_low (ht : P.underlying ST = some (.slice T)) (hs : ∀ w, (sizeOf T).run P w = .ok k w) (n c j : Nat) (hj : j ≤ n) (W : World) :
    (Instr.sliceAt ST (.slice a n c) (some (.int .i64 (j : Int))) none none).run P W = .ok (.slice (lowA a j c k) (n - j) (c - j)) W := by
  rw [run_sliceAt_slice (P := P) (w := W) ST _ _ _ _ (elem_of ht), run_slice_l (P := P) (w := W) ST a n c (elem_of ht) .i64 (j : Int) (by omega) (by omega)]
  rw [show P.elem ST = T by simp [Program.elem, ht], hs W]
  simp [sliced, Result.andThen, lowA]
theorem slice_mid (ht : P.underlying ST = some (.slice T)) (hs : ∀ w, (sizeOf T).run P w = .ok k w) (n c i j : Nat) (hij : i ≤ j) (hj : j ≤ c) (W : World) :
    (Instr.sliceAt ST (.slice a n c) (some (.int .i64 (i : Int))) (some (.int .i64 (j : Int))) none).run P W = .ok (.slice (lowA a i c k) (j - i) (c - i)) W := by
  rw [run_sliceAt_slice (P := P) (w := W) ST _ _ _ _ (elem_of ht), run_slice_lh (P := P) (w := W) ST a n c (elem_of ht) .i64 .i64 (i : Int) (j : Int) (by omega) (by omega) (by omega)]
  rw [show P.elem ST = T by simp [Program.elem, ht], hs W]
  simp [sliced, Result.andThen, lowA]
theorem add_nought {b o : Nat} (m : Nat) (h : m = 0) : (⟨b, o, none⟩ : Addr).add m = ⟨b, o, none⟩ := by rw [add_plain, h]; rfl
theorem slice_high (ht : P.underlying ST = some (.slice T)) (hs : ∀ w, (sizeOf T).run P w = .ok k w) (hp : Pla a) (n c j : Nat) (hj : j ≤ c) (W : World) :
    (Instr.sliceAt ST (.slice a n c) none (some (.int .i64 (j : Int))) none).run P W = .ok (.slice a j c) W := by
  rw [run_sliceAt_slice (P := P) (w := W) ST _ _ _ _ (elem_of ht), run_slice_h (P := P) (w := W) ST a n c (elem_of ht) .i64 (j : Int) (by omega) (by omega)]
  rw [show P.elem ST = T by simp [Program.elem, ht], hs W]
  rcases hp with rfl | ⟨b, o, rfl⟩
  · simp [sliced, Result.andThen]
  · simp [sliced, Result.andThen, add_nought]
theorem Pla.low (h : Pla a) (j c : Nat) : Pla (lowA a j c k) := by
  unfold lowA
  split
  · exact h
  · rcases h with rfl | ⟨b, o, rfl⟩
    · exact .inl rfl
    · exact .inr ⟨b, o + j * k, by rw [Option.map_some, add_plain]⟩
end
section
variable {α : Type} {enc : α → List Value} {k : Nat} {w : World} {B n : Nat} {a : Option Addr} {l : List α}
theorem Row.low (hk : ∀ x, (enc x).length = k) (h : Row enc w B a n l) (hp : Pla a) (j c : Nat) (hj : j ≤ n) (hc : n ≤ c) : Row enc w B (lowA a j c k) (n - j) (l.drop j) := by
  unfold lowA
  split
  · have : j = n := by omega
    subst this
    rw [Nat.sub_self, List.drop_of_length_le (by rw [h.1]; omega)]
    exact Row.nil
  · rcases hp with rfl | ⟨b, o, rfl⟩
    · have h0 : n = 0 := by
        rcases Nat.eq_zero_or_pos n with h0 | h0
        · exact h0
        · obtain ⟨b, o, e, _⟩ := h.2 h0; cases e
      subst h0
      have hl := h.zero
      subst hl
      rw [List.drop_nil]
      have : j = 0 := by omega
      subst this
      exact Row.nil
    · rw [Option.map_some, add_plain]
      exact h.rest hk j hj
theorem Row.head (hk : ∀ x, (enc x).length = k) (h : Row enc w B a n l) (j : Nat) (hj : j ≤ n) : Row enc w B a j (l.take j) := by
  have hn := h.1
  refine Row.mk hk (by simp; omega) fun h0 => ?_
  obtain ⟨b, o, e, hb, hc⟩ := h.cells hk (by omega)
  refine ⟨b, o, e, hb, fun i hi t ht => ?_⟩
  have hi' : i < j := by simp at hi; omega
  rw [hc i (by omega) t ht]
  simp
theorem AccR.pla {base c : Nat} {T : TypeId} (h : AccR enc k w base T a c l) : Pla a := by
  rcases h.2 with ⟨hv, _⟩ | ⟨g, _, _, hv, _⟩
  · injection hv with e _ _; exact .inl e
  · injection hv with e _ _; exact .inr ⟨g, 0, e⟩
end
theorem zero_of14 {P : Program} {T : TypeId} {z : Value} {k b : Nat} (hinfo : (P.info? T).map (fun i => (i.zero, i.size, i.bytes)) = some (some z, k, b)) (w : World) : (zeroValue T).run P w = .ok z w := by
  obtain ⟨i, hi, hzz⟩ := Option.map_eq_some_iff.1 hinfo
  simp only [Prod.mk.injEq] at hzz
  simp [zeroValue, typeInfo, hi, hzz.1]

theorem zeroCells_one (z : Array Value) : Builtin.zeroCells z 1 = z := by
  apply Array.ext
  · rw [size_zeroCells, Nat.one_mul]
  · intro i h1 h2
    simp [Builtin.zeroCells, Nat.mod_eq_of_lt h2, h2]
end Go.Proofs.Ytogijfebfffobaa
