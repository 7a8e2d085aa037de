/-
  Slices of values of several cells that a call itself gathers, sorted by the library: what the sort asks, and what it leaves. No condition: laws over any encoding.
-/
import Derived.Test.YtjflbfianncpfaaGreatBase
import Derived.Shelf.SlSortCmp.NoneTotal
namespace Go.Proofs.YtjflbfianncpfaaGreat
open Go.RowKit Go.Shelf Go.Sort

section
variable {α : Type} [Inhabited α] {enc : α → List Value} {k : Nat}

theorem flatK_list (hk : ∀ x, (enc x).length = k) (l : List α) : flatK enc k l.toArray = (l.flatMap enc).toArray := by
  refine ext_get! (by simp [flat_length hk]) fun t ht => ?_
  have ht' : t < l.length * k := by simpa using ht
  have k0 : 0 < k := by
    rcases Nat.eq_zero_or_pos k with h | h
    · subst h; simp at ht'
    · exact h
  have hd : t / k < l.length := Nat.div_lt_of_lt_mul (by rw [Nat.mul_comm]; exact ht')
  have hm := Nat.mod_lt t k0
  have e1 : t / k * k + t % k = t := by rw [Nat.mul_comm]; exact Nat.div_add_mod t k
  have h1 := flat_get hk l (t / k) hd (t % k) hm
  rw [e1] at h1
  rw [get_flatK _ _ _ _ (by simpa using ht')]
  have h2 : (l.toArray)[t / k]! = l[t / k] := by simp [hd]
  rw [h2]
  have hl : t < (l.flatMap enc).length := by rw [flat_length hk]; exact ht'
  have hl2 : t % k < (enc l[t / k]).length := by rw [hk]; exact hm
  rw [List.getElem?_eq_getElem hl, List.getElem?_eq_getElem hl2] at h1
  injection h1 with h1
  generalize l.flatMap enc = F at *
  generalize enc l[t / k] = G at *
  simp [hl, hl2, h1]

theorem accr_holds (hk : ∀ x, (enc x).length = k) {w : World} {base c g : Nat} {T : TypeId} {l : List α} (h : AccR enc k w base T (some ⟨g, 0, none⟩) c l) : HoldsK enc k w g 0 l.toArray := by
  unfold HoldsK
  rw [flatK_list hk]
  rcases h.2 with ⟨hv, _⟩ | ⟨g', cap, cur, hv, hbase, hb, h1, h2, h3, h4⟩
  · cases hv
  injection hv with e1 e2 e3
  injection e1 with e1
  injection e1 with e1
  subst e1
  intro j hj
  have hj' : j < (l.flatMap enc).length := by simpa using hj
  have := World.ownsRow.cells h (g := g) rfl j (l.flatMap enc)[j] (by simp)
  rw [add_plain] at this
  refine ⟨?_, by simp [World.frozen?, hb]⟩
  rw [this]
  clear h h4 this hj
  generalize l.flatMap enc = F at *
  simp [hj']

theorem accr_sorted (hk : ∀ x, (enc x).length = k) {w : World} {base c g n : Nat} {os : Array Obj} {T : TypeId} {l : List α} (h : AccR enc k w base T (some ⟨g, 0, none⟩) c l) (ts : List α) (hl : ts.length = l.length) :
    AccR enc k (sortWorldK enc k w g 0 n ts.toArray os) base T (some ⟨g, 0, none⟩) c ts := by
  rcases h.2 with ⟨hv, _⟩ | ⟨g', cap, cur, hv, hbase, hb, h1, h2, h3, h4⟩
  · cases hv
  injection hv with e1 e2 e3
  injection e1 with e1
  injection e1 with e1
  subst e1
  subst e3
  have hg : g < w.heap.size := (Array.getElem?_eq_some_iff.1 hb).1
  have hlen : (ts.flatMap enc).length = ts.length * k := flat_length hk ts
  have hle : ts.length * k ≤ cur.size := by rw [h3, hl]; exact Nat.mul_le_mul_right _ h1
  refine ⟨by rw [hlen], .inr ⟨g, c, putCells id 0 (flatK enc k ts.toArray) cur, rfl, hbase, ?_, by omega, h2, by simp [putCells, h3], ?_⟩⟩
  · unfold sortWorldK putRowK
    rw [heap_grow_old _ _ (by simpa [putRow, mapBlock, Sort.ahead] using hg)]
    simp [putRow, mapBlock, Sort.ahead, Array.getElem?_modify, hb, onCells]
  · rw [flatK_list hk]
    apply List.ext_getElem?
    intro j
    by_cases hj : j < ts.length * k
    · rw [List.getElem?_take_of_lt hj, Array.getElem?_toList]
      have hj2 : j < (ts.flatMap enc).length := by rw [hlen]; exact hj
      have hj3 : j < cur.size := by omega
      generalize ts.flatMap enc = F at *
      simp [putCells, hj2, hj3]
    · rw [List.getElem?_take_eq_none (by omega), List.getElem?_eq_none (by rw [hlen]; omega)]

theorem grown_sortedK {w : World} {g n : Nat} {os : Array Obj} (d : Array α) : w.grownBy (sortWorldK enc k w g 0 n d os) (some g) := by
  refine ⟨rfl, rfl, rfl, by simp [sortWorldK, putRowK, putRow, mapBlock, Sort.ahead, grow], fun i hi hne => ?_⟩
  have : g ≠ i := fun e => hne (by rw [e])
  unfold sortWorldK putRowK
  rw [heap_grow_old _ _ (by simpa [putRow, mapBlock, Sort.ahead] using hi)]
  simp [putRow, mapBlock, Sort.ahead, Array.getElem?_modify, this]

theorem perm_of_in {d d' : Array α} (h : PermIn 0 d.size d d') : d'.toList.Perm d.toList := by
  obtain ⟨h1, _, h3⟩ := h
  have e1 : d.extract 0 d.size = d := by simp
  have e2 : d'.extract 0 d.size = d' := by rw [← h1]; simp
  rwa [e1, e2] at h3
theorem pairwise_of_in {lt : α → α → Bool} {d : Array α} (h : SortedIn lt 0 d.size d) : d.toList.Pairwise (fun a b => lt b a = false) := by
  rw [List.pairwise_iff_getElem]
  intro i j hi hj hij
  have := h i j (Nat.zero_le _) hij (by simpa using hj)
  have hi' : i < d.size := by simpa using hi
  have hj' : j < d.size := by simpa using hj
  simpa [hi', hj'] using this
end
end Go.Proofs.YtjflbfianncpfaaGreat
