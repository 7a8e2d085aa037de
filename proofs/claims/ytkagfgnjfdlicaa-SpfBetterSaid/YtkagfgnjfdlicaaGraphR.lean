/-
  Which nodes can be come to, plain; a list of marks in memory; a queue of numbers in memory. No condition: definitions and their simplest consequences.
-/
import Derived.Test.YtkagfgnjfdlicaaGraphB
import Derived.Test.YtkagfgnjfdlicaaInts
namespace Go.Proofs.Ytkagfgnjfdlicaa
set_option maxRecDepth 100000
open Go.RowKit

/-- One can come from a node to another one. -/
inductive Rch (L : List Lk) (a : Int) : Int → Prop where
  | refl : Rch L a a
  | step {x : Lk} : Rch L a x.f → x ∈ L → Rch L a x.t
def bat (bs : List Bool) (x : Int) : Bool := bs.getD x.toNat false
theorem bat_set {bs : List Bool} {k : Nat} (hk : k < bs.length) (x : Int) (hx : 0 ≤ x) : bat (bs.set k true) x = (if x = (k : Int) then true else bat bs x) := by
  unfold bat
  by_cases h : x = (k : Int)
  · subst h; rw [if_pos rfl]; simp [hk]
  · rw [if_neg h]
    have : x.toNat ≠ k := by omega
    simp [List.getElem?_set_ne (Ne.symm this)]
theorem count_set : ∀ (bs : List Bool) (k : Nat), k < bs.length → bs.getD k false = false → (bs.set k true).count false + 1 = bs.count false
  | [], k, hk, _ => by simp at hk
  | b :: bs, 0, _, h => by
    have : b = false := by simpa using h
    subst this
    simp
  | b :: bs, k + 1, hk, h => by
    have ih := count_set bs k (by simpa using hk) (by simpa using h)
    rw [List.set_cons_succ, List.count_cons, List.count_cons]
    omega
/-- Where the search stands: what is marked can be come to, what waits is marked, and of what is marked and waits no more all that it leads to is marked, but for these links. -/
structure Srch (n : Nat) (L : List Lk) (a : Int) (bs : List Bool) (left : List Int) (but : Lk → Prop) : Prop where
  len : bs.length = n
  start : bat bs a = true
  pos : 0 ≤ a
  sound : ∀ x : Int, 0 ≤ x → x < n → bat bs x = true → Rch L a x
  wait : ∀ x ∈ left, 0 ≤ x ∧ x < n ∧ bat bs x = true
  closed : ∀ z ∈ L, bat bs z.f = true → z.f ∈ left ∨ bat bs z.t = true ∨ but z
section
variable {n : Nat} {L : List Lk} {a : Int} {bs : List Bool} {left : List Int} {but : Lk → Prop}
/-- Are all ends of links nodes? -/
def EndsIn (n : Nat) (L : List Lk) : Prop := ∀ z ∈ L, 0 ≤ z.f ∧ z.f < n ∧ 0 ≤ z.t ∧ z.t < n
theorem Srch.done (h : Srch n L a bs [] (fun _ => False)) (x : Int) (h0 : 0 ≤ x) (h1 : x < n) : bat bs x = true ↔ Rch L a x := by
  refine ⟨h.sound x h0 h1, fun hr => ?_⟩
  clear h0 h1
  induction hr with
  | refl => exact h.start
  | step _ hx ih =>
    rcases h.closed _ hx ih with h2 | h2 | h2
    · cases h2
    · exact h2
    · exact h2.elim
theorem bat_none (n : Nat) (x : Int) : bat (List.replicate n false) x = false := by
  unfold bat
  rcases Nat.lt_or_ge x.toNat n with h | h
  · simp [h]
  · simp [h]
theorem Srch.begin (he : 0 ≤ a ∧ a < n) (hE : EndsIn n L) : Srch n L a ((List.replicate n false).set a.toNat true) [a] (fun _ => False) := by
  have hk : a.toNat < (List.replicate n false).length := by simp; omega
  have e : ((a.toNat : Nat) : Int) = a := by omega
  refine ⟨by simp, by rw [bat_set hk a he.1, e, if_pos rfl], he.1, fun x h0 h1 hb => ?_, fun x hx => ?_, fun z hz hb => ?_⟩
  · rw [bat_set hk x h0, e] at hb
    by_cases h : x = a
    · subst h; exact Rch.refl
    · rw [if_neg h, bat_none] at hb; cases hb
  · simp at hx; subst hx
    exact ⟨he.1, he.2, by rw [bat_set hk x he.1, e, if_pos rfl]⟩
  · rw [bat_set hk z.f (hE z hz).1, e] at hb
    by_cases h : z.f = a
    · exact .inl (by simp [h])
    · rw [if_neg h, bat_none] at hb; cases hb
theorem Srch.weaken {but' : Lk → Prop} (h : Srch n L a bs left but) (hb : ∀ z ∈ L, but z → but' z ∨ bat bs z.t = true) : Srch n L a bs left but' := by
  refine ⟨h.len, h.start, h.pos, h.sound, h.wait, fun z hz hf => ?_⟩
  rcases h.closed z hz hf with h1 | h1 | h1
  · exact .inl h1
  · exact .inr (.inl h1)
  · rcases hb z hz h1 with h2 | h2
    · exact .inr (.inr h2)
    · exact .inr (.inl h2)
theorem Srch.pop {x : Int} {r : List Int} (h : Srch n L a bs (x :: r) (fun _ => False)) : Srch n L a bs r (fun z => z.f = x) := by
  refine ⟨h.len, h.start, h.pos, h.sound, fun y hy => h.wait y (List.mem_cons_of_mem _ hy), fun z hz hf => ?_⟩
  rcases h.closed z hz hf with h1 | h1 | h1
  · rcases List.mem_cons.1 h1 with h2 | h2
    · exact .inr (.inr h2)
    · exact .inl h2
  · exact .inr (.inl h1)
  · exact h1.elim
/-- One more is marked, and waits. -/
theorem Srch.mark {z : Lk} (h : Srch n L a bs left but) (hE : EndsIn n L) (hz : z ∈ L) (hf : bat bs z.f = true) : Srch n L a (bs.set z.t.toNat true) (left ++ [z.t]) but := by
  have hen := hE z hz
  have hk : z.t.toNat < bs.length := by have := h.len; omega
  have e : ((z.t.toNat : Nat) : Int) = z.t := by omega
  have hset : ∀ x : Int, 0 ≤ x → bat (bs.set z.t.toNat true) x = (if x = z.t then true else bat bs x) := fun x h0 => by rw [bat_set hk x h0, e]
  have ha : bat (bs.set z.t.toNat true) a = true := by
    rw [hset a h.pos]; split
    · rfl
    · exact h.start
  refine ⟨by rw [List.length_set]; exact h.len, ha, h.pos, fun x h0 h1 hb => ?_, fun x hx => ?_, fun y hy hb => ?_⟩
  · rw [hset x h0] at hb
    by_cases hxt : x = z.t
    · rw [hxt]; exact (h.sound z.f hen.1 hen.2.1 hf).step hz
    · rw [if_neg hxt] at hb; exact h.sound x h0 h1 hb
  · rcases List.mem_append.1 hx with hx | hx
    · obtain ⟨h0, h1, h2⟩ := h.wait x hx
      exact ⟨h0, h1, by rw [hset x h0]; split; rfl; exact h2⟩
    · simp at hx; subst hx
      exact ⟨hen.2.2.1, hen.2.2.2, by rw [hset _ hen.2.2.1, if_pos rfl]⟩
  · have hy0 := hE y hy
    rw [hset y.f hy0.1] at hb
    by_cases hyt : y.f = z.t
    · exact .inl (List.mem_append_right _ (by simp [hyt]))
    · rw [if_neg hyt] at hb
      rcases h.closed y hy hb with h1 | h1 | h1
      · exact .inl (List.mem_append_left _ h1)
      · exact .inr (.inl (by rw [hset y.t hy0.2.2.1]; split; rfl; exact h1))
      · exact .inr (.inr h1)
end
theorem net_ends {n : Nat} {L : List Lk} (h : netB (n : Int) L = true) : EndsIn n L := by
  intro z hz
  simp only [netB, Bool.and_eq_true, List.all_eq_true, vld, gwn, decide_eq_true_eq] at h
  have := h.1 z hz
  omega

/-! ### a queue of whole numbers -/

/-- A slice of a block of the call's own, from some place on, reads as these numbers. -/
def Que (w : World) (base : Nat) (A : Option Addr) (c : Nat) (l : List Int) : Prop :=
  ∃ b o cur, A = some ⟨b, o, none⟩ ∧ base ≤ b ∧ w.heap[b]? = some (.cells cur 3 (0, 0)) ∧ l.length ≤ c ∧ o + c ≤ cur.size ∧ ∀ (i : Nat) (h : i < l.length), cur[o + i]? = some (.int .i64 l[i])
section
variable {w w' : World} {base c : Nat} {A : Option Addr} {l : List Int}
theorem Que.ge (h : Que w base A c l) {x : Nat} (hx : blk A = some x) : base ≤ x ∧ x < w.heap.size := by
  obtain ⟨b, o, cur, rfl, hb, hc, _⟩ := h
  injection hx with hx
  subst hx
  exact ⟨hb, (Array.getElem?_eq_some_iff.1 hc).1⟩
theorem Que.kept (h : Que w base A c l) {r : Option Nat} (hg : w.grownBy w' r) (hne : ∀ x, blk A = some x → r ≠ some x) : Que w' base A c l := by
  have h0 := h
  obtain ⟨b, o, cur, rfl, hb, hc, hl, ho, hi⟩ := h
  exact ⟨b, o, cur, rfl, hb, (hg.block b (h0.ge rfl).2 (fun e => hne b rfl e.symm)).trans hc, hl, ho, hi⟩
theorem Que.bel (h : Que w base A c l) (hb : Below w.heap.size w w') : Que w' base A c l :=
  h.kept (r := none) ⟨hb.os, hb.tape, hb.output, hb.size, fun k hk _ => hb.block k hk⟩ (by simp)
theorem Que.cell (h : Que w base A c l) (h0 : 0 < l.length) : ∃ b o : Nat, A = some ⟨b, o, none⟩ ∧ w.cell? ⟨b, o, none⟩ = some (.int .i64 l[0]) := by
  obtain ⟨b, o, cur, rfl, hb, hc, hl, ho, hi⟩ := h
  exact ⟨b, o, rfl, by rw [cell_of_row _ _ _ _ _ _ hc]; exact hi 0 h0⟩
theorem que_new (w : World) (base : Nat) (x : Int) (hb : base ≤ w.heap.size) : Que (w.alloc (.cells #[.int .i64 x] 3)) base (some ⟨w.heap.size, 0, none⟩) 1 [x] :=
  ⟨w.heap.size, 0, #[.int .i64 x], rfl, hb, heap_alloc_new w _, by simp, by simp, fun i hi => by
    obtain rfl : i = 0 := by simp at hi; exact hi
    rfl⟩
/-- What is left behind the first one. -/
theorem Que.rest {b o : Nat} (h : Que w base (some ⟨b, o, none⟩) c l) : Que w base (some ⟨b, o + 1, none⟩) (c - 1) (l.drop 1) ∨ (c ≤ 1) := by
  by_cases hc1 : c ≤ 1
  · exact .inr hc1
  · obtain ⟨b', o', cur, e, hb, hc, hl, ho, hi⟩ := h
    injection e with e
    injection e with e1 e2
    subst e1
    subst e2
    refine .inl ⟨b, o + 1, cur, rfl, hb, hc, by simp; omega, by omega, fun i hi2 => ?_⟩
    have hi3 : i < l.length - 1 := by simpa using hi2
    have := hi (1 + i) (by omega)
    rw [List.getElem_drop, Nat.add_assoc]; exact this
theorem Que.none_left {b o : Nat} (h : Que w base (some ⟨b, o, none⟩) c l) : Que w base (some ⟨b, o, none⟩) 0 [] := by
  obtain ⟨b', o', cur, e, hb, hc, hl, ho, hi⟩ := h
  injection e with e
  injection e with e1 e2
  subst e1
  subst e2
  exact ⟨b, o, cur, rfl, hb, hc, Nat.le_refl _, by omega, fun i hi2 => by simp at hi2⟩
theorem que_push (h : Que w base A c l) (x : Int) (hlen : l.length ≤ 1099511627776) (ty : TypeId) :
    ∃ A' c' w', (Builtin.append_ #[23, 23] ty #[.slice A l.length c, .slice (some ⟨w.heap.size, 0, none⟩) 1 1]).run Try.prog (w.alloc (.cells #[.int .i64 x] 3)) = .ok (.slice A' (l.length + 1) c') w' ∧
      Que w' base A' c' (l ++ [x]) ∧ w.grownBy w' (blk A) ∧ (blk A' = blk A ∨ ∃ g, blk A' = some g ∧ w.heap.size ≤ g) := by
  obtain ⟨i, hi, hzz⟩ := Option.map_eq_some_iff.1 infoInt
  simp only [Prod.mk.injEq] at hzz
  obtain ⟨hz, hsz, hby⟩ := hzz
  have hlt := (h.ge (x := (A.map (·.block)).getD 0) (by obtain ⟨b, o, cur, rfl, _⟩ := h; rfl)).2
  obtain ⟨b, o, cur, rfl, hb, hc, hl, ho, hcell⟩ := h
  have hlt : b < w.heap.size := hlt
  have hc2 : (w.alloc (.cells #[.int .i64 x] 3)).heap[b]? = some (.cells cur 3 (0, 0)) := (Below.heap_alloc _ _ _ hlt).trans hc
  have hnews : ∀ j u, ([.int .i64 x] : List Value)[j]? = some u → (w.alloc (.cells #[.int .i64 x] 3)).cell? ((⟨w.heap.size, 0, none⟩ : Addr).add j) = some u := fun j u hu => by
    rw [add_plain, cell_of_row _ _ _ _ _ _ (heap_alloc_new w _)]
    simpa using hu
  have hga : w.grownBy (w.alloc (.cells #[.int .i64 x] 3)) (some b) := World.grownBy_alloc w _ _
  by_cases hroom : l.length + 1 ≤ c
  · have hin : o + l.length < cur.size := by omega
    have hrun := run_append_room_cells (P := Try.prog) (w.alloc (.cells #[.int .i64 x] 3)) 23 ty 3 i Try.underlying23 hi b o l.length c ⟨w.heap.size, 0, none⟩ 1 1 [.int .i64 x] (by rw [hsz]; rfl) hnews
      (by intro u hu; simp at hu; subst hu; rfl) hroom
      (fun j hj => by
        have : j = 0 := by simp at hj; exact hj
        subst this
        rw [hsz, cell_of_row _ _ _ _ _ _ hc2]; simp; omega)
      (fun j hj => by simp [World.frozen?, hc2])
    rw [hsz, Nat.mul_one] at hrun
    refine ⟨_, c, _, hrun, ⟨b, o, cur.set! (o + l.length) (.int .i64 x), rfl, hb, ?_, by simp; omega, by simp; omega, fun k hk => ?_⟩, ?_, .inl rfl⟩
    · simp [World.setCells, World.setCell, Array.getElem?_modify, hc2]
    · by_cases hkl : k < l.length
      · rw [List.getElem_append_left hkl]
        have := hcell k hkl
        rw [Array.set!_eq_setIfInBounds, Array.getElem?_setIfInBounds_ne (by omega)]; exact this
      · obtain rfl : k = l.length := by simp at hk; omega
        simp [hin]
    · have h2 : (w.alloc (.cells #[.int .i64 x] 3)).grownBy ((w.alloc (.cells #[.int .i64 x] 3)).setCells b (o + l.length) [.int .i64 x]) (some b) := by
        unfold World.setCells World.setCells
        exact ⟨rfl, rfl, rfl, by simp [World.setCell], fun j _ hj => Below.heap_setCell _ _ _ _ (fun e => hj (by rw [e]))⟩
      exact hga.trans h2
  · obtain ⟨v', w', hrun, hown, hg⟩ := run_append_arg_grows (P := Try.prog) (w.alloc (.cells #[.int .i64 x] 3)) 23 ty 3 i (.int .i64 0) 1 8 Try.underlying23 hi hz hsz hby rfl (by omega)
      ⟨b, o, none⟩ l.length c (l.map (Value.int .i64)) (by simp) (fun j u hu => by
        have hj : j < l.length := by
          rcases Nat.lt_or_ge j l.length with h | h
          · exact h
          · rw [List.getElem?_eq_none (by simpa using h)] at hu; cases hu
        rw [add_plain, cell_of_row _ _ _ _ _ _ hc2, hcell j hj]
        simpa [hj] using hu) ⟨w.heap.size, 0, none⟩ 1 1 [.int .i64 x] rfl hnews (by omega) (by unfold maxLen; omega) (by omega)
    rcases hown.2 with ⟨hv, hn⟩ | ⟨g, cap, cur2, hv, hbg, hh, h1, h2, h3, h4⟩
    · omega
    · subst hv
      refine ⟨_, cap, w', hrun, ⟨g, 0, cur2, rfl, ?_, hh, by simpa using h1, by omega, fun k hk => ?_⟩, ?_, .inr ⟨g, rfl, ?_⟩⟩
      · have : w.heap.size + 1 ≤ g := by simpa using hbg
        omega
      · rw [Nat.mul_one] at h4
        have hk2 : k < l.length + 1 := by simpa using hk
        have h5 : (cur2.toList.take (l.length + 1))[k]? = (l.map (Value.int .i64) ++ [Value.int .i64 x])[k]? := by rw [h4]
        rw [List.getElem?_take_of_lt hk2] at h5
        rw [Nat.zero_add, ← Array.getElem?_toList, h5]
        rw [show (l.map (Value.int .i64) ++ [Value.int .i64 x]) = (l ++ [x]).map (Value.int .i64) by simp, List.getElem?_map, List.getElem?_eq_getElem hk]; rfl
      · exact hga.trans ⟨hg.os, hg.tape, hg.output, hg.size, fun k hk _ => hg.block k hk (by simp)⟩
      · have : w.heap.size + 1 ≤ g := by simpa using hbg
        omega
end
end Go.Proofs.Ytkagfgnjfdlicaa
