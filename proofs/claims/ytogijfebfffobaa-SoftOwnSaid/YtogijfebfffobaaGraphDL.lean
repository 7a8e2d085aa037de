/-
  Contracts of package graph: Outs. Condition: at most 2^40 links.
  The document's Has, and whether two lists of numbers are the same; a node's links are fixed by what they must be. Condition: at most 2^40 numbers.
  Contracts of package graph: Route. Conditions: at most 2^30 links and nodes; Metrics of at most 2^40.
  The law's small, the document's Find and Route. Condition: at most 2^30 links; Metrics of at most 2^40 for Route.
  The document's Check. Condition: at most 2^30 links.
  Which nodes can be come to, plain; a list of marks in memory; a queue of numbers in memory. No condition: definitions and their simplest consequences.
  Contracts of package graph: Reach. Condition: at most 2^30 links.
  A route that is cut into two, plain: both are routes, and cost what it costs; all its nodes can be come to. No condition.
-/
import Derived.Test.YtogijfebfffobaaGraphAC
import Derived.Test.YtogijfebfffobaaSymS
import Derived.Test.YtogijfebfffobaaCmpI
import Derived.Test.YtogijfebfffobaaGrSU
import Derived.Test.YtogijfebfffobaaBase
namespace Go.Proofs.Ytogijfebfffobaa
set_option maxRecDepth 100000
open Go.RowKit

/-- Where a link leads, by its number. -/
def keyT (L : List Lk) (x : Int) : Int := (L.getD x.toNat default).t
/-- The links that lead from a node, among the first ones. -/
def gat (L : List Lk) (node : Int) (i : Nat) : List Int := ((List.range i).filter (fun k : Nat => (L.getD k default).f == node)).map (fun k : Nat => (k : Int))
theorem gat_succ (L : List Lk) (node : Int) (i : Nat) : gat L node (i + 1) = gat L node i ++ (if (L.getD i default).f == node then [(i : Int)] else []) := by
  unfold gat
  rw [List.range_succ, List.filter_append, List.map_append]
  congr 1
  generalize hb : ((L.getD i default).f == node) = b
  have hf : List.filter (fun k : Nat => (L.getD k default).f == node) [i] = if b = true then [i] else [] := by rw [List.filter_cons, hb]; rfl
  rw [hf]
  cases b <;> rfl
theorem gat_len (L : List Lk) (node : Int) (i : Nat) : (gat L node i).length ≤ i := by
  unfold gat
  rw [List.length_map]
  exact Nat.le_trans (List.length_filter_le _ _) (by simp)
theorem gat_rise (L : List Lk) (node : Int) (i : Nat) : (gat L node i).Pairwise (· < ·) := by
  unfold gat
  rw [List.pairwise_map]
  exact (List.Pairwise.filter _ List.pairwise_lt_range).imp (fun h => by omega)
theorem gat_mem (L : List Lk) (node x : Int) (i : Nat) : x ∈ gat L node i ↔ ∃ k : Nat, k < i ∧ (L.getD k default).f = node ∧ x = (k : Int) := by
  unfold gat
  simp only [List.mem_map, List.mem_filter, List.mem_range, beq_iff_eq]
  constructor
  · rintro ⟨k, ⟨h1, h2⟩, rfl⟩; exact ⟨k, h1, h2, rfl⟩
  · rintro ⟨k, h1, h2, rfl⟩; exact ⟨k, ⟨h1, h2⟩, rfl⟩
/-- The numbers of a node's links, by where they lead. -/
structure OutsOk (L : List Lk) (node : Int) (o : List Int) : Prop where
  order : o.Pairwise (fun x y => keyT L x < keyT L y ∨ keyT L x = keyT L y ∧ x < y)
  mem : ∀ x, x ∈ o ↔ ∃ k : Nat, k < L.length ∧ (L.getD k default).f = node ∧ x = (k : Int)
  len : o.length = (gat L node L.length).length
def OutsPost (w : World) (L : List Lk) (node : Int) (e : Ending) (w' : World) : Prop :=
  ∃ (o : List Int) (A : Option Addr) (c : Nat), e = .returned (.slice A o.length c) ∧ AccI w' w.heap.size A c o ∧ OutsOk L node o ∧ Below w.heap.size w w'

end Go.Proofs.Ytogijfebfffobaa

namespace Go.Proofs.Ytogijfebfffobaa
set_option maxRecDepth 100000
open Go.RowKit

theorem row_int {w : World} {B n : Nat} {a : Option Addr} {l : List Int} (h : Row ei w B a n l) (hn : 0 < n) : ∃ b o : Nat, a = some ⟨b, o, none⟩ ∧ b < B ∧ ∀ (i : Nat) (hi : i < l.length), w.cell? ⟨b, o + i, none⟩ = some (.int .i64 l[i]) := by
  obtain ⟨b, o, e, hb, hc⟩ := h.cells ei_length hn
  refine ⟨b, o, e, hb, fun i hi => ?_⟩
  have := hc i hi 0 (by omega)
  rw [Nat.mul_one, Nat.add_zero] at this
  exact this
theorem rhas_calls (x : Int) (a : Option Addr) (n c B : Nat) (l : List Int) (w : World) (h : Row ei w B a n l) (hn : n ≤ 1099511627776) :
    Calls Try.prog 57 #[.slice a n c, .int .i64 x] w fun e w' => e = .returned (.bool (decide (x ∈ l))) ∧ w' = w := by
  have HLEN := Lib.hid h.1
  have HR := Lib.hid h
  clear h
  go_enter Try.func57, Try.ntmps57
  go_wp2_with fail
  go_loopw [5] (fun t' wr => ∃ i : Nat, i ≤ n ∧ t' = .int .i64 (i : Int) ∧ x ∉ l.take i ∧ wr = w) (fun t' wr => n - (intOf t').toNat)
  case atStart => exact ⟨0, Nat.zero_le _, rfl, by simp, rfl⟩
  case round =>
    obtain ⟨i, hi, rfl, hF, rfl⟩ := hrel
    have HF := Lib.hid hF
    clear hF
    by_cases hlt : i < n
    · obtain ⟨b, o, rfl, hbw, hcell⟩ := row_int HR.out (by omega)
      have hil : i < l.length := by have := HLEN.out; omega
      have hat := hcell i hil
      clear hcell
      by_cases hx : l[i] = x
      · have hb : (l[i] == x) = true := by simp [hx]
        have hm : decide (x ∈ l) = true := by rw [← hx]; simp
        have HMM := Lib.hid hm
        clear hx hm
        go_wp2_with fail
        go_ret
        exact ⟨by rw [HMM.out]; rfl, rfl⟩
      · have hb : (l[i] == x) = false := by simp [hx]
        have F2 := Lib.hid (show x ∉ l.take (i + 1) by
          rw [List.take_succ_eq_append_getElem hil]
          intro hm
          rcases List.mem_append.1 hm with hm | hm
          · exact HF.out hm
          · simp at hm; exact hx hm.symm)
        clear hx
        go_wp2_with fail
        go_roundw
        case rel => exact ⟨i + 1, by omega, rfl, F2.out, trivial⟩
        case measure => simp [intOf]; omega
    · have hm : decide (x ∈ l) = false := by
        have := HF.out
        rw [List.take_of_length_le (by have := HLEN.out; omega)] at this
        simpa using this
      have HMM := Lib.hid hm
      clear hm
      go_wp2_with fail
      go_ret
      exact ⟨by rw [HMM.out]; rfl, rfl⟩

/-- Two lists in one strict order that have the same members are the same. -/
theorem ordered_unique {R : Int → Int → Prop} (hirr : ∀ x, ¬ R x x) (hasym : ∀ x y, R x y → ¬ R y x) : ∀ {l k : List Int}, l.Pairwise R → k.Pairwise R → (∀ x, x ∈ l ↔ x ∈ k) → l = k
  | [], [], _, _, _ => rfl
  | [], y :: k, _, _, h => absurd ((h y).2 (by simp)) (by simp)
  | x :: l, [], _, _, h => absurd ((h x).1 (by simp)) (by simp)
  | x :: l, y :: k, hl, hk, h => by
    have h1 := List.pairwise_cons.1 hl
    have h2 := List.pairwise_cons.1 hk
    have hxy : x = y := by
      rcases List.mem_cons.1 ((h x).1 (by simp)) with e | e
      · exact e
      · rcases List.mem_cons.1 ((h y).2 (by simp)) with e2 | e2
        · exact e2.symm
        · exact absurd (h1.1 y e2) (hasym _ _ (h2.1 x e))
    subst hxy
    rw [ordered_unique hirr hasym h1.2 h2.2 (fun z => ?_)]
    constructor
    · intro hz
      rcases List.mem_cons.1 ((h z).1 (by simp [hz])) with e | e
      · subst e; exact absurd (h1.1 z hz) (hirr z)
      · exact e
    · intro hz
      rcases List.mem_cons.1 ((h z).2 (by simp [hz])) with e | e
      · subst e; exact absurd (h2.1 z hz) (hirr z)
      · exact e
theorem outs_unique {L : List Lk} {node : Int} {o o' : List Int} (h : OutsOk L node o) (h' : OutsOk L node o') : o = o' :=
  ordered_unique (R := fun x y => keyT L x < keyT L y ∨ keyT L x = keyT L y ∧ x < y) (fun x => by omega) (fun x y => by omega) h.order h'.order (fun x => (h.mem x).trans (h'.mem x).symm)
end Go.Proofs.Ytogijfebfffobaa

namespace Go.Proofs.Ytogijfebfffobaa
set_option maxRecDepth 100000
open Go.RowKit

/-- The Metric of the link from a node to another one. -/
def mtr (L : List Lk) (a b : Int) : Int := (L.getD (fndL L a b).toNat default).m
/-- What the first nodes of a route cost. -/
def cst (L : List Lk) (r : List Int) : Nat → Int
  | 0 => 0
  | 1 => 0
  | i + 2 => cst L r (i + 1) + mtr L (r.getD i 0) (r.getD (i + 1) 0)
/-- A node is new, and a link leads to it from the one ahead of it. -/
def StepOk (L : List Lk) (r : List Int) (j : Nat) : Prop := 0 ≤ fndL L (r.getD (j - 1) 0) (r.getD j 0) ∧ r.getD j 0 ∉ r.take j
def RouteOk (L : List Lk) (r : List Int) : Prop := 2 ≤ r.length ∧ r.length ≤ 16 ∧ ∀ j, 1 ≤ j → j < r.length → StepOk L r j
def SmallL (L : List Lk) : Prop := ∀ x ∈ L, -1099511627776 ≤ x.m ∧ x.m ≤ 1099511627776
theorem mtr_small {L : List Lk} (h : SmallL L) (a b : Int) : -1099511627776 ≤ mtr L a b ∧ mtr L a b ≤ 1099511627776 := by
  unfold mtr
  rcases Nat.lt_or_ge (fndL L a b).toNat L.length with hl | hl
  · rw [List.getD_eq_getElem?_getD, List.getElem?_eq_getElem hl]
    exact h _ (List.getElem_mem hl)
  · rw [List.getD_eq_getElem?_getD, List.getElem?_eq_none hl]
    exact ⟨by decide, by decide⟩
theorem cst_small {L : List Lk} (h : SmallL L) (r : List Int) : ∀ i : Nat, -((i : Int) * 1099511627776) ≤ cst L r i ∧ cst L r i ≤ (i : Int) * 1099511627776
  | 0 => by simp [cst]
  | 1 => by simp [cst]
  | i + 2 => by
    have h1 := cst_small h r (i + 1)
    have h2 := mtr_small h (r.getD i 0) (r.getD (i + 1) 0)
    simp only [cst]
    omega
def RoutePost (w : World) (L : List Lk) (r : List Int) (e : Ending) (w' : World) : Prop :=
  Below w.heap.size w w' ∧ ((RouteOk L r ∧ e = .returned (.tuple #[.int .i64 (cst L r r.length), .int .i64 0])) ∨ (¬ RouteOk L r ∧ e = .returned (.tuple #[.int .i64 0, .int .i64 12])))

end Go.Proofs.Ytogijfebfffobaa

namespace Go.Proofs.Ytogijfebfffobaa
set_option maxRecDepth 100000
open Go.RowKit

def SmallPost (w : World) (n : Nat) (L : List Lk) (e : Ending) (w' : World) : Prop := ∃ b : Bool, e = .returned (.bool b) ∧ (b = true → SmallL L ∧ n ≤ 200) ∧ w' = w
theorem row_front {w : World} {B n b o : Nat} {l : List Int} (h : Row ei w B (some ⟨b, o, none⟩) n l) (i : Nat) (hi : i ≤ n) : Row ei w B (some ⟨b, o, none⟩) i (l.take i) :=
  Row.mk ei_length (by rw [List.length_take, h.1]; omega) fun h0 => by
    obtain ⟨b2, o2, e2, hb2, hc2⟩ := h.cells ei_length (by omega)
    injection e2 with e2
    injection e2 with e3 e4
    subst e3
    subst e4
    refine ⟨b, o, rfl, hb2, fun k2 hk2 j2 hj2 => ?_⟩
    have hk3 : k2 < i ∧ k2 < l.length := by rw [List.length_take] at hk2; omega
    have := hc2 k2 hk3.2 j2 hj2
    rw [this, List.getElem_take]

end Go.Proofs.Ytogijfebfffobaa

namespace Go.Proofs.Ytogijfebfffobaa
set_option maxRecDepth 100000
open Go.RowKit

/-- A link is as it may be, and none ahead of it has the same ends: as the document's answer asks it. -/
def rok (n : Int) (L : List Lk) (i : Nat) : Bool := vld n (L.getD i default) && (fndL L (L.getD i default).f (L.getD i default).t == (i : Int))
theorem fndL_own {L : List Lk} {i : Nat} (hi : i < L.length) : (fndL L L[i].f L[i].t == (i : Int)) = !((L.take i).any (sameE L[i])) := by
  have hself : isE L[i].f L[i].t L[i] = true := by simp [isE]
  cases hs : (L.take i).any (sameE L[i]) with
  | false =>
    have hno : ∀ k (hk : k < L.length), k < i → isE L[i].f L[i].t L[k] = false := fun k hk hlt => by
      have hm : L[k] ∈ L.take i := List.mem_take_iff_getElem.2 ⟨k, by omega, rfl⟩
      have := List.any_eq_false.1 hs _ hm
      cases he : isE L[i].f L[i].t L[k] with
      | false => rfl
      | true =>
        simp only [isE, Bool.and_eq_true, beq_iff_eq] at he
        exact absurd ((sameE_iff _ _).2 ⟨he.1.symm, he.2.symm⟩) this
    rw [fndL_hit hi hno hself]
    simp
  | true =>
    obtain ⟨x, hx, hs2⟩ := List.any_eq_true.1 hs
    obtain ⟨k, hk, rfl⟩ := List.mem_take_iff_getElem.1 hx
    have hkl : k < L.length := by omega
    have he : isE L[i].f L[i].t L[k] = true := by
      have := (sameE_iff _ _).1 hs2
      simp only [isE, Bool.and_eq_true, beq_iff_eq]
      exact ⟨this.1.symm, this.2.symm⟩
    rcases fndL_cases L L[i].f L[i].t with ⟨_, hno⟩ | ⟨j, hj, hf, _⟩
    · have := hno _ (List.getElem_mem hkl)
      rw [he] at this; cases this
    · rw [hf]
      have hji : j ≠ i := by
        intro e
        subst e
        unfold fndL at hf
        cases hq : L.findIdx? (isE L[j].f L[j].t) with
        | none => rw [hq] at hf; simp at hf
        | some q =>
          rw [hq] at hf
          have hqj2 : (q : Int) = (j : Int) := by simpa using hf
          have hqj : q = j := by omega
          subst hqj
          obtain ⟨_, _, h3⟩ := List.findIdx?_eq_some_iff_getElem.1 hq
          have := h3 k (by omega)
          simp [he] at this
      have hb : ((j : Int) == (i : Int)) = false := by rw [beq_eq_false_iff_ne]; omega
      rw [hb]; rfl
theorem rok_eq {n : Int} {L : List Lk} {i : Nat} (hi : i < L.length) : rok n L i = (vld n L[i] && !((L.take i).any (sameE L[i]))) := by
  have hx : L.getD i default = L[i] := by simp [List.getD_eq_getElem?_getD, List.getElem?_eq_getElem hi]
  unfold rok
  rw [hx, fndL_own hi]
theorem vld_false {n : Int} {x : Lk} (h : ¬ (0 ≤ x.f ∧ x.f < n ∧ 0 ≤ x.t ∧ x.t < n ∧ x.f ≠ x.t ∧ 1 ≤ x.m ∧ x.m ≤ 65535)) : vld n x = false := by
  rw [Bool.eq_false_iff]
  intro hc
  simp only [vld, gwn, Bool.and_eq_true, decide_eq_true_eq, Bool.not_eq_true', beq_eq_false_iff_ne] at hc
  omega
theorem vld_true {n : Int} {x : Lk} (h : 0 ≤ x.f ∧ x.f < n ∧ 0 ≤ x.t ∧ x.t < n ∧ x.f ≠ x.t ∧ 1 ≤ x.m ∧ x.m ≤ 65535) : vld n x = true := by
  simp only [vld, gwn, Bool.and_eq_true, decide_eq_true_eq, Bool.not_eq_true', beq_eq_false_iff_ne]
  omega
theorem net_at {n : Int} {L : List Lk} : ∀ i, i ≤ L.length → ((∀ j, j < i → rok n L j = true) ↔ netB n (L.take i) = true)
  | 0, _ => by simp [netB]
  | i + 1, hi => by
    have ih := net_at (n := n) (L := L) i (by omega)
    constructor
    · intro h
      have h1 := ih.1 (fun j hj => h j (by omega))
      have h2 := h i (by omega)
      rw [rok_eq (by omega), Bool.and_eq_true] at h2
      exact net_take (by omega) h1 h2.1 (by simpa using h2.2)
    · intro h j hj
      have h0 : netB n (L.take i) = true := by
        simp only [netB, Bool.and_eq_true, List.all_eq_true, decide_eq_true_eq] at h ⊢
        rw [List.take_succ_eq_append_getElem (by omega)] at h
        exact ⟨fun x hx => h.1 x (List.mem_append_left _ hx), (List.pairwise_append.1 h.2).1⟩
      by_cases hji : j < i
      · exact ih.2 h0 j hji
      · obtain rfl : j = i := by omega
        rw [rok_eq (by omega), Bool.and_eq_true]
        refine ⟨?_, ?_⟩
        · simp only [netB, Bool.and_eq_true, List.all_eq_true] at h
          exact h.1 _ (List.mem_take_iff_getElem.2 ⟨j, by omega, rfl⟩)
        · simp only [netB, Bool.and_eq_true, decide_eq_true_eq] at h
          rw [List.take_succ_eq_append_getElem (by omega)] at h
          have := (List.pairwise_append.1 h.2).2.2
          simp only [Bool.not_eq_true']
          rw [List.any_eq_false]
          intro x hx
          have := this x hx L[j] (by simp)
          simp [this]

end Go.Proofs.Ytogijfebfffobaa

namespace Go.Proofs.Ytogijfebfffobaa
set_option maxRecDepth 100000
open Go.RowKit

/-- One can come from a node to another one. -/
inductive Rch (L : List Lk) (a : Int) : Int → Prop where
  | refl : Rch L a a
  | step {x : Lk} : Rch L a x.f → x ∈ L → Rch L a x.t
def bat (bs : List Bool) (x : Int) : Bool := bs.getD x.toNat false
theorem bat_set {bs : List Bool} {k : Nat} (hk : k < bs.length) (x : Int) (hx : 0 ≤ x) : bat (bs.set k true) x = (if x = (k : Int) then true else bat bs x) := by
  unfold bat
  by_cases h : x = (k : Int)
  · subst h; rw [if_pos rfl]; simp [hk]
  · rw [if_neg h]
    have : x.toNat ≠ k := by omega
    simp [List.getElem?_set_ne (Ne.symm this)]
theorem count_set : ∀ (bs : List Bool) (k : Nat), k < bs.length → bs.getD k false = false → (bs.set k true).count false + 1 = bs.count false
  | [], k, hk, _ => by simp at hk
  | b :: bs, 0, _, h => by
    have : b = false := by simpa using h
    subst this
    simp
  | b :: bs, k + 1, hk, h => by
    have ih := count_set bs k (by simpa using hk) (by simpa using h)
    rw [List.set_cons_succ, List.count_cons, List.count_cons]
    omega
/-- Where the search stands: what is marked can be come to, what waits is marked, and of what is marked and waits no more all that it leads to is marked, but for these links. -/
structure Srch (n : Nat) (L : List Lk) (a : Int) (bs : List Bool) (left : List Int) (but : Lk → Prop) : Prop where
  len : bs.length = n
  start : bat bs a = true
  pos : 0 ≤ a
  sound : ∀ x : Int, 0 ≤ x → x < n → bat bs x = true → Rch L a x
  wait : ∀ x ∈ left, 0 ≤ x ∧ x < n ∧ bat bs x = true
  closed : ∀ z ∈ L, bat bs z.f = true → z.f ∈ left ∨ bat bs z.t = true ∨ but z
section
variable {n : Nat} {L : List Lk} {a : Int} {bs : List Bool} {left : List Int} {but : Lk → Prop}
/-- Are all ends of links nodes? -/
def EndsIn (n : Nat) (L : List Lk) : Prop := ∀ z ∈ L, 0 ≤ z.f ∧ z.f < n ∧ 0 ≤ z.t ∧ z.t < n
theorem Srch.done (h : Srch n L a bs [] (fun _ => False)) (x : Int) (h0 : 0 ≤ x) (h1 : x < n) : bat bs x = true ↔ Rch L a x := by
  refine ⟨h.sound x h0 h1, fun hr => ?_⟩
  clear h0 h1
  induction hr with
  | refl => exact h.start
  | step _ hx ih =>
    rcases h.closed _ hx ih with h2 | h2 | h2
    · cases h2
    · exact h2
    · exact h2.elim
theorem bat_none (n : Nat) (x : Int) : bat (List.replicate n false) x = false := by
  unfold bat
  rcases Nat.lt_or_ge x.toNat n with h | h
  · simp [h]
  · simp [h]
theorem Srch.begin (he : 0 ≤ a ∧ a < n) (hE : EndsIn n L) : Srch n L a ((List.replicate n false).set a.toNat true) [a] (fun _ => False) := by
  have hk : a.toNat < (List.replicate n false).length := by simp; omega
  have e : ((a.toNat : Nat) : Int) = a := by omega
  refine ⟨by simp, by rw [bat_set hk a he.1, e, if_pos rfl], he.1, fun x h0 h1 hb => ?_, fun x hx => ?_, fun z hz hb => ?_⟩
  · rw [bat_set hk x h0, e] at hb
    by_cases h : x = a
    · subst h; exact Rch.refl
    · rw [if_neg h, bat_none] at hb; cases hb
  · simp at hx; subst hx
    exact ⟨he.1, he.2, by rw [bat_set hk x he.1, e, if_pos rfl]⟩
  · rw [bat_set hk z.f (hE z hz).1, e] at hb
    by_cases h : z.f = a
    · exact .inl (by simp [h])
    · rw [if_neg h, bat_none] at hb; cases hb
theorem Srch.weaken {but' : Lk → Prop} (h : Srch n L a bs left but) (hb : ∀ z ∈ L, but z → but' z ∨ bat bs z.t = true) : Srch n L a bs left but' := by
  refine ⟨h.len, h.start, h.pos, h.sound, h.wait, fun z hz hf => ?_⟩
  rcases h.closed z hz hf with h1 | h1 | h1
  · exact .inl h1
  · exact .inr (.inl h1)
  · rcases hb z hz h1 with h2 | h2
    · exact .inr (.inr h2)
    · exact .inr (.inl h2)
theorem Srch.pop {x : Int} {r : List Int} (h : Srch n L a bs (x :: r) (fun _ => False)) : Srch n L a bs r (fun z => z.f = x) := by
  refine ⟨h.len, h.start, h.pos, h.sound, fun y hy => h.wait y (List.mem_cons_of_mem _ hy), fun z hz hf => ?_⟩
  rcases h.closed z hz hf with h1 | h1 | h1
  · rcases List.mem_cons.1 h1 with h2 | h2
    · exact .inr (.inr h2)
    · exact .inl h2
  · exact .inr (.inl h1)
  · exact h1.elim
/-- One more is marked, and waits. -/
theorem Srch.mark {z : Lk} (h : Srch n L a bs left but) (hE : EndsIn n L) (hz : z ∈ L) (hf : bat bs z.f = true) : Srch n L a (bs.set z.t.toNat true) (left ++ [z.t]) but := by
  have hen := hE z hz
  have hk : z.t.toNat < bs.length := by have := h.len; omega
  have e : ((z.t.toNat : Nat) : Int) = z.t := by omega
  have hset : ∀ x : Int, 0 ≤ x → bat (bs.set z.t.toNat true) x = (if x = z.t then true else bat bs x) := fun x h0 => by rw [bat_set hk x h0, e]
  have ha : bat (bs.set z.t.toNat true) a = true := by
    rw [hset a h.pos]; split
    · rfl
    · exact h.start
  refine ⟨by rw [List.length_set]; exact h.len, ha, h.pos, fun x h0 h1 hb => ?_, fun x hx => ?_, fun y hy hb => ?_⟩
  · rw [hset x h0] at hb
    by_cases hxt : x = z.t
    · rw [hxt]; exact (h.sound z.f hen.1 hen.2.1 hf).step hz
    · rw [if_neg hxt] at hb; exact h.sound x h0 h1 hb
  · rcases List.mem_append.1 hx with hx | hx
    · obtain ⟨h0, h1, h2⟩ := h.wait x hx
      exact ⟨h0, h1, by rw [hset x h0]; split; rfl; exact h2⟩
    · simp at hx; subst hx
      exact ⟨hen.2.2.1, hen.2.2.2, by rw [hset _ hen.2.2.1, if_pos rfl]⟩
  · have hy0 := hE y hy
    rw [hset y.f hy0.1] at hb
    by_cases hyt : y.f = z.t
    · exact .inl (List.mem_append_right _ (by simp [hyt]))
    · rw [if_neg hyt] at hb
      rcases h.closed y hy hb with h1 | h1 | h1
      · exact .inl (List.mem_append_left _ h1)
      · exact .inr (.inl (by rw [hset y.t hy0.2.2.1]; split; rfl; exact h1))
      · exact .inr (.inr h1)
end
theorem net_ends {n : Nat} {L : List Lk} (h : netB (n : Int) L = true) : EndsIn n L := by
  intro z hz
  simp only [netB, Bool.and_eq_true, List.all_eq_true, vld, gwn, decide_eq_true_eq] at h
  have := h.1 z hz
  omega

/-! ### a queue of whole numbers -/

/-- A slice of a block of the call's own, from some place on, reads as these numbers. -/
def Que (w : World) (base : Nat) (A : Option Addr) (c : Nat) (l : List Int) : Prop :=
  ∃ b o cur, A = some ⟨b, o, none⟩ ∧ base ≤ b ∧ w.heap[b]? = some (.cells cur 3 (0, 0)) ∧ l.length ≤ c ∧ o + c ≤ cur.size ∧ ∀ (i : Nat) (h : i < l.length), cur[o + i]? = some (.int .i64 l[i])
section
variable {w w' : World} {base c : Nat} {A : Option Addr} {l : List Int}
theorem Que.ge (h : Que w base A c l) {x : Nat} (hx : blk A = some x) : base ≤ x ∧ x < w.heap.size := by
  obtain ⟨b, o, cur, rfl, hb, hc, _⟩ := h
  injection hx with hx
  subst hx
  exact ⟨hb, (Array.getElem?_eq_some_iff.1 hc).1⟩
theorem Que.kept (h : Que w base A c l) {r : Option Nat} (hg : w.grownBy w' r) (hne : ∀ x, blk A = some x → r ≠ some x) : Que w' base A c l := by
  have h0 := h
  obtain ⟨b, o, cur, rfl, hb, hc, hl, ho, hi⟩ := h
  exact ⟨b, o, cur, rfl, hb, (hg.block b (h0.ge rfl).2 (fun e => hne b rfl e.symm)).trans hc, hl, ho, hi⟩
theorem Que.bel (h : Que w base A c l) (hb : Below w.heap.size w w') : Que w' base A c l :=
  h.kept (r := none) ⟨hb.os, hb.tape, hb.output, hb.size, fun k hk _ => hb.block k hk⟩ (by simp)
theorem Que.cell (h : Que w base A c l) (h0 : 0 < l.length) : ∃ b o : Nat, A = some ⟨b, o, none⟩ ∧ w.cell? ⟨b, o, none⟩ = some (.int .i64 l[0]) := by
  obtain ⟨b, o, cur, rfl, hb, hc, hl, ho, hi⟩ := h
  exact ⟨b, o, rfl, by rw [cell_of_row _ _ _ _ _ _ hc]; exact hi 0 h0⟩
theorem que_new (w : World) (base : Nat) (x : Int) (hb : base ≤ w.heap.size) : Que (w.alloc (.cells #[.int .i64 x] 3)) base (some ⟨w.heap.size, 0, none⟩) 1 [x] :=
  ⟨w.heap.size, 0, #[.int .i64 x], rfl, hb, heap_alloc_new w _, by simp, by simp, fun i hi => by
    obtain rfl : i = 0 := by simp at hi; exact hi
    rfl⟩
/-- What is left behind the first one. -/
theorem Que.rest {b o : Nat} (h : Que w base (some ⟨b, o, none⟩) c l) : Que w base (some ⟨b, o + 1, none⟩) (c - 1) (l.drop 1) ∨ (c ≤ 1) := by
  by_cases hc1 : c ≤ 1
  · exact .inr hc1
  · obtain ⟨b', o', cur, e, hb, hc, hl, ho, hi⟩ := h
    injection e with e
    injection e with e1 e2
    subst e1
    subst e2
    refine .inl ⟨b, o + 1, cur, rfl, hb, hc, by simp; omega, by omega, fun i hi2 => ?_⟩
    have hi3 : i < l.length - 1 := by simpa using hi2
    have := hi (1 + i) (by omega)
    rw [List.getElem_drop, Nat.add_assoc]; exact this
theorem Que.none_left {b o : Nat} (h : Que w base (some ⟨b, o, none⟩) c l) : Que w base (some ⟨b, o, none⟩) 0 [] := by
  obtain ⟨b', o', cur, e, hb, hc, hl, ho, hi⟩ := h
  injection e with e
  injection e with e1 e2
  subst e1
  subst e2
  exact ⟨b, o, cur, rfl, hb, hc, Nat.le_refl _, by omega, fun i hi2 => by simp at hi2⟩
theorem que_push (h : Que w base A c l) (x : Int) (hlen : l.length ≤ 1099511627776) (ty : TypeId) :
    ∃ A' c' w', (Builtin.append_ #[35, 35] ty #[.slice A l.length c, .slice (some ⟨w.heap.size, 0, none⟩) 1 1]).run Try.prog (w.alloc (.cells #[.int .i64 x] 3)) = .ok (.slice A' (l.length + 1) c') w' ∧
      Que w' base A' c' (l ++ [x]) ∧ w.grownBy w' (blk A) ∧ (blk A' = blk A ∨ ∃ g, blk A' = some g ∧ w.heap.size ≤ g) := by
  obtain ⟨i, hi, hzz⟩ := Option.map_eq_some_iff.1 infoInt
  simp only [Prod.mk.injEq] at hzz
  obtain ⟨hz, hsz, hby⟩ := hzz
  have hlt := (h.ge (x := (A.map (·.block)).getD 0) (by obtain ⟨b, o, cur, rfl, _⟩ := h; rfl)).2
  obtain ⟨b, o, cur, rfl, hb, hc, hl, ho, hcell⟩ := h
  have hlt : b < w.heap.size := hlt
  have hc2 : (w.alloc (.cells #[.int .i64 x] 3)).heap[b]? = some (.cells cur 3 (0, 0)) := (Below.heap_alloc _ _ _ hlt).trans hc
  have hnews : ∀ j u, ([.int .i64 x] : List Value)[j]? = some u → (w.alloc (.cells #[.int .i64 x] 3)).cell? ((⟨w.heap.size, 0, none⟩ : Addr).add j) = some u := fun j u hu => by
    rw [add_plain, cell_of_row _ _ _ _ _ _ (heap_alloc_new w _)]
    simpa using hu
  have hga : w.grownBy (w.alloc (.cells #[.int .i64 x] 3)) (some b) := World.grownBy_alloc w _ _
  by_cases hroom : l.length + 1 ≤ c
  · have hin : o + l.length < cur.size := by omega
    have hrun := run_append_room_cells (P := Try.prog) (w.alloc (.cells #[.int .i64 x] 3)) 35 ty 3 i Try.underlying35 hi b o l.length c ⟨w.heap.size, 0, none⟩ 1 1 [.int .i64 x] (by rw [hsz]; rfl) hnews
      (by intro u hu; simp at hu; subst hu; rfl) hroom
      (fun j hj => by
        have : j = 0 := by simp at hj; exact hj
        subst this
        rw [hsz, cell_of_row _ _ _ _ _ _ hc2]; simp; omega)
      (fun j hj => by simp [World.frozen?, hc2])
    rw [hsz, Nat.mul_one] at hrun
    refine ⟨_, c, _, hrun, ⟨b, o, cur.set! (o + l.length) (.int .i64 x), rfl, hb, ?_, by simp; omega, by simp; omega, fun k hk => ?_⟩, ?_, .inl rfl⟩
    · simp [World.setCells, World.setCell, Array.getElem?_modify, hc2]
    · by_cases hkl : k < l.length
      · rw [List.getElem_append_left hkl]
        have := hcell k hkl
        rw [Array.set!_eq_setIfInBounds, Array.getElem?_setIfInBounds_ne (by omega)]; exact this
      · obtain rfl : k = l.length := by simp at hk; omega
        simp [hin]
    · have h2 : (w.alloc (.cells #[.int .i64 x] 3)).grownBy ((w.alloc (.cells #[.int .i64 x] 3)).setCells b (o + l.length) [.int .i64 x]) (some b) := by
        unfold World.setCells World.setCells
        exact ⟨rfl, rfl, rfl, by simp [World.setCell], fun j _ hj => Below.heap_setCell _ _ _ _ (fun e => hj (by rw [e]))⟩
      exact hga.trans h2
  · obtain ⟨v', w', hrun, hown, hg⟩ := run_append_arg_grows (P := Try.prog) (w.alloc (.cells #[.int .i64 x] 3)) 35 ty 3 i (.int .i64 0) 1 8 Try.underlying35 hi hz hsz hby rfl (by omega)
      ⟨b, o, none⟩ l.length c (l.map (Value.int .i64)) (by simp) (fun j u hu => by
        have hj : j < l.length := by
          rcases Nat.lt_or_ge j l.length with h | h
          · exact h
          · rw [List.getElem?_eq_none (by simpa using h)] at hu; cases hu
        rw [add_plain, cell_of_row _ _ _ _ _ _ hc2, hcell j hj]
        simpa [hj] using hu) ⟨w.heap.size, 0, none⟩ 1 1 [.int .i64 x] rfl hnews (by omega) (by unfold maxLen; omega) (by omega)
    rcases hown.2 with ⟨hv, hn⟩ | ⟨g, cap, cur2, hv, hbg, hh, h1, h2, h3, h4⟩
    · omega
    · subst hv
      refine ⟨_, cap, w', hrun, ⟨g, 0, cur2, rfl, ?_, hh, by simpa using h1, by omega, fun k hk => ?_⟩, ?_, .inr ⟨g, rfl, ?_⟩⟩
      · have : w.heap.size + 1 ≤ g := by simpa using hbg
        omega
      · rw [Nat.mul_one] at h4
        have hk2 : k < l.length + 1 := by simpa using hk
        have h5 : (cur2.toList.take (l.length + 1))[k]? = (l.map (Value.int .i64) ++ [Value.int .i64 x])[k]? := by rw [h4]
        rw [List.getElem?_take_of_lt hk2] at h5
        rw [Nat.zero_add, ← Array.getElem?_toList, h5]
        rw [show (l.map (Value.int .i64) ++ [Value.int .i64 x]) = (l ++ [x]).map (Value.int .i64) by simp, List.getElem?_map, List.getElem?_eq_getElem hk]; rfl
      · exact hga.trans ⟨hg.os, hg.tape, hg.output, hg.size, fun k hk _ => hg.block k hk (by simp)⟩
      · have : w.heap.size + 1 ≤ g := by simpa using hbg
        omega
end
end Go.Proofs.Ytogijfebfffobaa

namespace Go.Proofs.Ytogijfebfffobaa
set_option maxRecDepth 100000
open Go.RowKit

theorem infoBoolG : (Try.prog.info? 4).map (fun i => (i.zero, i.size, i.bytes)) = some (some (.bool false), 1, 1) := by kernel_rfl
/-- Marks in a block. -/
def Mks (w : World) (q : Nat) (bs : List Bool) : Prop := Blk w q 4 (bs.map Value.bool)
theorem Mks.cell {w : World} {q : Nat} {bs : List Bool} (h : Mks w q bs) (x : Int) (h0 : 0 ≤ x) (hx : x < bs.length) : w.cell? ⟨q, x.toNat, none⟩ = some (.bool (bat bs x)) := by
  have := Blk.cell h x.toNat
  rw [this, List.getElem?_map]
  have hk : x.toNat < bs.length := by omega
  simp [bat, List.getElem?_eq_getElem hk]
theorem Mks.set {w : World} {q : Nat} {bs : List Bool} (h : Mks w q bs) (k : Nat) : Mks (w.setCell ⟨q, k, none⟩ (.bool true)) q (bs.set k true) := by
  have := Blk.set h k (.bool true)
  unfold Mks
  rw [List.map_set]; exact this
/-- How many are not marked. -/
def cfW (w : World) (q : Nat) : Nat := match w.heap[q]? with
  | some (.cells cs _ _) => cs.toList.countP (fun v => match v with | .bool false => true | _ => false)
  | _ => 0
theorem Mks.count {w : World} {q : Nat} {bs : List Bool} (h : Mks w q bs) : cfW w q = bs.count false := by
  unfold cfW
  unfold Mks Blk at h
  rw [h]
  simp only
  rw [List.countP_map, List.count]
  congr 1
  funext b
  cases b <;> rfl
def lenS : Value → Nat
  | .slice _ n _ => n
  | _ => 0
/-- What Reach answers. -/
def RchPost (w : World) (n : Int) (L : List Lk) (a : Int) (e : Ending) (w' : World) : Prop :=
  Below w.heap.size w w' ∧ ((¬ (chk n L = 0 ∧ 0 ≤ a ∧ a < n) ∧ e = .returned (.slice none 0 0)) ∨
    (chk n L = 0 ∧ 0 ≤ a ∧ a < n ∧ ∃ (rb : Nat) (bs : List Bool), e = .returned (.slice (some ⟨rb, 0, none⟩) bs.length bs.length) ∧ w.heap.size ≤ rb ∧ Mks w' rb bs ∧ (bs.length : Int) = n ∧ ∀ x : Int, 0 ≤ x → x < n → (bat bs x = true ↔ Rch L a x)))
theorem chk_zero {n : Int} {L : List Lk} (h : chk n L = 0) : 1 ≤ n ∧ n ≤ 16 ∧ L.length ≤ 64 ∧ netB n L = true := by
  unfold chk at h
  split at h
  · split at h
    · omega
    · split at h
      · rename_i h1 h2 h3; exact ⟨h1.1, h1.2, by omega, h3⟩
      · omega
  · omega
/-- What of a node's links is still to be followed. -/
def Pend (L : List Lk) (o : List Int) (i : Nat) (z : Lk) : Prop := ∃ k ∈ o.drop i, L.getD k.toNat default = z
theorem pend_start {n : Nat} {L : List Lk} {a : Int} {bs : List Bool} {left o : List Int} {x : Int} (h : Srch n L a bs left (fun z => z.f = x)) (ho : OutsOk L x o) : Srch n L a bs left (Pend L o 0) :=
  h.weaken fun z hz hf => by
    obtain ⟨k, hk, rfl⟩ := List.mem_iff_getElem.1 hz
    have e : L.getD k default = L[k] := by simp [List.getD_eq_getElem?_getD, List.getElem?_eq_getElem hk]
    exact .inl ⟨(k : Int), by rw [List.drop_zero]; exact (ho.mem _).2 ⟨k, hk, by rw [e]; exact hf, rfl⟩, by simpa using e⟩
theorem pend_step {n : Nat} {L : List Lk} {a : Int} {bs : List Bool} {left o : List Int} {i : Nat} (h : Srch n L a bs left (Pend L o i)) (hi : i < o.length) (ht : bat bs (L.getD (o[i]).toNat default).t = true) : Srch n L a bs left (Pend L o (i + 1)) :=
  h.weaken fun z _ hp => by
    obtain ⟨k, hk, e⟩ := hp
    rw [List.drop_eq_getElem_cons hi] at hk
    rcases List.mem_cons.1 hk with hk | hk
    · subst hk; subst e; exact .inr ht
    · exact .inl ⟨k, hk, e⟩
theorem pend_end {n : Nat} {L : List Lk} {a : Int} {bs : List Bool} {left o : List Int} {i : Nat} (h : Srch n L a bs left (Pend L o i)) (hi : o.length ≤ i) : Srch n L a bs left (fun _ => False) :=
  h.weaken fun z _ hp => by
    obtain ⟨k, hk, _⟩ := hp
    rw [List.drop_eq_nil_of_le hi] at hk; cases hk

end Go.Proofs.Ytogijfebfffobaa

namespace Go.Proofs.Ytogijfebfffobaa
set_option maxRecDepth 100000
open Go.RowKit

theorem getD_take {r : List Int} {k j : Nat} (h : j < k) : (r.take k).getD j 0 = r.getD j 0 := by
  simp [List.getD_eq_getElem?_getD, List.getElem?_take_of_lt h]
theorem getD_drop {r : List Int} {k j : Nat} : (r.drop k).getD j 0 = r.getD (k + j) 0 := by
  simp [List.getD_eq_getElem?_getD]
theorem cst_take (L : List Lk) (r : List Int) (k : Nat) : ∀ i, i ≤ k → cst L (r.take k) i = cst L r i
  | 0, _ => rfl
  | 1, _ => rfl
  | i + 2, h => by
    have ih := cst_take L r k (i + 1) (by omega)
    simp only [cst]
    rw [ih, getD_take (by omega), getD_take (by omega)]
theorem cst_drop (L : List Lk) (r : List Int) (k : Nat) : ∀ i, cst L r (k + i + 1) = cst L r (k + 1) + cst L (r.drop k) (i + 1)
  | 0 => by simp [cst]
  | i + 1 => by
    have ih := cst_drop L r k i
    show cst L r (k + i + 2) = cst L r (k + 1) + cst L (r.drop k) (i + 2)
    simp only [cst]
    rw [ih, getD_drop, getD_drop]
    rw [show k + (i + 1) = k + i + 1 by omega]
    omega
theorem RouteOk.front {L : List Lk} {r : List Int} (h : RouteOk L r) {k : Nat} (h1 : 1 ≤ k) (h2 : k + 1 ≤ r.length) : RouteOk L (r.take (k + 1)) := by
  have hl : (r.take (k + 1)).length = k + 1 := by rw [List.length_take]; omega
  have h16 := h.2.1
  refine ⟨by omega, by omega, fun j hj1 hj2 => ?_⟩
  rw [hl] at hj2
  have := h.2.2 j hj1 (by omega)
  unfold StepOk at this ⊢
  rw [getD_take (by omega), getD_take hj2, List.take_take, Nat.min_eq_left (by omega)]
  exact this
theorem RouteOk.back {L : List Lk} {r : List Int} (h : RouteOk L r) {k : Nat} (h2 : k + 2 ≤ r.length) : RouteOk L (r.drop k) := by
  have hl : (r.drop k).length = r.length - k := by rw [List.length_drop]
  have h16 := h.2.1
  refine ⟨by omega, by omega, fun j hj1 hj2 => ?_⟩
  rw [hl] at hj2
  have := h.2.2 (k + j) (by omega) (by omega)
  unfold StepOk at this ⊢
  rw [getD_drop, getD_drop, show k + (j - 1) = k + j - 1 by omega]
  refine ⟨this.1, fun hm => this.2 ?_⟩
  obtain ⟨i, hi, he⟩ := List.mem_take_iff_getElem.1 hm
  rw [hl] at hi
  rw [← he, List.getElem_drop]
  exact List.mem_take_iff_getElem.2 ⟨k + i, by omega, rfl⟩
theorem step_link {L : List Lk} {r : List Int} {j : Nat} (h : StepOk L r j) : ∃ x ∈ L, x.f = r.getD (j - 1) 0 ∧ x.t = r.getD j 0 := by
  rcases fndL_cases L (r.getD (j - 1) 0) (r.getD j 0) with ⟨hf, _⟩ | ⟨i, hi, hf, hy⟩
  · have := h.1
    omega
  · refine ⟨L[i], List.getElem_mem hi, ?_⟩
    simpa [isE] using hy
theorem route_reach {L : List Lk} {r : List Int} (h : RouteOk L r) : ∀ j, j < r.length → Rch L (r.getD 0 0) (r.getD j 0)
  | 0, _ => Rch.refl
  | j + 1, hj => by
    have ih := route_reach h j (by omega)
    obtain ⟨x, hx, h1, h2⟩ := step_link (h.2.2 (j + 1) (by omega) hj)
    rw [Nat.add_sub_cancel] at h1
    rw [← h2]
    rw [← h1] at ih
    exact ih.step hx
theorem route_in {n : Nat} {L : List Lk} {r : List Int} (h : RouteOk L r) (hE : EndsIn n L) (j : Nat) (hj : j < r.length) : 0 ≤ r.getD j 0 ∧ r.getD j 0 < (n : Int) := by
  have h2 := h.1
  rcases Nat.eq_zero_or_pos j with h0 | h0
  · subst h0
    obtain ⟨x, hx, h1, _⟩ := step_link (h.2.2 1 (Nat.le_refl _) (by omega))
    have := hE x hx
    rw [← h1]; omega
  · obtain ⟨x, hx, _, h1⟩ := step_link (h.2.2 j h0 hj)
    have := hE x hx
    rw [← h1]; omega
theorem row_back {w : World} {B n b o : Nat} {l : List Int} (h : Row ei w B (some ⟨b, o, none⟩) n l) (i : Nat) (hi : i ≤ n) : Row ei w B (some ⟨b, o + i, none⟩) (n - i) (l.drop i) := by
  have := h.rest ei_length i hi
  rwa [Nat.mul_one] at this
end Go.Proofs.Ytogijfebfffobaa
