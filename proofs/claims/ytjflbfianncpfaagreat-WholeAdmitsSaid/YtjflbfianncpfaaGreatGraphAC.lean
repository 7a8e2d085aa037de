/-
  Contracts of package graph: within, isNode, endsOf, valid; links as plain data and as they lie in memory. No condition beside what each names.
  Contracts of package graph: firsts, the function that it returns, Check. Condition: at most 2^40 links.
  Contracts of package graph: Find; slices.IndexFunc, slices.Index, slices.Contains as they are used there. Condition: at most 2^40 links or numbers.
-/
import Derived.Test.YtjflbfianncpfaaGreatBase
import Derived.LoopN
import Derived.DeepKeys4
import Derived.Shelf.Abstract
import Derived.Laws.EntriesVeiled
namespace Go.Proofs.YtjflbfianncpfaaGreat
set_option maxRecDepth 100000
open Go.RowKit

/-- A link as plain data. -/
structure Lk where
  f : Int
  t : Int
  c : Int
  m : Int
  g : Int
  deriving DecidableEq, Inhabited
/-- .. and its cells. -/
def lkc (x : Lk) : List Value := [.int .i64 x.f, .int .i64 x.t, .int .u64 x.c, .int .i64 x.m, .int .u32 x.g]
theorem lkc_length (x : Lk) : (lkc x).length = 5 := rfl
theorem lkc_one (x : Lk) : ∀ u ∈ lkc x, u.oneCell' = true := by
  intro u hu
  simp [lkc] at hu
  rcases hu with rfl | rfl | rfl | rfl | rfl <;> rfl
theorem infoLink : (Tryz.prog.info? 44).map (·.size) = some 5 := by kernel_rfl
/-- A link in a row. -/
theorem row_link {w : World} {B n : Nat} {a : Option Addr} {L : List Lk} (h : Row lkc w B a n L) (hn : 0 < n) : ∃ b o : Nat, a = some ⟨b, o, none⟩ ∧ b < B ∧ ∀ (i : Nat) (hi : i < L.length), w.rangeAt b (o + i * 5) (lkc L[i]) := by
  obtain ⟨b, o, e, hb, hc⟩ := h.cells lkc_length hn
  refine ⟨b, o, e, hb, fun i hi j v hv => ?_⟩
  have hj : j < 5 := by
    rcases Nat.lt_or_ge j 5 with h | h
    · exact h
    · rw [List.getElem?_eq_none (by rw [lkc_length]; exact h)] at hv; cases hv
  rw [hc i hi j hj]; exact hv
theorem link_cells {w : World} {b k : Nat} {x : Lk} (h : w.rangeAt b k (lkc x)) : w.cell? ⟨b, k, none⟩ = some (.int .i64 x.f) ∧ w.cell? ⟨b, k + 1, none⟩ = some (.int .i64 x.t) ∧ w.cell? ⟨b, k + 2, none⟩ = some (.int .u64 x.c) ∧ w.cell? ⟨b, k + 3, none⟩ = some (.int .i64 x.m) ∧ w.cell? ⟨b, k + 4, none⟩ = some (.int .u32 x.g) :=
  ⟨h 0 _ rfl, h 1 _ rfl, h 2 _ rfl, h 3 _ rfl, h 4 _ rfl⟩

def gwn (x lo hi : Int) : Bool := decide (lo ≤ x) && decide (x ≤ hi)
theorem gwithin_calls (x lo hi : Int) (w : World) : Calls Tryz.prog 69 #[.int .i64 x, .int .i64 lo, .int .i64 hi] w fun e w' => e = .returned (.bool (gwn x lo hi)) ∧ w' = w := by
  go_enter Tryz.func69, Tryz.ntmps69
  by_cases h1 : lo ≤ x
  · by_cases h2 : x ≤ hi
    · go_wp2_with fail
      go_ret
      exact ⟨by simp [gwn, h1, h2], rfl⟩
    · go_wp2_with fail
      go_ret
      exact ⟨by simp [gwn, h1, h2], rfl⟩
  · go_wp2_with fail
    go_ret
    exact ⟨by simp [gwn]; omega, rfl⟩
theorem isnode_calls (n x : Int) (h1 : -9223372036854775808 < n) (h2 : n ≤ 9223372036854775807) (w : World) : Calls Tryz.prog 90 #[.int .i64 n, .int .i64 x] w fun e w' => e = .returned (.bool (gwn x 0 (n - 1))) ∧ w' = w := by
  have hc := gwithin_calls x 0 (n - 1) w
  have e1 : -9223372036854775808 ≤ n - 1 ∧ n - 1 ≤ 9223372036854775807 := by omega
  go_enter Tryz.func90, Tryz.ntmps90
  go_wp2_with fail
  ((with_reducible refine hc.mono ?_))
  rintro e w' ⟨rfl, rfl⟩
  go_wp2
  go_ret
  exact ⟨rfl, rfl⟩
/-- The link's ends as a value. -/
def ev (x : Lk) : Value := .agg #[.int .i64 x.f, .int .i64 x.t]
theorem endsof_calls (x : Lk) (w : World) : Calls Tryz.prog 72 #[.agg (lkc x).toArray] w fun e w' => e = .returned (ev x) ∧ Below w.heap.size w w' := by
  have b0 := Lib.hid (bel_new (bel_new (Below.refl w.heap.size w) (.cells (lkc x).toArray 44)) (.cells #[.int .i64 x.f, .int .i64 x.t] 143))
  unfold lkc at *
  go_enter Tryz.func72, Tryz.ntmps72
  go_wp2_with fail
  have hb : Blk ((w.alloc (.cells #[.int .i64 x.f, .int .i64 x.t, .int .u64 x.c, .int .i64 x.m, .int .u32 x.g] 44)).alloc (.cells #[.int .i64 x.f, .int .i64 x.t] 143)) (w.heap.size + 1) 143 [.int .i64 x.f, .int .i64 x.t] := by
    have := Blk.new (w.alloc (.cells #[.int .i64 x.f, .int .i64 x.t, .int .u64 x.c, .int .i64 x.m, .int .u32 x.g] 44)) 143 [.int .i64 x.f, .int .i64 x.t]
    simpa using this
  refine bodyPost_ret (results_one8 rfl _ rfl hb Tryz.underlying143 rfl rfl) rfl ?_
  exact ⟨rfl, b0.out⟩

/-- May a link be, whatever the others are? -/
def vld (n : Int) (x : Lk) : Bool := gwn x.f 0 (n - 1) && gwn x.t 0 (n - 1) && !(x.f == x.t) && gwn x.m 1 65535
set_option maxHeartbeats 1600000 in
theorem valid_calls (n : Int) (x : Lk) (h1 : -9223372036854775808 < n) (h2 : n ≤ 9223372036854775807) (w : World) : Calls Tryz.prog 71 #[.int .i64 n, .agg (lkc x).toArray] w fun e w' => e = .returned (.bool (vld n x)) ∧ Below w.heap.size w w' := by
  have b0 := Lib.hid (bel_new (Below.refl w.heap.size w) (.cells (lkc x).toArray 44))
  have c1 := fun w => isnode_calls n x.f h1 h2 w
  have c2 := fun w => isnode_calls n x.t h1 h2 w
  have c3 := fun w => gwithin_calls x.m 1 65535 w
  unfold lkc at *
  go_enter Tryz.func71, Tryz.ntmps71
  go_wp2_with fail
  ((with_reducible refine (c1 _).mono ?_))
  rintro e w' ⟨rfl, rfl⟩
  cases q1 : gwn x.f 0 (n - 1) with
  | false =>
    go_wp2_with fail
    go_ret
    exact ⟨by simp [vld, q1], b0.out⟩
  | true =>
    go_wp2_with fail
    ((with_reducible refine (c2 _).mono ?_))
    rintro e w' ⟨rfl, rfl⟩
    cases q2 : gwn x.t 0 (n - 1) with
    | false =>
      go_wp2_with fail
      go_ret
      exact ⟨by simp [vld, q1, q2], b0.out⟩
    | true =>
      by_cases q3 : x.f = x.t
      · have q4 : (x.f != x.t) = false := by simp [q3]
        have Q3 := Lib.hid q3
        clear q3
        go_wp2_with fail
        go_ret
        exact ⟨by simp [vld, Q3.out], b0.out⟩
      · have q4 : (x.f != x.t) = true := by simp [q3]
        go_wp2_with fail
        ((with_reducible refine (c3 _).mono ?_))
        rintro e w' ⟨rfl, rfl⟩
        go_wp2_with fail
        go_ret
        exact ⟨by simp [vld, q1, q2, q3], b0.out⟩
end Go.Proofs.YtjflbfianncpfaaGreat

namespace Go.Proofs.YtjflbfianncpfaaGreat
set_option maxRecDepth 100000
open Go.RowKit Go.Maps

theorem ends_law : Keyed Tryz.prog 143 := Keyed.of_law (deep_law_laid (m := 2) (by kernel_rfl) (by omega) (of_decide_eq_true (by kernel_rfl)) (by kernel_rfl) (by rw [Tryz.underlying143]))
/-- A key, as the map reads it. -/
def ekey (x : Lk) : Lit := .string (keyBytes [.int .i64 x.f, .int .i64 x.t])
/-- Both ends are whole numbers of the language. -/
def WfE (x : Lk) : Prop := (Lit.int .i64 x.f).wf = true ∧ (Lit.int .i64 x.t).wf = true
theorem ekey_of (x : Lk) (h : WfE x) : keyOf Tryz.prog 143 (ev x) = some (ekey x) := by
  have hk : Tryz.prog.keyType 143 = true := by kernel_rfl
  have hs : Tryz.prog.cellsOf 143 = 2 := by kernel_rfl
  unfold keyOf ev ekey
  rw [Tryz.underlying143]
  simp [hk, Value.formed, Tryz.underlying143, hs, Value.cells]
  refine ⟨[.int .i64 x.f, .int .i64 x.t], ?_, rfl⟩
  have hi : Tryz.prog.cellsOf 3 = 1 := by kernel_rfl
  have hd : ∀ d, Tryz.prog.keyLits (d + 2) 143 [.int .i64 x.f, .int .i64 x.t] = some [.int .i64 x.f, .int .i64 x.t] := by
    intro d
    simp [Program.keyLits, Tryz.underlying143, Tryz.underlying3, hs, hi, h.1, h.2]
  exact hd _
theorem zeroE (w : World) : (zeroValue 168).run Tryz.prog w = .ok (.agg #[]) w := by kernel_rfl
/-- Have two links the same ends? -/
def sameE (x y : Lk) : Bool := x.f == y.f && x.t == y.t
theorem sameE_iff (x y : Lk) : sameE x y = true ↔ x.f = y.f ∧ x.t = y.t := by simp [sameE]
theorem ekey_inj {x y : Lk} (hx : WfE x) (hy : WfE y) (h : ekey x = ekey y) : x.f = y.f ∧ x.t = y.t := by
  have h1 := ekey_of x hx
  rw [h] at h1
  have := ends_law.inj h1 (ekey_of y hy)
  simpa [ev] using this
theorem ekey_same {x y : Lk} (h : x.f = y.f ∧ x.t = y.t) : ekey x = ekey y := by unfold ekey; rw [h.1, h.2]

/-- The ends that have occurred, in a map behind a pointer. -/
structure Seen (W : World) (p mb : Nat) (s : List Lk) : Prop where
  blk : Blk W p 167 [.map (some mb)]
  ne : p ≠ mb
  own : ∃ D : DataW Unit, W.ownsMap Tryz.prog 143 unitElem mb s.length D ∧ ∀ x, WfE x → Maps.has D (ekey x) = s.any (sameE x)
theorem Seen.lt {W : World} {p mb : Nat} {s : List Lk} (h : Seen W p mb s) : p < W.heap.size ∧ mb < W.heap.size := by
  obtain ⟨D, ho, _⟩ := h.own
  exact ⟨h.blk.lt, ho.lt⟩
theorem Seen.kept {W W' : World} {p mb : Nat} {s : List Lk} (h : Seen W p mb s) {r : Option Nat} (hg : W.grownBy W' r) (h1 : some p ≠ r) (h2 : some mb ≠ r) : Seen W' p mb s := by
  obtain ⟨D, ho, hh⟩ := h.own
  exact ⟨h.blk.same (hg.block p h.blk.lt h1), h.ne, D, ho.kept hg h2, hh⟩
theorem Seen.below {W W' : World} {p mb : Nat} {s : List Lk} (h : Seen W p mb s) (hb : Below W.heap.size W W') : Seen W' p mb s :=
  h.kept (r := none) ⟨hb.os, hb.tape, hb.output, hb.size, fun k hk _ => hb.block k hk⟩ (by simp) (by simp)
theorem Seen.drew {W : World} {p mb : Nat} {s : List Lk} (h : Seen W p mb s) : Seen W.drew p mb s := ⟨h.blk, h.ne, h.own⟩
theorem Seen.drewN {W : World} {p mb : Nat} {s : List Lk} (h : Seen W p mb s) (m : Nat) : Seen (W.drewN m) p mb s := ⟨h.blk, h.ne, h.own⟩

def FirstsPost (w : World) (e : Ending) (w' : World) : Prop :=
  ∃ p mb, e = .returned (.func (.func 89) #[] #[.pointer (some ⟨p, 0, none⟩)]) ∧ Seen w' p mb [] ∧ w.heap.size ≤ p ∧ w.heap.size ≤ mb ∧ Below w.heap.size w w'
theorem firsts_calls (w : World) : Calls Tryz.prog 70 #[] w (FirstsPost w) := by
  have hmm := @run_makeMap Tryz.prog
  have hown := Lib.hid (World.ownsMap_made w Tryz.prog 143 (unitElem (H := Unit)))
  have hb := Lib.hid (Blk.new (w.alloc (.map #[] 0)) 167 [.map (some w.heap.size)])
  have k0 := Lib.hid (bel_new (bel_new (Below.refl w.heap.size w) (.map #[] 0)) (.cells #[.map (some w.heap.size)] 167))
  go_enter Tryz.func70, Tryz.ntmps70
  go_wp2_with fail
  go_ret
  refine ⟨w.heap.size + 1, w.heap.size, rfl, ⟨by have := hb.out; simpa using this, by omega, _, hown.out.alloc _, fun x _ => by simp [Maps.has_eq]⟩, by omega, Nat.le_refl _, k0.out⟩

def SeenPost (w : World) (p mb : Nat) (s : List Lk) (x : Lk) (e : Ending) (w' : World) : Prop :=
  e = .returned (.bool (!s.any (sameE x))) ∧ Seen w' p mb (s ++ [x]) ∧ Turn [mb] w w'
set_option maxHeartbeats 1600000 in
theorem first_calls {w : World} {p mb : Nat} {s : List Lk} (h : Seen w p mb s) (x : Lk) (hx : WfE x) (hl : s.length ≤ 1099511627776) :
    Calls Tryz.prog 89 #[ev x, .pointer (some ⟨p, 0, none⟩)] w (SeenPost w p mb s x) := by
  have h0 : w.cell? ⟨p, 0, none⟩ = some (.map (some mb)) := h.blk.cell 0
  have HK := Lib.hid (show keyOf Tryz.prog 143 (.agg #[.int .i64 x.f, .int .i64 x.t]) = some (ekey x) from ekey_of x hx)
  obtain ⟨D, ho, hh⟩ := h.own
  have HO := Lib.hid ho
  have HH := Lib.hid hh
  have H := Lib.hid h
  have HM := Lib.hid ho.isMap
  have HL := Lib.hid hl
  have hlt := h.lt
  clear ho hh h hl
  unfold ev
  go_enter Tryz.func89, Tryz.ntmps89
  go_wp2_with (first
    | (at_lookup; refine wpList_lookup_own_unit _ rfl _ _ 167 rfl 143 168 ends_law Tryz.underlying167 (zeroE _) mb s.length D rfl (HO.out.alloc _) _ _ rfl HK.out ?_)
    | (at_mapUpdate; refine wpList_mapUpdate_own _ rfl _ _ _ 167 rfl 143 168 ends_law Tryz.underlying167 _ mb s.length D rfl ((HO.out.alloc _).alloc _) (by have := HL.out; unfold maxLen; omega) _ _ _ rfl rfl HK.out _ [] unitElem_mk ?_; intro w1 hown1 hg1))
  go_ret
  have tw : Turn [mb] w w1 := Turn.trans (Turn.of_below (bel_new (bel_new (Below.refl w.heap.size w) (.cells #[.int .i64 x.f, .int .i64 x.t] 143)) (.cells #[] 168))) (Turn.of_grown hg1 (by simp))
  refine ⟨by rw [HH.out x hx]; rfl, ⟨?_, H.out.ne, _, (by simpa using hown1), fun z hz => ?_⟩, tw⟩
  · exact H.out.blk.same (tw.block p hlt.1 (by simpa using H.out.ne))
  · rw [List.any_append]
    by_cases hs : sameE z x = true
    · rw [ekey_same ((sameE_iff z x).1 hs), Maps.has_put_same HM.out (by simp [ekey, WideAt.IsKeyLit])]
      simp [hs]
    · rw [Maps.has_put_other (fun e => hs ((sameE_iff z x).2 (ekey_inj hz hx e))), HH.out z hz]
      simp [hs]

/-- May these be the links of n nodes? -/
def netB (n : Int) (L : List Lk) : Bool := L.all (vld n) && decide (L.Pairwise (fun x y => sameE y x = false))
def chk (n : Int) (L : List Lk) : Int := if 1 ≤ n ∧ n ≤ 16 then (if 64 < L.length then 3 else if netB n L = true then 0 else 2) else 2
theorem vld_wf {n : Int} {x : Lk} (hn : n ≤ 16) (h : vld n x = true) : WfE x := by
  simp only [vld, gwn, Bool.and_eq_true, decide_eq_true_eq] at h
  exact ⟨WalkArith.wf_i64 (by omega), WalkArith.wf_i64 (by omega)⟩
theorem net_take {n : Int} {L : List Lk} {i : Nat} (hi : i < L.length) (h : netB n (L.take i) = true) (hv : vld n L[i] = true) (hs : (L.take i).any (sameE L[i]) = false) : netB n (L.take (i + 1)) = true := by
  simp only [netB, Bool.and_eq_true, List.all_eq_true, decide_eq_true_eq] at h ⊢
  rw [List.take_succ_eq_append_getElem hi]
  refine ⟨fun x hx => ?_, List.pairwise_append.2 ⟨h.2, by simp, fun x hx y hy => ?_⟩⟩
  · rcases List.mem_append.1 hx with hx | hx
    · exact h.1 x hx
    · simp at hx; rw [hx]; exact hv
  · simp at hy; subst hy
    simpa using List.any_eq_false.1 hs x hx
theorem net_bad {n : Int} {L : List Lk} {i : Nat} (hi : i < L.length) (h : vld n L[i] = false ∨ (L.take i).any (sameE L[i]) = true) : netB n L = false := by
  rw [Bool.eq_false_iff]
  intro hc
  simp only [netB, Bool.and_eq_true, List.all_eq_true, decide_eq_true_eq] at hc
  rcases h with h | h
  · rw [hc.1 _ (List.getElem_mem hi)] at h; cases h
  · obtain ⟨x, hx, hs⟩ := List.any_eq_true.1 h
    obtain ⟨k, hk, rfl⟩ := List.mem_iff_getElem.1 hx
    have hk' : k < i ∧ k < L.length := Nat.lt_min.1 (by simpa using hk)
    have := List.pairwise_iff_getElem.1 hc.2 k i hk'.2 hi hk'.1
    rw [List.getElem_take] at hs
    rw [this] at hs; cases hs

set_option maxRecDepth 100000 in
set_option maxHeartbeats 3200000 in
theorem check_calls (n : Int) (a : Option Addr) (m c : Nat) (L : List Lk) (w : World) (h : Row lkc w w.heap.size a m L) (h1 : -9223372036854775808 ≤ n) (h2 : n ≤ 9223372036854775807) (hm : m ≤ 1099511627776) :
    Calls Tryz.prog 41 #[.int .i64 n, .slice a m c] w fun e w' => e = .returned (.int .i64 (chk n L)) ∧ Below w.heap.size w w' := by
  have hlen := h.1
  have hc1 := gwithin_calls n 1 16
  by_cases q1 : 1 ≤ n ∧ n ≤ 16
  case neg =>
    have q2 : gwn n 1 16 = false := by simp [gwn]; omega
    have hr : chk n L = 2 := by simp [chk, q1]
    rw [q2] at hc1
    rw [hr]
    clear hr h q1 q2
    go_enter Tryz.func41, Tryz.ntmps41
    go_wp2_with fail
    ((with_reducible refine (hc1 _).mono ?_))
    rintro e w' ⟨rfl, rfl⟩
    go_wp2_with fail
    go_ret
    exact ⟨rfl, Below.refl _ _⟩
  have q2 : gwn n 1 16 = true := by simp [gwn]; omega
  rw [q2] at hc1
  by_cases q3 : 64 < m
  · have hr : chk n L = 3 := by
      have : 64 < L.length := by omega
      simp [chk, q1, this]
    have q4 : (64 : Int) < (m : Int) := by omega
    rw [hr]
    clear hr h q1 q2 hlen
    go_enter Tryz.func41, Tryz.ntmps41
    go_wp2_with fail
    ((with_reducible refine (hc1 _).mono ?_))
    rintro e w' ⟨rfl, rfl⟩
    go_wp2_with fail
    go_ret
    exact ⟨rfl, Below.refl _ _⟩
  have hr : chk n L = if netB n L = true then 0 else 2 := by
    have : ¬ 64 < L.length := by omega
    simp [chk, q1, this]
  rw [hr]
  have HR := Lib.hid h
  have HN := Lib.hid q1
  have HLEN := Lib.hid hlen
  have hval := fun (x : Lk) (w : World) => valid_calls n x (by omega) (by omega) w
  have hend := fun (x : Lk) (w : World) => endsof_calls x w
  have he : ∀ (args : Array Value) (w : World), (callFunc 89 args).run Tryz.prog w = .ok (.enter 89 args) w := enters_of Tryz.func89 (by kernel_rfl) rfl
  clear hr h q1 q2 hlen
  go_enter Tryz.func41, Tryz.ntmps41
  go_wp2_with fail
  ((with_reducible refine (hc1 _).mono ?_))
  rintro e w' ⟨rfl, rfl⟩
  clear hc1
  go_wp2_with fail
  ((with_reducible refine (firsts_calls _).mono ?_))
  rintro e w1 ⟨p, mb, rfl, hS, hp, hmb, hB⟩
  have HS := Lib.hid hS
  have HB := Lib.hid hB
  have HP := Lib.hid (And.intro hp hmb)
  clear hS hB hp hmb
  go_wp2_with fail
  go_loopw [17] (fun t wr => ∃ i : Nat, i ≤ m ∧ t = .int .i64 (i : Int) ∧ Seen wr p mb (L.take i) ∧ netB n (L.take i) = true ∧ Below w'.heap.size w' wr) (fun t wr => m - (intOf t).toNat)
  case atStart => exact ⟨0, Nat.zero_le _, rfl, HS.out, by simp [netB], HB.out⟩
  case round =>
    obtain ⟨i, hi, rfl, hS, hN, hB⟩ := hrel
    clear HS HB
    have HS := Lib.hid hS
    have HB := Lib.hid hB
    have HNB := Lib.hid hN
    have hsz := hB.size
    clear hS hB hN
    by_cases hlt : i < m
    · obtain ⟨b, o, rfl, hbw, hcell⟩ := row_link HR.out (by omega)
      have hil : i < L.length := by have := HLEN.out; omega
      have hat := hcell i hil
      have hat2 : wr.rangeAt b (o + i * 5) (lkc L[i]) := fun j v hv => (World.cell?_of_block (w := w') (HB.out.block b hbw)).trans (hat j v hv)
      obtain ⟨x, hx⟩ : ∃ x, x = L[i] := ⟨_, rfl⟩
      rw [← hx] at hat2
      have HX := Lib.hid hx
      obtain ⟨d0, d1, d2, d3, d4⟩ := link_cells hat2
      clear hcell hat hat2 hx
      unfold lkc at hval hend
      go_wp2_with fail
      have q0 := Lib.hid (Blk.new wr 44 [.int .i64 x.f, .int .i64 x.t, .int .u64 x.c, .int .i64 x.m, .int .u32 x.g])
      have HSA := Lib.hid (HS.out.below (bel_new (Below.refl _ _) (.cells #[.int .i64 x.f, .int .i64 x.t, .int .u64 x.c, .int .i64 x.m, .int .u32 x.g] 44)))
      have HBA := Lib.hid (bel_alloc HB.out (Nat.le_refl _) (.cells #[.int .i64 x.f, .int .i64 x.t, .int .u64 x.c, .int .i64 x.m, .int .u32 x.g] 44))
      ((with_reducible refine (hval x _).mono ?_))
      rintro e w2 ⟨rfl, b2⟩
      have q2 := Blk.below q0.out b2
      have HS2 := Lib.hid (HSA.out.below b2)
      have HB2 := Lib.hid (bel_more HBA.out (Nat.le_refl _) b2)
      clear b2 d0 d1 d2 d3 d4 q0
      cases hv : vld n x with
      | false =>
        have hbad := net_bad (n := n) hil (.inl (by rw [← HX.out]; exact hv))
        go_wp2_with fail
        all_goals
          go_ret
          exact ⟨by first | rfl | rw [hbad]; rfl, HB2.out⟩
      | true =>
        have HV := Lib.hid hv
        have c0 : w2.cell? ⟨wr.heap.size, 0, none⟩ = some (.int .i64 x.f) := q2.cell 0
        have c1 : w2.cell? ⟨wr.heap.size, 1, none⟩ = some (.int .i64 x.t) := q2.cell 1
        have c2 : w2.cell? ⟨wr.heap.size, 2, none⟩ = some (.int .u64 x.c) := q2.cell 2
        have c3 : w2.cell? ⟨wr.heap.size, 3, none⟩ = some (.int .i64 x.m) := q2.cell 3
        have c4 : w2.cell? ⟨wr.heap.size, 4, none⟩ = some (.int .u32 x.g) := q2.cell 4
        clear q2
        go_wp2_with fail
        ((with_reducible refine (hend x _).mono ?_))
        rintro e w3 ⟨rfl, b3⟩
        have HS3 := Lib.hid (HS2.out.below b3)
        have HB3 := Lib.hid (bel_more HB2.out (Nat.le_refl _) b3)
        clear b3 c0 c1 c2 c3 c4
        go_wp2_with fail
        refine (first_calls HS3.out x (vld_wf (n := n) (by have := HN.out; omega) HV.out) (by simp; omega)).mono ?_
        rintro e w4 ⟨rfl, hS4, t4⟩
        have HS4 := Lib.hid hS4
        have HB4 := Lib.hid (Turn.bel HB3.out (Nat.le_refl _) t4 (by have := HP.out; simp; omega))
        clear hS4 t4
        cases hs : (L.take i).any (sameE x) with
        | true =>
          have hbad := net_bad (n := n) hil (.inr (by rw [← HX.out]; exact hs))
          go_wp2_with fail
          all_goals
            go_ret
            exact ⟨by first | rfl | rw [hbad]; rfl, HB4.out⟩
        | false =>
          have N4 := Lib.hid (net_take hil HNB.out (by rw [← HX.out]; exact HV.out) (by rw [← HX.out]; exact hs))
          have S4 : Seen w4 p mb (L.take (i + 1)) := by
            rw [List.take_succ_eq_append_getElem hil, ← HX.out]; exact HS4.out
          have HS5 := Lib.hid S4
          clear S4 HS4
          go_wp2_with fail
          go_roundw
          case rel => exact ⟨i + 1, by omega, rfl, HS5.out, N4.out, HB4.out⟩
          case measure => simp [intOf]; omega
    · have hg : netB n L = true := by
        have := HNB.out
        rwa [List.take_of_length_le (by have := HLEN.out; omega)] at this
      have HG := Lib.hid hg
      clear hg
      go_wp2_with fail
      go_ret
      exact ⟨by first | rfl | rw [HG.out]; rfl, HB.out⟩
end Go.Proofs.YtjflbfianncpfaaGreat

namespace Go.Proofs.YtjflbfianncpfaaGreat
set_option maxRecDepth 100000
open Go.RowKit

/-- Does a link lead from one node to another one? -/
def isE (f t : Int) (x : Lk) : Bool := x.f == f && x.t == t
/-- The first link from a node to another one. -/
def fndL (L : List Lk) (f t : Int) : Int := match L.findIdx? (isE f t) with | some i => (i : Int) | none => -1
theorem fndL_hit {L : List Lk} {f t : Int} {i : Nat} (hi : i < L.length) (hb : ∀ k (hk : k < L.length), k < i → isE f t L[k] = false) (h : isE f t L[i] = true) : fndL L f t = (i : Int) := by
  unfold fndL
  rw [List.findIdx?_eq_some_iff_getElem.2 ⟨hi, h, fun j hj => by have := hb j (by omega) hj; simp [this]⟩]
theorem fndL_none {L : List Lk} {f t : Int} (h : ∀ k (hk : k < L.length), isE f t L[k] = false) : fndL L f t = -1 := by
  unfold fndL
  rw [List.findIdx?_eq_none_iff.2 (fun x hx => by obtain ⟨k, hk, rfl⟩ := List.mem_iff_getElem.1 hx; exact h k hk)]
theorem fndL_cases (L : List Lk) (f t : Int) : (fndL L f t = -1 ∧ ∀ x ∈ L, isE f t x = false) ∨ ∃ i : Nat, ∃ hi : i < L.length, fndL L f t = (i : Int) ∧ isE f t L[i] = true := by
  unfold fndL
  cases h : L.findIdx? (isE f t) with
  | none => exact .inl ⟨rfl, List.findIdx?_eq_none_iff.1 h⟩
  | some i =>
    obtain ⟨hi, h1, _⟩ := List.findIdx?_eq_some_iff_getElem.1 h
    exact .inr ⟨i, hi, rfl, h1⟩

theorem index_calls (x : Int) (a : Option Addr) (n c B : Nat) (l : List Int) (w : World) (h : Row ei w B a n l) (hn : n ≤ 1099511627776) :
    Calls Tryz.prog 107 #[.slice a n c, .int .i64 x] w fun e w' => (∃ r : Int, e = .returned (.int .i64 r) ∧ (0 ≤ r ↔ x ∈ l)) ∧ w' = w := by
  have HLEN := Lib.hid h.1
  have HR := Lib.hid h
  clear h
  go_enter Tryz.func107, Tryz.ntmps107
  go_wp2_with fail
  go_loopw [8] (fun t' wr => ∃ i : Nat, i ≤ n ∧ t' = .int .i64 (i : Int) ∧ x ∉ l.take i ∧ wr = w) (fun t' wr => n - (intOf t').toNat)
  case atStart => exact ⟨0, Nat.zero_le _, rfl, by simp, rfl⟩
  case round =>
    obtain ⟨i, hi, rfl, hF, rfl⟩ := hrel
    have HF := Lib.hid hF
    clear hF
    by_cases hlt : i < n
    · obtain ⟨b, o, rfl, hbw, hcell⟩ := HR.out.cells ei_length (by omega)
      have hil : i < l.length := by have := HLEN.out; omega
      have hat : wr.cell? ⟨b, o + i, none⟩ = some (.int .i64 l[i]) := by have := hcell i hil 0 (by omega); rw [Nat.mul_one, Nat.add_zero] at this; exact this
      clear hcell
      by_cases hx : x = l[i]
      · have hb : (x == l[i]) = true := by simp [hx]
        have HX := Lib.hid hx
        clear hx
        go_wp2_with fail
        go_ret
        refine ⟨⟨_, rfl, ?_⟩, rfl⟩
        constructor
        · intro _; rw [HX.out]; exact List.getElem_mem hil
        · intro _; omega
      · have hb : (x == l[i]) = false := by simp [hx]
        have F2 := Lib.hid (show x ∉ l.take (i + 1) by
          rw [List.take_succ_eq_append_getElem hil]
          intro hm
          rcases List.mem_append.1 hm with hm | hm
          · exact HF.out hm
          · simp at hm; exact hx hm)
        clear hx
        go_wp2_with fail
        go_roundw
        case rel => exact ⟨i + 1, by omega, rfl, F2.out, trivial⟩
        case measure => simp [intOf]; omega
    · go_wp2_with fail
      go_ret
      refine ⟨⟨_, rfl, ?_⟩, rfl⟩
      constructor
      · intro h; omega
      · intro hm; exact absurd (by rw [List.take_of_length_le (by have := HLEN.out; omega)]; exact hm) HF.out
theorem contains_calls (x : Int) (a : Option Addr) (n c B : Nat) (l : List Int) (w : World) (h : Row ei w B a n l) (hn : n ≤ 1099511627776) :
    Calls Tryz.prog 92 #[.slice a n c, .int .i64 x] w fun e w' => e = .returned (.bool (decide (x ∈ l))) ∧ w' = w := by
  have hi := index_calls x a n c B l w h hn
  clear h
  go_enter Tryz.func92, Tryz.ntmps92
  go_wp2_with fail
  ((with_reducible refine hi.mono ?_))
  rintro e w' ⟨⟨r, rfl, hr⟩, rfl⟩
  have HR := Lib.hid hr
  clear hr hi
  go_wp2_with fail
  go_ret
  refine ⟨?_, rfl⟩
  have : decide (0 ≤ r) = decide (x ∈ l) := by simp [HR.out]
  rw [← this]
  rfl
end Go.Proofs.YtjflbfianncpfaaGreat
