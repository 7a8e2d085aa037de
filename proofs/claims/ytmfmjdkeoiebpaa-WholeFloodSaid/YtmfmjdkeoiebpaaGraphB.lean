/-
  Contracts of package graph: firsts, the function that it returns, Check. Condition: at most 2^40 links.
-/
import Derived.Test.YtmfmjdkeoiebpaaGraphA
import Derived.Test.YtmfmjdkeoiebpaaMapI
import Derived.DeepKeys4
import Derived.Shelf.Abstract
import Derived.Laws.EntriesVeiled
namespace Go.Proofs.Ytmfmjdkeoiebpaa
set_option maxRecDepth 100000
open Go.RowKit Go.Maps

theorem ends_law : Keyed Try.prog 94 := Keyed.of_law (deep_law_laid (m := 2) (by kernel_rfl) (by omega) (of_decide_eq_true (by kernel_rfl)) (by kernel_rfl) (by rw [Try.underlying94]))
/-- A key, as the map reads it. -/
def ekey (x : Lk) : Lit := .string (keyBytes [.int .i64 x.f, .int .i64 x.t])
/-- Both ends are whole numbers of the language. -/
def WfE (x : Lk) : Prop := (Lit.int .i64 x.f).wf = true ∧ (Lit.int .i64 x.t).wf = true
theorem ekey_of (x : Lk) (h : WfE x) : keyOf Try.prog 94 (ev x) = some (ekey x) := by
  have hk : Try.prog.keyType 94 = true := by kernel_rfl
  have hs : Try.prog.cellsOf 94 = 2 := by kernel_rfl
  unfold keyOf ev ekey
  rw [Try.underlying94]
  simp [hk, Value.formed, Try.underlying94, hs, Value.cells]
  refine ⟨[.int .i64 x.f, .int .i64 x.t], ?_, rfl⟩
  have hi : Try.prog.cellsOf 3 = 1 := by kernel_rfl
  have hd : ∀ d, Try.prog.keyLits (d + 2) 94 [.int .i64 x.f, .int .i64 x.t] = some [.int .i64 x.f, .int .i64 x.t] := by
    intro d
    simp [Program.keyLits, Try.underlying94, Try.underlying3, hs, hi, h.1, h.2]
  exact hd _
theorem zeroE (w : World) : (zeroValue 107).run Try.prog w = .ok (.agg #[]) w := by kernel_rfl
/-- Have two links the same ends? -/
def sameE (x y : Lk) : Bool := x.f == y.f && x.t == y.t
theorem sameE_iff (x y : Lk) : sameE x y = true ↔ x.f = y.f ∧ x.t = y.t := by simp [sameE]
theorem ekey_inj {x y : Lk} (hx : WfE x) (hy : WfE y) (h : ekey x = ekey y) : x.f = y.f ∧ x.t = y.t := by
  have h1 := ekey_of x hx
  rw [h] at h1
  have := ends_law.inj h1 (ekey_of y hy)
  simpa [ev] using this
theorem ekey_same {x y : Lk} (h : x.f = y.f ∧ x.t = y.t) : ekey x = ekey y := by unfold ekey; rw [h.1, h.2]

/-- The ends that have occurred, in a map behind a pointer. -/
structure Seen (W : World) (p mb : Nat) (s : List Lk) : Prop where
  blk : Blk W p 106 [.map (some mb)]
  ne : p ≠ mb
  own : ∃ D : DataW Unit, W.ownsMap Try.prog 94 unitElem mb s.length D ∧ ∀ x, WfE x → Maps.has D (ekey x) = s.any (sameE x)
theorem Seen.lt {W : World} {p mb : Nat} {s : List Lk} (h : Seen W p mb s) : p < W.heap.size ∧ mb < W.heap.size := by
  obtain ⟨D, ho, _⟩ := h.own
  exact ⟨h.blk.lt, ho.lt⟩
theorem Seen.kept {W W' : World} {p mb : Nat} {s : List Lk} (h : Seen W p mb s) {r : Option Nat} (hg : W.grownBy W' r) (h1 : some p ≠ r) (h2 : some mb ≠ r) : Seen W' p mb s := by
  obtain ⟨D, ho, hh⟩ := h.own
  exact ⟨h.blk.same (hg.block p h.blk.lt h1), h.ne, D, ho.kept hg h2, hh⟩
theorem Seen.below {W W' : World} {p mb : Nat} {s : List Lk} (h : Seen W p mb s) (hb : Below W.heap.size W W') : Seen W' p mb s :=
  h.kept (r := none) ⟨hb.os, hb.tape, hb.output, hb.size, fun k hk _ => hb.block k hk⟩ (by simp) (by simp)
theorem Seen.drew {W : World} {p mb : Nat} {s : List Lk} (h : Seen W p mb s) : Seen W.drew p mb s := ⟨h.blk, h.ne, h.own⟩
theorem Seen.drewN {W : World} {p mb : Nat} {s : List Lk} (h : Seen W p mb s) (m : Nat) : Seen (W.drewN m) p mb s := ⟨h.blk, h.ne, h.own⟩

def FirstsPost (w : World) (e : Ending) (w' : World) : Prop :=
  ∃ p mb, e = .returned (.func (.func 59) #[] #[.pointer (some ⟨p, 0, none⟩)]) ∧ Seen w' p mb [] ∧ w.heap.size ≤ p ∧ w.heap.size ≤ mb ∧ Below w.heap.size w w'
theorem firsts_calls (w : World) : Calls Try.prog 47 #[] w (FirstsPost w) := by
  have hmm := @run_makeMap Try.prog
  have hown := Lib.hid (World.ownsMap_made w Try.prog 94 (unitElem (H := Unit)))
  have hb := Lib.hid (Blk.new (w.alloc (.map #[] 0)) 106 [.map (some w.heap.size)])
  have k0 := Lib.hid (bel_new (bel_new (Below.refl w.heap.size w) (.map #[] 0)) (.cells #[.map (some w.heap.size)] 106))
  go_enter Try.func47, Try.ntmps47
  go_wp2_with fail
  go_ret
  refine ⟨w.heap.size + 1, w.heap.size, rfl, ⟨by have := hb.out; simpa using this, by omega, _, hown.out.alloc _, fun x _ => by simp [Maps.has_eq]⟩, by omega, Nat.le_refl _, k0.out⟩

def SeenPost (w : World) (p mb : Nat) (s : List Lk) (x : Lk) (e : Ending) (w' : World) : Prop :=
  e = .returned (.bool (!s.any (sameE x))) ∧ Seen w' p mb (s ++ [x]) ∧ Turn [mb] w w'
set_option maxHeartbeats 1600000 in
theorem first_calls {w : World} {p mb : Nat} {s : List Lk} (h : Seen w p mb s) (x : Lk) (hx : WfE x) (hl : s.length ≤ 1099511627776) :
    Calls Try.prog 59 #[ev x, .pointer (some ⟨p, 0, none⟩)] w (SeenPost w p mb s x) := by
  have h0 : w.cell? ⟨p, 0, none⟩ = some (.map (some mb)) := h.blk.cell 0
  have HK := Lib.hid (show keyOf Try.prog 94 (.agg #[.int .i64 x.f, .int .i64 x.t]) = some (ekey x) from ekey_of x hx)
  obtain ⟨D, ho, hh⟩ := h.own
  have HO := Lib.hid ho
  have HH := Lib.hid hh
  have H := Lib.hid h
  have HM := Lib.hid ho.isMap
  have HL := Lib.hid hl
  have hlt := h.lt
  clear ho hh h hl
  unfold ev
  go_enter Try.func59, Try.ntmps59
  go_wp2_with (first
    | (at_lookup; refine wpList_lookup_own_unit _ rfl _ _ 106 rfl 94 107 ends_law Try.underlying106 (zeroE _) mb s.length D rfl (HO.out.alloc _) _ _ rfl HK.out ?_)
    | (at_mapUpdate; refine wpList_mapUpdate_own _ rfl _ _ _ 106 rfl 94 107 ends_law Try.underlying106 _ mb s.length D rfl ((HO.out.alloc _).alloc _) (by have := HL.out; unfold maxLen; omega) _ _ _ rfl rfl HK.out _ [] unitElem_mk ?_; intro w1 hown1 hg1))
  go_ret
  have tw : Turn [mb] w w1 := Turn.trans (Turn.of_below (bel_new (bel_new (Below.refl w.heap.size w) (.cells #[.int .i64 x.f, .int .i64 x.t] 94)) (.cells #[] 107))) (Turn.of_grown hg1 (by simp))
  refine ⟨by rw [HH.out x hx]; rfl, ⟨?_, H.out.ne, _, (by simpa using hown1), fun z hz => ?_⟩, tw⟩
  · exact H.out.blk.same (tw.block p hlt.1 (by simpa using H.out.ne))
  · rw [List.any_append]
    by_cases hs : sameE z x = true
    · rw [ekey_same ((sameE_iff z x).1 hs), Maps.has_put_same HM.out (by simp [ekey, WideAt.IsKeyLit])]
      simp [hs]
    · rw [Maps.has_put_other (fun e => hs ((sameE_iff z x).2 (ekey_inj hz hx e))), HH.out z hz]
      simp [hs]

/-- May these be the links of n nodes? -/
def netB (n : Int) (L : List Lk) : Bool := L.all (vld n) && decide (L.Pairwise (fun x y => sameE y x = false))
def chk (n : Int) (L : List Lk) : Int := if 1 ≤ n ∧ n ≤ 16 then (if 64 < L.length then 3 else if netB n L = true then 0 else 2) else 2
theorem vld_wf {n : Int} {x : Lk} (hn : n ≤ 16) (h : vld n x = true) : WfE x := by
  simp only [vld, gwn, Bool.and_eq_true, decide_eq_true_eq] at h
  exact ⟨WalkArith.wf_i64 (by omega), WalkArith.wf_i64 (by omega)⟩
theorem net_take {n : Int} {L : List Lk} {i : Nat} (hi : i < L.length) (h : netB n (L.take i) = true) (hv : vld n L[i] = true) (hs : (L.take i).any (sameE L[i]) = false) : netB n (L.take (i + 1)) = true := by
  simp only [netB, Bool.and_eq_true, List.all_eq_true, decide_eq_true_eq] at h ⊢
  rw [List.take_succ_eq_append_getElem hi]
  refine ⟨fun x hx => ?_, List.pairwise_append.2 ⟨h.2, by simp, fun x hx y hy => ?_⟩⟩
  · rcases List.mem_append.1 hx with hx | hx
    · exact h.1 x hx
    · simp at hx; rw [hx]; exact hv
  · simp at hy; subst hy
    simpa using List.any_eq_false.1 hs x hx
theorem net_bad {n : Int} {L : List Lk} {i : Nat} (hi : i < L.length) (h : vld n L[i] = false ∨ (L.take i).any (sameE L[i]) = true) : netB n L = false := by
  rw [Bool.eq_false_iff]
  intro hc
  simp only [netB, Bool.and_eq_true, List.all_eq_true, decide_eq_true_eq] at hc
  rcases h with h | h
  · rw [hc.1 _ (List.getElem_mem hi)] at h; cases h
  · obtain ⟨x, hx, hs⟩ := List.any_eq_true.1 h
    obtain ⟨k, hk, rfl⟩ := List.mem_iff_getElem.1 hx
    have hk' : k < i ∧ k < L.length := Nat.lt_min.1 (by simpa using hk)
    have := List.pairwise_iff_getElem.1 hc.2 k i hk'.2 hi hk'.1
    rw [List.getElem_take] at hs
    rw [this] at hs; cases hs

set_option maxRecDepth 100000 in
set_option maxHeartbeats 3200000 in
theorem check_calls (n : Int) (a : Option Addr) (m c : Nat) (L : List Lk) (w : World) (h : Row lkc w w.heap.size a m L) (h1 : -9223372036854775808 ≤ n) (h2 : n ≤ 9223372036854775807) (hm : m ≤ 1099511627776) :
    Calls Try.prog 31 #[.int .i64 n, .slice a m c] w fun e w' => e = .returned (.int .i64 (chk n L)) ∧ Below w.heap.size w w' := by
  have hlen := h.1
  have hc1 := gwithin_calls n 1 16
  by_cases q1 : 1 ≤ n ∧ n ≤ 16
  case neg =>
    have q2 : gwn n 1 16 = false := by simp [gwn]; omega
    have hr : chk n L = 2 := by simp [chk, q1]
    rw [q2] at hc1
    rw [hr]
    clear hr h q1 q2
    go_enter Try.func31, Try.ntmps31
    go_wp2_with fail
    ((with_reducible refine (hc1 _).mono ?_))
    rintro e w' ⟨rfl, rfl⟩
    go_wp2_with fail
    go_ret
    exact ⟨rfl, Below.refl _ _⟩
  have q2 : gwn n 1 16 = true := by simp [gwn]; omega
  rw [q2] at hc1
  by_cases q3 : 64 < m
  · have hr : chk n L = 3 := by
      have : 64 < L.length := by omega
      simp [chk, q1, this]
    have q4 : (64 : Int) < (m : Int) := by omega
    rw [hr]
    clear hr h q1 q2 hlen
    go_enter Try.func31, Try.ntmps31
    go_wp2_with fail
    ((with_reducible refine (hc1 _).mono ?_))
    rintro e w' ⟨rfl, rfl⟩
    go_wp2_with fail
    go_ret
    exact ⟨rfl, Below.refl _ _⟩
  have hr : chk n L = if netB n L = true then 0 else 2 := by
    have : ¬ 64 < L.length := by omega
    simp [chk, q1, this]
  rw [hr]
  have HR := Lib.hid h
  have HN := Lib.hid q1
  have HLEN := Lib.hid hlen
  have hval := fun (x : Lk) (w : World) => valid_calls n x (by omega) (by omega) w
  have hend := fun (x : Lk) (w : World) => endsof_calls x w
  have he : ∀ (args : Array Value) (w : World), (callFunc 59 args).run Try.prog w = .ok (.enter 59 args) w := enters_of Try.func59 (by kernel_rfl) rfl
  clear hr h q1 q2 hlen
  go_enter Try.func31, Try.ntmps31
  go_wp2_with fail
  ((with_reducible refine (hc1 _).mono ?_))
  rintro e w' ⟨rfl, rfl⟩
  clear hc1
  go_wp2_with fail
  ((with_reducible refine (firsts_calls _).mono ?_))
  rintro e w1 ⟨p, mb, rfl, hS, hp, hmb, hB⟩
  have HS := Lib.hid hS
  have HB := Lib.hid hB
  have HP := Lib.hid (And.intro hp hmb)
  clear hS hB hp hmb
  go_wp2_with fail
  go_loopw [17] (fun t wr => ∃ i : Nat, i ≤ m ∧ t = .int .i64 (i : Int) ∧ Seen wr p mb (L.take i) ∧ netB n (L.take i) = true ∧ Below w'.heap.size w' wr) (fun t wr => m - (intOf t).toNat)
  case atStart => exact ⟨0, Nat.zero_le _, rfl, HS.out, by simp [netB], HB.out⟩
  case round =>
    obtain ⟨i, hi, rfl, hS, hN, hB⟩ := hrel
    clear HS HB
    have HS := Lib.hid hS
    have HB := Lib.hid hB
    have HNB := Lib.hid hN
    have hsz := hB.size
    clear hS hB hN
    by_cases hlt : i < m
    · obtain ⟨b, o, rfl, hbw, hcell⟩ := row_link HR.out (by omega)
      have hil : i < L.length := by have := HLEN.out; omega
      have hat := hcell i hil
      have hat2 : wr.rangeAt b (o + i * 5) (lkc L[i]) := fun j v hv => (World.cell?_of_block (w := w') (HB.out.block b hbw)).trans (hat j v hv)
      obtain ⟨x, hx⟩ : ∃ x, x = L[i] := ⟨_, rfl⟩
      rw [← hx] at hat2
      have HX := Lib.hid hx
      obtain ⟨d0, d1, d2, d3, d4⟩ := link_cells hat2
      clear hcell hat hat2 hx
      unfold lkc at hval hend
      go_wp2_with fail
      have q0 := Lib.hid (Blk.new wr 37 [.int .i64 x.f, .int .i64 x.t, .int .u64 x.c, .int .i64 x.m, .int .u32 x.g])
      have HSA := Lib.hid (HS.out.below (bel_new (Below.refl _ _) (.cells #[.int .i64 x.f, .int .i64 x.t, .int .u64 x.c, .int .i64 x.m, .int .u32 x.g] 37)))
      have HBA := Lib.hid (bel_alloc HB.out (Nat.le_refl _) (.cells #[.int .i64 x.f, .int .i64 x.t, .int .u64 x.c, .int .i64 x.m, .int .u32 x.g] 37))
      ((with_reducible refine (hval x _).mono ?_))
      rintro e w2 ⟨rfl, b2⟩
      have q2 := Blk.below q0.out b2
      have HS2 := Lib.hid (HSA.out.below b2)
      have HB2 := Lib.hid (bel_more HBA.out (Nat.le_refl _) b2)
      clear b2 d0 d1 d2 d3 d4 q0
      cases hv : vld n x with
      | false =>
        have hbad := net_bad (n := n) hil (.inl (by rw [← HX.out]; exact hv))
        go_wp2_with fail
        all_goals
          go_ret
          exact ⟨by first | rfl | rw [hbad]; rfl, HB2.out⟩
      | true =>
        have HV := Lib.hid hv
        have c0 : w2.cell? ⟨wr.heap.size, 0, none⟩ = some (.int .i64 x.f) := q2.cell 0
        have c1 : w2.cell? ⟨wr.heap.size, 1, none⟩ = some (.int .i64 x.t) := q2.cell 1
        have c2 : w2.cell? ⟨wr.heap.size, 2, none⟩ = some (.int .u64 x.c) := q2.cell 2
        have c3 : w2.cell? ⟨wr.heap.size, 3, none⟩ = some (.int .i64 x.m) := q2.cell 3
        have c4 : w2.cell? ⟨wr.heap.size, 4, none⟩ = some (.int .u32 x.g) := q2.cell 4
        clear q2
        go_wp2_with fail
        ((with_reducible refine (hend x _).mono ?_))
        rintro e w3 ⟨rfl, b3⟩
        have HS3 := Lib.hid (HS2.out.below b3)
        have HB3 := Lib.hid (bel_more HB2.out (Nat.le_refl _) b3)
        clear b3 c0 c1 c2 c3 c4
        go_wp2_with fail
        refine (first_calls HS3.out x (vld_wf (n := n) (by have := HN.out; omega) HV.out) (by simp; omega)).mono ?_
        rintro e w4 ⟨rfl, hS4, t4⟩
        have HS4 := Lib.hid hS4
        have HB4 := Lib.hid (Turn.bel HB3.out (Nat.le_refl _) t4 (by have := HP.out; simp; omega))
        clear hS4 t4
        cases hs : (L.take i).any (sameE x) with
        | true =>
          have hbad := net_bad (n := n) hil (.inr (by rw [← HX.out]; exact hs))
          go_wp2_with fail
          all_goals
            go_ret
            exact ⟨by first | rfl | rw [hbad]; rfl, HB4.out⟩
        | false =>
          have N4 := Lib.hid (net_take hil HNB.out (by rw [← HX.out]; exact HV.out) (by rw [← HX.out]; exact hs))
          have S4 : Seen w4 p mb (L.take (i + 1)) := by
            rw [List.take_succ_eq_append_getElem hil, ← HX.out]; exact HS4.out
          have HS5 := Lib.hid S4
          clear S4 HS4
          go_wp2_with fail
          go_roundw
          case rel => exact ⟨i + 1, by omega, rfl, HS5.out, N4.out, HB4.out⟩
          case measure => simp [intOf]; omega
    · have hg : netB n L = true := by
        have := HNB.out
        rwa [List.take_of_length_le (by have := HLEN.out; omega)] at this
      have HG := Lib.hid hg
      clear hg
      go_wp2_with fail
      go_ret
      exact ⟨by first | rfl | rw [HG.out]; rfl, HB.out⟩
end Go.Proofs.Ytmfmjdkeoiebpaa
