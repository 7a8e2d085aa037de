/-
  Contracts of package graph: Outs. Condition: at most 2^40 links.
-/
import Derived.Test.YtkagfgnjfdlicaaGraphC
import Derived.Test.YtkagfgnjfdlicaaGrY
import Derived.Test.YtkagfgnjfdlicaaCmpI
namespace Go.Proofs.Ytkagfgnjfdlicaa
set_option maxRecDepth 100000
open Go.RowKit

/-- Where a link leads, by its number. -/
def keyT (L : List Lk) (x : Int) : Int := (L.getD x.toNat default).t
theorem outs1_calls (L : List Lk) (p B n c : Nat) (a : Option Addr) (x y : Int) (w : World) (hp : w.cell? ⟨p, 0, none⟩ = some (.slice a n c)) (h : Row lkc w B a n L) (hx : 0 ≤ x ∧ x < n) (hy : 0 ≤ y ∧ y < n) :
    Calls Try.prog 52 #[.int .i64 x, .int .i64 y, .pointer (some ⟨p, 0, none⟩)] w fun e w' => e = .returned (.int .i64 (cmpI (keyT L x) (keyT L y))) ∧ ∃ m, w' = w.drewN m := by
  obtain ⟨i, rfl⟩ : ∃ i : Nat, x = (i : Int) := ⟨x.toNat, by omega⟩
  obtain ⟨j, rfl⟩ : ∃ i : Nat, y = (i : Int) := ⟨y.toNat, by omega⟩
  have hl := h.1
  have hi : i < n := by omega
  have hj : j < n := by omega
  have e1 : keyT L (i : Int) = (L[i]'(by omega)).t := by simp [keyT, List.getD_eq_getElem?_getD, List.getElem?_eq_getElem (show i < L.length by omega)]
  have e2 : keyT L (j : Int) = (L[j]'(by omega)).t := by simp [keyT, List.getD_eq_getElem?_getD, List.getElem?_eq_getElem (show j < L.length by omega)]
  obtain ⟨b, o, rfl, hb, hc⟩ := row_link h (by omega)
  have c1 := (link_cells (hc i (by omega))).2.1
  have c2 := (link_cells (hc j (by omega))).2.1
  rw [← e1] at c1
  rw [← e2] at c2
  have hcm := fun w => compare_calls (keyT L (i : Int)) (keyT L (j : Int)) w
  generalize keyT L (i : Int) = k1 at *
  generalize keyT L (j : Int) = k2 at *
  have HC := Lib.hid (And.intro hp (And.intro c1 c2))
  clear hx hy hc e1 e2 c1 c2 h hp hl
  go_enter Try.func52, Try.ntmps52
  go_wp2_with fail
  refine region_seq (fun W => W.cell? ⟨p, 0, none⟩ = some (.slice (some ⟨b, o, none⟩) n c) ∧ W.cell? ⟨b, o + i * 5 + 1, none⟩ = some (.int .i64 k1) ∧ W.cell? ⟨b, o + j * 5 + 1, none⟩ = some (.int .i64 k2)) [(0, true), (1, true), (2, true), (3, true), (4, true), (5, true), (6, true), (7, true), (8, true), (9, true), (10, false), (11, true)]
    (by kernel_rfl) (by kernel_rfl) (by kernel_rfl) (by kernel_rfl) (fun _ _ _ _ _ h => h) HC.out ?_
  repeat
    refine seq_pure (v := ?_) rfl (by rfl) (fun W hW => ?_) ?_
    rotate_left
    · have t1 := hW.1
      have t2 := hW.2.1
      have t3 := hW.2.2
      clear hW
      go_simp
      try with_reducible rfl
    simp only [Act.put, List.setIfInBounds_toArray, List.set_cons_zero, List.set_cons_succ]
  refine seq_make rfl (by rfl) (fun K hK => ?_)
  go_simp
  ((with_reducible refine (hcm _).mono ?_))
  rintro e w1 ⟨rfl, rfl⟩
  go_simp
  refine hK _ _ (fun W => W.cell? ⟨p, 0, none⟩ = some (.slice (some ⟨b, o, none⟩) n c) ∧ W.cell? ⟨b, o + i * 5 + 1, none⟩ = some (.int .i64 k1) ∧ W.cell? ⟨b, o + j * 5 + 1, none⟩ = some (.int .i64 k2)) (fun _ h => h) HC.out ?_
  clear hK K
  repeat
    refine seq_pure (v := ?_) rfl (by rfl) (fun W hW => ?_) ?_
    rotate_left
    · clear hW
      go_simp
      try with_reducible rfl
    simp only [Act.put, List.setIfInBounds_toArray, List.set_cons_zero, List.set_cons_succ]
  refine seq_done ?_
  go_wp2_with fail
  go_ret
  exact ⟨rfl, 1, rfl⟩

/-- The links that lead from a node, among the first ones. -/
def gat (L : List Lk) (node : Int) (i : Nat) : List Int := ((List.range i).filter (fun k : Nat => (L.getD k default).f == node)).map (fun k : Nat => (k : Int))
theorem gat_succ (L : List Lk) (node : Int) (i : Nat) : gat L node (i + 1) = gat L node i ++ (if (L.getD i default).f == node then [(i : Int)] else []) := by
  unfold gat
  rw [List.range_succ, List.filter_append, List.map_append]
  congr 1
  generalize hb : ((L.getD i default).f == node) = b
  have hf : List.filter (fun k : Nat => (L.getD k default).f == node) [i] = if b = true then [i] else [] := by rw [List.filter_cons, hb]; rfl
  rw [hf]
  cases b <;> rfl
theorem gat_len (L : List Lk) (node : Int) (i : Nat) : (gat L node i).length ≤ i := by
  unfold gat
  rw [List.length_map]
  exact Nat.le_trans (List.length_filter_le _ _) (by simp)
theorem gat_rise (L : List Lk) (node : Int) (i : Nat) : (gat L node i).Pairwise (· < ·) := by
  unfold gat
  rw [List.pairwise_map]
  exact (List.Pairwise.filter _ List.pairwise_lt_range).imp (fun h => by omega)
theorem gat_mem (L : List Lk) (node x : Int) (i : Nat) : x ∈ gat L node i ↔ ∃ k : Nat, k < i ∧ (L.getD k default).f = node ∧ x = (k : Int) := by
  unfold gat
  simp only [List.mem_map, List.mem_filter, List.mem_range, beq_iff_eq]
  constructor
  · rintro ⟨k, ⟨h1, h2⟩, rfl⟩; exact ⟨k, h1, h2, rfl⟩
  · rintro ⟨k, h1, h2, rfl⟩; exact ⟨k, ⟨h1, h2⟩, rfl⟩
/-- The numbers of a node's links, by where they lead. -/
structure OutsOk (L : List Lk) (node : Int) (o : List Int) : Prop where
  order : o.Pairwise (fun x y => keyT L x < keyT L y ∨ keyT L x = keyT L y ∧ x < y)
  mem : ∀ x, x ∈ o ↔ ∃ k : Nat, k < L.length ∧ (L.getD k default).f = node ∧ x = (k : Int)
  len : o.length = (gat L node L.length).length
def OutsPost (w : World) (L : List Lk) (node : Int) (e : Ending) (w' : World) : Prop :=
  ∃ (o : List Int) (A : Option Addr) (c : Nat), e = .returned (.slice A o.length c) ∧ AccI w' w.heap.size A c o ∧ OutsOk L node o ∧ Below w.heap.size w w'

set_option maxHeartbeats 1600000 in
theorem outs_calls (node : Int) (a : Option Addr) (n c : Nat) (L : List Lk) (w : World) (h : Row lkc w w.heap.size a n L) (hn : n ≤ 1099511627776) :
    Calls Try.prog 43 #[.slice a n c, .int .i64 node] w (OutsPost w L node) := by
  have HLEN := Lib.hid h.1
  have HR := Lib.hid h
  have K0 := Lib.hid (bel_new (Below.refl w.heap.size w) (.cells #[.slice a n c] 28))
  have q0 := Lib.hid (Blk.new w 28 [.slice a n c])
  have cp : (w.alloc (.cells #[.slice a n c] 28)).cell? ⟨w.heap.size, 0, none⟩ = some (.slice a n c) := q0.out.cell 0
  have CP := Lib.hid cp
  have hs0 : (w.alloc (.cells #[.slice a n c] 28)).heap.size = w.heap.size + 1 := by simp
  have HS0 := Lib.hid hs0
  clear h
  have B0 := Lib.hid (Below.refl (w.heap.size + 1) (w.alloc (.cells #[.slice a n c] 28)))
  clear hs0 cp
  go_enter Try.func43, Try.ntmps43
  have cp := CP.out
  go_wp2_with fail
  clear cp
  generalize hw0 : w.alloc (.cells #[.slice a n c] 28) = w0 at *
  clear hw0
  go_loopw [5, 10] (fun s t wr => ∃ (i cc : Nat) (A : Option Addr), i ≤ n ∧ t = .int .i64 (i : Int) ∧ s = .slice A (gat L node i).length cc ∧ AccI wr (w.heap.size + 1) A cc (gat L node i) ∧ Below (w.heap.size + 1) w0 wr) (fun s t wr => n - (intOf t).toNat)
  case atStart => exact ⟨0, 0, none, Nat.zero_le _, rfl, rfl, AccR.nil _ _ _, B0.out⟩
  case round =>
    obtain ⟨i, cc, A, hi, rfl, rfl, hA, hB⟩ := hrel
    have HA := Lib.hid hA
    have HB := Lib.hid hB
    have hsz := hB.size
    have hgl := gat_len L node i
    clear hA hB
    by_cases hlt : i < n
    · have HR2 := Lib.hid ((HR.out.below K0.out).keep (w' := wr) (fun k hk => HB.out.block k (by omega)))
      obtain ⟨b, o, rfl, hbw, hcell⟩ := row_link HR2.out (by omega)
      have hil : i < L.length := by have := HLEN.out; omega
      have hat2 := hcell i hil
      have hx : L[i] = L.getD i default := by simp [List.getD_eq_getElem?_getD, List.getElem?_eq_getElem hil]
      rw [hx] at hat2
      generalize hxx : L.getD i default = x at *
      have HXX := Lib.hid hxx
      obtain ⟨d0, d1, d2, d3, d4⟩ := link_cells hat2
      clear hcell hat2 hx hxx
      have hszr : w.heap.size + 1 ≤ wr.heap.size := by have := HS0.out; omega
      have BA := Lib.hid (bel_alloc HB.out (by have := HS0.out; omega) (.cells (lkc x).toArray 53))
      have AA := Lib.hid (AccR.alloc HA.out (.cells (lkc x).toArray 53))
      have QA := Lib.hid (Blk.new wr 53 (lkc x))
      have hszA : w.heap.size + 1 ≤ (wr.alloc (.cells (lkc x).toArray 53)).heap.size := by simp; omega
      unfold lkc at BA AA QA hszA
      go_upto_region 5 with fail
      generalize hw1 : wr.alloc (.cells #[.int .i64 x.f, .int .i64 x.t, .int .u64 x.c, .int .i64 x.m, .int .u32 x.g] 53) = w1 at *
      have BA1 := Lib.hid (show Below (w.heap.size + 1) w0 w1 from BA.out)
      have AA1 := Lib.hid (show AccI w1 (w.heap.size + 1) A cc (gat L node i) from AA.out)
      have QA1 := Lib.hid (show Blk w1 wr.heap.size 53 (lkc x) from QA.out)
      have hszA1 : w.heap.size + 1 ≤ w1.heap.size := hszA
      have c0 : w1.cell? ⟨wr.heap.size, 0, none⟩ = some (.int .i64 x.f) := QA1.out.cell 0
      clear hw1 BA AA QA hszA d0 d1 d2 d3 d4
      by_cases hf : x.f = node
      · have hfb : (x.f == node) = true := by simp [hf]
        have hg := gat_succ L node i
        rw [HXX.out, hfb, if_pos rfl] at hg
        have HG := Lib.hid hg
        obtain ⟨A3, c3, w3, r3, a3, g3⟩ := acci_push AA1.out (i : Int) hszA1 (by omega) 23
        have B3 := Lib.hid (BA1.out.grown g3 (by have := HS0.out; omega) (fun j hj => (AccR.ge AA1.out hj).1))
        rw [← HG.out] at a3
        have A3' := Lib.hid a3
        have R3 := Lib.hid r3
        have L3 : (gat L node i).length + 1 = (gat L node (i + 1)).length := by rw [HG.out]; simp
        have L3' := Lib.hid L3
        clear r3 a3 g3 hg L3 hf
        go_wp2_with (at_builtin; refine step_append rfl rfl rfl rfl R3.out ?_)
        go_roundw
        case rel => exact ⟨i + 1, c3, A3, by omega, rfl, by rw [← L3'.out], A3'.out, B3.out⟩
        case measure => simp [intOf]; omega
      · have hfb : (x.f == node) = false := by simp [hf]
        have hg := gat_succ L node i
        rw [HXX.out, hfb, if_neg (by simp), List.append_nil] at hg
        have HG := Lib.hid hg
        clear hg
        go_wp2_with fail
        go_roundw
        case rel => exact ⟨i + 1, cc, A, by omega, rfl, by rw [HG.out], by rw [HG.out]; exact AA1.out, BA1.out⟩
        case measure => simp [intOf]; omega
    · obtain rfl : i = L.length := by have := HLEN.out; omega
      have hRow : ∀ W, Below (w.heap.size + 1) w0 W → Row lkc W w.heap.size a n L := fun W hW => (HR.out.below K0.out).keep (fun k hk => hW.block k (by omega))
      have hCell : ∀ W, Below (w.heap.size + 1) w0 W → W.cell? ⟨w.heap.size, 0, none⟩ = some (.slice a n c) := fun W hW => (World.cell?_of_block (w := w0) (hW.block w.heap.size (by omega))).trans CP.out
      have hC : Cmp Try.prog (Below (w.heap.size + 1) w0) (fun x => 0 ≤ x ∧ x < (n : Int)) (keyT L) 52 #[.pointer (some ⟨w.heap.size, 0, none⟩)] :=
        ⟨enters_of Try.func52 (by kernel_rfl) rfl, fun W x y hW hx hy => outs1_calls L w.heap.size w.heap.size n c a x y W (hCell W hW) (hRow W hW) hx hy⟩
      have hsort := sortstable_calls hC (w.heap.size + 1) cc A (gat L node L.length)
        (fun W W' hW hg => hW.grown hg (by have := hW.size; have := HS0.out; omega) (fun k hk => (AccR.ge HA.out hk).1)) wr HA.out HB.out
        (fun x hx => by obtain ⟨k, hk, _, rfl⟩ := (gat_mem L node x _).1 hx; have := HLEN.out; omega) (by have := HLEN.out; omega) (gat_rise L node _)
      clear hRow hCell hC
      go_wp2_with fail
      refine hsort.mono ?_
      rintro e w4 ⟨rfl, l', hll, hA4, hO, hM, hG4⟩
      have A4 := Lib.hid hA4
      have O4 := Lib.hid (show OutsOk L node l' from ⟨hO, fun x => (hM x).trans (gat_mem L node x _), hll⟩)
      have B4 := Lib.hid (HB.out.grown hG4 (by have := HS0.out; omega) (fun k hk => (AccR.ge HA.out hk).1))
      rw [← hll]
      clear hll hA4 hO hM hG4 hsort
      go_wp2_with fail
      go_ret
      refine ⟨l', A, cc, rfl, A4.out.lower (by omega), O4.out, ?_⟩
      have b4 := B4.out
      exact ⟨b4.os.trans K0.out.os, b4.tape.trans K0.out.tape, b4.output.trans K0.out.output, by have := b4.size; have := HS0.out; omega, fun k hk => (b4.block k (by omega)).trans (K0.out.block k hk)⟩
end Go.Proofs.Ytkagfgnjfdlicaa
