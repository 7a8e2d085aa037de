/-
  Contracts of package graph: Near. Condition: at most 2^30 links.
-/
import Derived.Test.YtpgbfjeejkeibaaGraphA
import Derived.Test.YtpgbfjeejkeibaaGraphE
namespace Go.Proofs.Ytpgbfjeejkeibaa
open Go.RowKit

/-- What a link adds to the nodes near one. -/
def nrx (node : Int) (x : Lk) : List Int := (if x.f = node then [x.t] else []) ++ (if x.t = node then [x.f] else [])
def nr (L : List Lk) (node : Int) (i : Nat) : List Int := (L.take i).flatMap (nrx node)
theorem nr_succ (L : List Lk) (node : Int) (i : Nat) (hi : i < L.length) : nr L node (i + 1) = nr L node i ++ nrx node L[i] := by
  unfold nr; rw [List.take_succ_eq_append_getElem hi, List.flatMap_append]; simp
theorem nr_len (L : List Lk) (node : Int) : ∀ i, (nr L node i).length ≤ 2 * i
  | 0 => by simp [nr]
  | i + 1 => by
    have h := nr_len L node i
    rcases Nat.lt_or_ge i L.length with hi | hi
    · rw [nr_succ L node i hi, List.length_append]
      have : (nrx node L[i]).length ≤ 2 := by unfold nrx; split <;> split <;> simp
      omega
    · have : nr L node (i + 1) = nr L node i := by unfold nr; rw [List.take_of_length_le (by omega), List.take_of_length_le hi]
      rw [this]; omega
/-- The nodes that are near one, rising. -/
structure NearOk (L : List Lk) (node : Int) (o : List Int) : Prop where
  order : o.Pairwise (· < ·)
  mem : ∀ x, x ∈ o ↔ ∃ y ∈ L, (y.f = node ∧ y.t = x) ∨ (y.t = node ∧ y.f = x)
theorem nr_mem (L : List Lk) (node x : Int) : x ∈ nr L node L.length ↔ ∃ y ∈ L, (y.f = node ∧ y.t = x) ∨ (y.t = node ∧ y.f = x) := by
  unfold nr
  rw [List.take_length, List.mem_flatMap]
  constructor
  · rintro ⟨y, hy, hx⟩
    refine ⟨y, hy, ?_⟩
    unfold nrx at hx
    rcases List.mem_append.1 hx with hx | hx
    · split at hx
      · simp at hx; exact .inl ⟨by assumption, hx.symm⟩
      · cases hx
    · split at hx
      · simp at hx; exact .inr ⟨by assumption, hx.symm⟩
      · cases hx
  · rintro ⟨y, hy, h⟩
    refine ⟨y, hy, ?_⟩
    unfold nrx
    rcases h with ⟨h1, h2⟩ | ⟨h1, h2⟩
    · exact List.mem_append_left _ (by simp [h1, h2])
    · exact List.mem_append_right _ (by simp [h1, h2])
def NearPost (w : World) (L : List Lk) (node : Int) (e : Ending) (w' : World) : Prop :=
  ∃ (o : List Int) (A : Option Addr) (c : Nat), e = .returned (.slice A o.length c) ∧ AccI w' w.heap.size A c o ∧ NearOk L node o ∧ Below w.heap.size w w'

set_option maxHeartbeats 1600000 in
theorem near_calls (node : Int) (a : Option Addr) (n c : Nat) (L : List Lk) (w : World) (h : Row lkc w w.heap.size a n L) (hn : n ≤ 1073741824) :
    Calls Try.prog 17 #[.slice a n c, .int .i64 node] w (NearPost w L node) := by
  have HLEN := Lib.hid h.1
  have HR := Lib.hid h
  clear h
  go_enter Try.func17, Try.ntmps17
  go_wp2_with fail
  go_loopw [5, 10] (fun s t wr => ∃ (i cc : Nat) (A : Option Addr), i ≤ n ∧ t = .int .i64 (i : Int) ∧ s = .slice A (nr L node i).length cc ∧ AccI wr w.heap.size A cc (nr L node i) ∧ Below w.heap.size w wr) (fun s t wr => n - (intOf t).toNat)
  case atStart => exact ⟨0, 0, none, Nat.zero_le _, rfl, rfl, AccR.nil _ _ _, Below.refl _ _⟩
  case round =>
    obtain ⟨i, cc, A, hi, rfl, rfl, hA, hB⟩ := hrel
    have HA := Lib.hid hA
    have HB := Lib.hid hB
    have hsz := hB.size
    have hgl := nr_len L node i
    clear hA hB
    by_cases hlt : i < n
    · have HR2 := Lib.hid (HR.out.below HB.out)
      obtain ⟨b, o, rfl, hbw, hcell⟩ := row_link HR2.out (by omega)
      have hil : i < L.length := by have := HLEN.out; omega
      have hat2 := hcell i hil
      have hns := nr_succ L node i hil
      generalize hxx : L[i] = x at *
      have HXX := Lib.hid hxx
      obtain ⟨d0, d1, d2, d3, d4⟩ := link_cells hat2
      clear hcell hat2 hxx
      have BA := Lib.hid (bel_alloc HB.out (Nat.le_refl _) (.cells (lkc x).toArray 50))
      have AA := Lib.hid (AccR.alloc HA.out (.cells (lkc x).toArray 50))
      have QA := Lib.hid (Blk.new wr 50 (lkc x))
      have hszA : w.heap.size ≤ (wr.alloc (.cells (lkc x).toArray 50)).heap.size := by simp; omega
      have HBK := Lib.hid (fun (k : Nat) (hk : blk A = some k) => (AccR.ge HA.out hk).2)
      have HNS := Lib.hid hns
      clear hns
      unfold lkc at BA AA QA hszA
      go_upto_region 5 with fail
      generalize hw1 : wr.alloc (.cells #[.int .i64 x.f, .int .i64 x.t, .int .u64 x.c, .int .i64 x.m, .int .u32 x.g] 50) = w1 at *
      have BA1 := Lib.hid (show Below w.heap.size w w1 from BA.out)
      have AA1 := Lib.hid (show AccI w1 w.heap.size A cc (nr L node i) from AA.out)
      have QA1 := Lib.hid (show Blk w1 wr.heap.size 50 (lkc x) from QA.out)
      have c0 : w1.cell? ⟨wr.heap.size, 0, none⟩ = some (.int .i64 x.f) := QA1.out.cell 0
      have c1 : w1.cell? ⟨wr.heap.size, 1, none⟩ = some (.int .i64 x.t) := QA1.out.cell 1
      clear hw1 BA AA QA d0 d1 d2 d3 d4
      by_cases hf : x.f = node
      · have hfb : (x.f == node) = true := by simp [hf]
        obtain ⟨A3, c3, w3, r3, a3, g3⟩ := acci_push AA1.out x.t hszA (by omega) 30
        have B3 := Lib.hid (BA1.out.grown g3 hszA (fun j hj => (AccR.ge AA1.out hj).1))
        have Q3 : Blk w3 wr.heap.size 50 (lkc x) := QA1.out.same (g3.block _ QA1.out.lt (fun e => by have := HBK.out _ e.symm; omega))
        have e0 : w3.cell? ⟨wr.heap.size, 0, none⟩ = some (.int .i64 x.f) := Q3.cell 0
        have e1 : w3.cell? ⟨wr.heap.size, 1, none⟩ = some (.int .i64 x.t) := Q3.cell 1
        have A3' := Lib.hid a3
        have R3 := Lib.hid r3
        have hs3 : w.heap.size ≤ w3.heap.size := Nat.le_trans hszA g3.size
        clear r3 a3 g3 Q3
        by_cases ht : x.t = node
        · have htb : (x.t == node) = true := by simp [ht]
          obtain ⟨A4, c4, w4, r4, a4, g4⟩ := acci_push A3'.out x.f hs3 (by simp; omega) 30
          have B4 := Lib.hid (B3.out.grown g4 hs3 (fun j hj => (AccR.ge A3'.out hj).1))
          have hg : nr L node (i + 1) = nr L node i ++ [x.t] ++ [x.f] := by rw [HNS.out]; unfold nrx; rw [if_pos hf, if_pos ht, List.append_assoc]
          rw [← hg] at a4
          have A4' := Lib.hid a4
          have hl2 : (nr L node i ++ [x.t]).length = (nr L node i).length + 1 := by simp
          rw [hl2] at r4
          have R4 := Lib.hid r4
          have L4 := Lib.hid (show (nr L node i).length + 1 + 1 = (nr L node (i + 1)).length by rw [hg]; simp)
          clear r4 a4 g4 hg hl2 hf ht
          go_wp2_with (at_builtin; first | refine step_append rfl rfl rfl rfl R3.out ?_ | refine step_append rfl rfl rfl rfl R4.out ?_)
          go_roundw
          case rel => exact ⟨i + 1, c4, A4, by omega, rfl, by rw [← L4.out], A4'.out, B4.out⟩
          case measure => simp [intOf]; omega
        · have htb : (x.t == node) = false := by simp [ht]
          have hg : nr L node (i + 1) = nr L node i ++ [x.t] := by rw [HNS.out]; unfold nrx; rw [if_pos hf, if_neg ht, List.append_nil]
          have HG := Lib.hid hg
          have L4 := Lib.hid (show (nr L node i).length + 1 = (nr L node (i + 1)).length by rw [hg]; simp)
          clear hg hf ht
          go_wp2_with (at_builtin; refine step_append rfl rfl rfl rfl R3.out ?_)
          go_roundw
          case rel => exact ⟨i + 1, c3, A3, by omega, rfl, by rw [← L4.out], by rw [HG.out]; exact A3'.out, B3.out⟩
          case measure => simp [intOf]; omega
      · have hfb : (x.f == node) = false := by simp [hf]
        by_cases ht : x.t = node
        · have htb : (x.t == node) = true := by simp [ht]
          obtain ⟨A4, c4, w4, r4, a4, g4⟩ := acci_push AA1.out x.f hszA (by omega) 30
          have B4 := Lib.hid (BA1.out.grown g4 hszA (fun j hj => (AccR.ge AA1.out hj).1))
          have hg : nr L node (i + 1) = nr L node i ++ [x.f] := by rw [HNS.out]; unfold nrx; rw [if_neg hf, if_pos ht, List.nil_append]
          rw [← hg] at a4
          have A4' := Lib.hid a4
          have R4 := Lib.hid r4
          have L4 := Lib.hid (show (nr L node i).length + 1 = (nr L node (i + 1)).length by rw [hg]; simp)
          clear r4 a4 g4 hg hf ht
          go_wp2_with (at_builtin; refine step_append rfl rfl rfl rfl R4.out ?_)
          go_roundw
          case rel => exact ⟨i + 1, c4, A4, by omega, rfl, by rw [← L4.out], A4'.out, B4.out⟩
          case measure => simp [intOf]; omega
        · have htb : (x.t == node) = false := by simp [ht]
          have hg : nr L node (i + 1) = nr L node i := by rw [HNS.out]; unfold nrx; rw [if_neg hf, if_neg ht, List.nil_append, List.append_nil]
          have HG := Lib.hid hg
          clear hg hf ht
          go_wp2_with fail
          go_roundw
          case rel => exact ⟨i + 1, cc, A, by omega, rfl, by rw [HG.out], by rw [HG.out]; exact AA1.out, BA1.out⟩
          case measure => simp [intOf]; omega
    · obtain rfl : i = L.length := by have := HLEN.out; omega
      go_wp2_with fail
      refine (sorti_calls w.heap.size cc A _ wr HA.out (by omega)).mono ?_
      rintro e w3 ⟨rfl, o, hol, a3, hO, hM, g3⟩
      have A3 := Lib.hid a3
      have O3 := Lib.hid (And.intro hO hM)
      have B3 := Lib.hid (HB.out.grown g3 hsz (fun k hk => (AccR.ge HA.out hk).1))
      rw [← hol] at hgl ⊢
      have hs3 := Nat.le_trans hsz g3.size
      clear a3 hO hM g3 hol
      go_wp2_with fail
      refine (compact_calls w.heap.size cc A o w3 A3.out (by omega) O3.out.1).mono ?_
      rintro e w4 ⟨o2, c2, rfl, a4, hO4, hM4, g4⟩
      have A4 := Lib.hid a4
      have N4 := Lib.hid (show NearOk L node o2 from ⟨hO4, fun x => ((hM4 x).trans (O3.out.2 x)).trans (nr_mem L node x)⟩)
      have B4 := Lib.hid (B3.out.grown g4 hs3 (fun k hk => (AccR.ge A3.out hk).1))
      clear a4 hO4 hM4 g4
      go_wp2_with fail
      go_ret
      exact ⟨o2, A, c2, rfl, A4.out, N4.out, B4.out⟩
end Go.Proofs.Ytpgbfjeejkeibaa
