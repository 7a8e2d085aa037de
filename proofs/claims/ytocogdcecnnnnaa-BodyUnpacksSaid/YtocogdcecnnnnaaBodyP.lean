/-
  Contracts of the document's own pieces for layer 7: num, addr, laid, hops. Conditions: pieces of at most eight bytes, at most 100 of them; nodes from 0 to 15.
-/
import Derived.Test.YtocogdcecnnnnaaBodyL
import Derived.Test.YtocogdcecnnnnaaRefA
namespace Go.Proofs.Ytocogdcecnnnnaa
open Go.RowKit

/-- A piece: a number of some bytes. -/
def ep (q : Nat × Nat) : List Value := [.int .i64 (q.1 : Int), .int .u64 (q.2 : Int)]
theorem ep_length (q : Nat × Nat) : (ep q).length = 2 := rfl
theorem ep_one (q : Nat × Nat) : ∀ u ∈ ep q, u.oneCell' = true := by
  intro u hu
  simp [ep] at hu
  rcases hu with rfl | rfl <;> rfl
def pcL (ps : List (Nat × Nat)) : List UInt8 := ps.flatMap fun q => dig q.1 q.2
theorem pcL_append (a b : List (Nat × Nat)) : pcL (a ++ b) = pcL a ++ pcL b := by simp [pcL]
theorem pcL_len : ∀ (ps : List (Nat × Nat)), (∀ q ∈ ps, q.1 ≤ 8 ∧ q.2 < 18446744073709551616) → (pcL ps).length ≤ 8 * ps.length
  | [], _ => by simp [pcL]
  | q :: ps, h => by
    have h1 := pcL_len ps (fun x hx => h x (List.mem_cons_of_mem _ hx))
    have h2 := (h q (List.mem_cons_self ..)).1
    have e : pcL (q :: ps) = dig q.1 q.2 ++ pcL ps := by simp [pcL]
    rw [e, List.length_append, dig_length, List.length_cons]
    omega

theorem num7_calls (n : Int) (u : Int) (v : Nat) (hv : v = u64 u) (w : World) :
    Calls Try.prog 42 #[.int .i64 n, .int .i64 u] w fun e w' => e = .returned (.agg #[.int .i64 n, .int .u64 (v : Int)]) ∧ Below w.heap.size w w' := by
  have q1 : IntKind.u64.wrap u = (v : Int) := by rw [u64_wrap, hv]
  clear hv
  go_enter Try.func42, Try.ntmps42
  go_wp2
  refine bodyPost_ret (v := .agg #[.int .i64 n, .int .u64 (v : Int)]) (by simp [results, Try.results42, go_sem]) rfl ?_
  exact ⟨rfl, bel_new (Below.refl _ _) _⟩

theorem addr7_calls (n : Int) (v : Nat) (hv : v = 167772160 + u64 n) (w : World) (h0 : 0 ≤ n) (h1 : n < 16) :
    Calls Try.prog 41 #[.int .i64 n] w fun e w' => e = .returned (.agg #[.int .i64 4, .int .u64 (v : Int)]) ∧ Below w.heap.size w w' := by
  have q1 : IntKind.u64.wrap n = n := by rw [u64_wrap]; unfold u64; omega
  have q2 : IntKind.u64.wrap (167772160 + n) = (v : Int) := by rw [IntKind.wrap_u64, hv]; unfold u64; omega
  clear hv
  go_enter Try.func41, Try.ntmps41
  go_wp2
  refine bodyPost_ret (v := .agg #[.int .i64 4, .int .u64 (v : Int)]) (by simp [results, Try.results41, go_sem]) rfl ?_
  exact ⟨rfl, bel_new (Below.refl _ _) _⟩

/-- What laid answers: bytes in memory of the call's own. -/
def LaidPost (w : World) (l : List UInt8) (e : Ending) (w' : World) : Prop :=
  ∃ A c, e = .returned (.slice A l.length c) ∧ Acc w' w.heap.size A c l ∧ Below w.heap.size w w'

theorem row_two {w : World} {B n : Nat} {a : Option Addr} {l : List (Nat × Nat)} (h : Row ep w B a n l) {i : Nat} (hi : i < n) : ∃ b o p q, a = some ⟨b, o, none⟩ ∧ b < B ∧ l[i]? = some (p, q) ∧ w.cell? ⟨b, o + i * 2, none⟩ = some (.int .i64 (p : Int)) ∧ w.cell? ⟨b, o + i * 2 + 1, none⟩ = some (.int .u64 (q : Int)) := by
  obtain ⟨b, o, e, hb, hc⟩ := h.cells ep_length (by omega)
  have hi' : i < l.length := by rw [h.1]; exact hi
  exact ⟨b, o, l[i].1, l[i].2, e, hb, by simp [hi'], hc i hi' 0 (by omega), hc i hi' 1 (by omega)⟩

set_option maxRecDepth 100000 in
set_option maxHeartbeats 1600000 in
theorem laid_calls (a : Option Addr) (n c : Nat) (ps : List (Nat × Nat)) (w : World) (h : Row ep w w.heap.size a n ps) (hn : n ≤ 100) (hok : ∀ q ∈ ps, q.1 ≤ 8 ∧ q.2 < 18446744073709551616) :
    Calls Try.prog 40 #[.slice a n c] w (LaidPost w (pcL ps)) := by
  have HR := Lib.hid h
  have HL := Lib.hid h.1
  have HK := Lib.hid hok
  clear h hok
  go_enter Try.func40, Try.ntmps40
  go_wp2
  go_loopw [3, 4] (fun s t W => ∃ (j cc : Nat) (A : Option Addr), j ≤ n ∧ t = .int .i64 (j : Int) ∧ s = .slice A (pcL (ps.take j)).length cc ∧ Acc W w.heap.size A cc (pcL (ps.take j)) ∧ Below w.heap.size w W) (fun _ t _ => n - (intOf t).toNat)
  case atStart => exact ⟨0, 0, none, Nat.zero_le _, rfl, rfl, Acc.nil _ _, Below.refl _ _⟩
  case round =>
    obtain ⟨j, cc, A, hj, rfl, rfl, hA, hbel⟩ := hrel
    have HA := Lib.hid hA
    have HB := Lib.hid hbel
    clear hA hbel
    by_cases hlt : j < n
    · obtain ⟨b, o, p, q, rfl, hb, hqi, d0, d1⟩ := row_two (HR.out.below HB.out) hlt
      have hmem : (p, q) ∈ ps := List.mem_of_getElem? hqi
      obtain ⟨k1, k2⟩ := HK.out _ hmem
      simp only at k1 k2
      have HT := Lib.hid (show pcL (ps.take (j + 1)) = pcL (ps.take j) ++ dig p q by rw [List.take_add_one, hqi, pcL_append]; simp [pcL])
      have HLen := Lib.hid (show (pcL (ps.take j)).length ≤ 800 by
        have h1 := pcL_len (ps.take j) (fun x hx => HK.out x (List.mem_of_mem_take hx))
        have h2 : (ps.take j).length ≤ 100 := by rw [List.length_take]; omega
        omega)
      have HC := Lib.hid (And.intro d0 d1)
      have hdg := digits_calls p q
      have HBL := Lib.hid hb
      clear hqi hmem d0 d1 hb
      generalize pcL (ps.take j) = acc at *
      go_wp2_with fail
      refine region_seq (fun W => W.cell? ⟨b, o + j * 2, none⟩ = some (.int .i64 (p : Int)) ∧ W.cell? ⟨b, o + j * 2 + 1, none⟩ = some (.int .u64 (q : Int)))
        [(0, true), (1, true), (2, true), (3, true), (4, true), (5, true), (6, true), (7, true), (8, true), (9, true), (10, true), (11, false), (12, false), (13, true)]
        (by kernel_rfl) (by kernel_rfl) (by kernel_rfl) (by kernel_rfl) (fun _ _ _ _ _ h => h) HC.out ?_
      repeat
        refine seq_pure (v := ?_) rfl (by rfl) (fun W hW => ?_) ?_
        rotate_left
        · obtain ⟨d0, d1⟩ := hW
          go_simp
          try with_reducible rfl
        simp only [Act.put, List.setIfInBounds_toArray, List.set_cons_zero, List.set_cons_succ]
      refine seq_make rfl (by rfl) (fun K hK => ?_)
      go_simp
      ((with_reducible refine (hdg _ k1 k2).mono ?_))
      rintro e w2 ⟨A2, c2, rfl, ha2, hb2⟩
      have hb2' := below_of_drew hb2
      have hbel2 := bel_more HB.out (Nat.le_refl _) hb2'
      have hacc2 := HA.out.bel hb2'
      have hsz := hb2'.size
      obtain ⟨A3, c3, w3, r3, a3, g3, _⟩ := acc_append hacc2 (cc := c2) ha2.bts hbel2.size (by rw [dig_length]; have := HLen.out; omega) 30
      rw [dig_length] at r3
      have hbel3 := hbel2.grown g3 hbel2.size (fun k hk => (hacc2.ge hk).1)
      have R3 := Lib.hid r3
      have A3' := Lib.hid a3
      have B3 := Lib.hid hbel3
      have hbw : b < w.heap.size := HBL.out
      have hc2 := Lib.hid (show w2.cell? ⟨b, o + j * 2, none⟩ = some (.int .i64 (p : Int)) ∧ w2.cell? ⟨b, o + j * 2 + 1, none⟩ = some (.int .u64 (q : Int)) from
        ⟨(hb2'.cell (p := ⟨b, o + j * 2, none⟩) (Nat.lt_of_lt_of_le hbw HB.out.size)).trans HC.out.1, (hb2'.cell (p := ⟨b, o + j * 2 + 1, none⟩) (Nat.lt_of_lt_of_le hbw HB.out.size)).trans HC.out.2⟩)
      have hc3 := Lib.hid (show w3.cell? ⟨b, o + j * 2, none⟩ = some (.int .i64 (p : Int)) ∧ w3.cell? ⟨b, o + j * 2 + 1, none⟩ = some (.int .u64 (q : Int)) from by
        have e : ∀ k, w3.cell? ⟨b, k, none⟩ = w2.cell? ⟨b, k, none⟩ := fun k => World.cell?_of_block (w := w2) (g3.block b (by have := HB.out.size; omega) (fun e => by have := (hacc2.ge e.symm).1; omega))
        rw [e, e]; exact hc2.out)
      clear r3 a3 hbel3 g3 hacc2 hbel2 hb2' hb2 ha2
      go_simp
      refine hK _ _ (fun W => W.cell? ⟨b, o + j * 2, none⟩ = some (.int .i64 (p : Int)) ∧ W.cell? ⟨b, o + j * 2 + 1, none⟩ = some (.int .u64 (q : Int))) (fun W h => h) hc2.out ?_
      clear hK K
      refine seq_make rfl (by rfl) (fun K hK => ?_)
      refine op_append rfl rfl rfl R3.out ?_
      simp only [Act.put, List.setIfInBounds_toArray, List.set_cons_zero, List.set_cons_succ]
      refine hK _ _ (fun W => W.cell? ⟨b, o + j * 2, none⟩ = some (.int .i64 (p : Int)) ∧ W.cell? ⟨b, o + j * 2 + 1, none⟩ = some (.int .u64 (q : Int))) (fun W h => h) hc3.out ?_
      clear hK K
      refine seq_pure (v := ?_) rfl (by rfl) (fun W hW => ?_) ?_
      rotate_left
      · go_simp
        try with_reducible rfl
      simp only [Act.put, List.setIfInBounds_toArray, List.set_cons_zero, List.set_cons_succ]
      refine seq_done ?_
      go_wp2
      exact ⟨⟨j + 1, c3, A3, by omega, by go_num, by rw [HT.out, List.length_append, dig_length], by rw [HT.out]; exact A3'.out, B3.out⟩, by simp [intOf]; omega⟩
    · have hjn : j = n := by omega
      subst hjn
      have e1 : ps.take j = ps := List.take_of_length_le (by rw [HL.out]; exact Nat.le_refl _)
      rw [e1] at HA ⊢
      have HLen := Lib.hid (show (pcL ps).length ≤ 800 by have h1 := pcL_len ps HK.out; rw [HL.out] at h1; omega)
      go_wp2
      go_ret
      exact ⟨A, cc, rfl, HA.out, HB.out⟩
end Go.Proofs.Ytocogdcecnnnnaa
