/-
  Contract of the document's own hops for layer 7. Conditions: at most 16 nodes from 0 to 15.
-/
import Derived.Test.YtocogdcecnnnnaaBodyP
namespace Go.Proofs.Ytocogdcecnnnnaa
open Go.RowKit

/-- Pieces that a call itself gathers. -/
def AccP (w : World) (base : Nat) (A : Option Addr) (c : Nat) (l : List (Nat × Nat)) : Prop := AccR ep 2 w base 85 A c l
theorem infoPiece : (Try.prog.info? 85).map (fun i => (i.zero, i.size, i.bytes)) = some (some (.agg #[.int .i64 0, .int .u64 0]), 2, 16) := by kernel_rfl
/-- A new block of pieces reads as them. -/
theorem row_pieces (w : World) (ps : List (Nat × Nat)) : Row ep (w.alloc (.cells (ps.flatMap ep).toArray 85)) (w.heap.size + 1) (some ⟨w.heap.size, 0, none⟩) ps.length ps := by
  refine ⟨rfl, fun _ => ⟨w.heap.size, 0, rfl, by omega, fun i hi => ?_⟩⟩
  rw [cell_of_row _ _ _ _ _ _ (heap_alloc_new w _)]
  simp

def hopP (n : Int) : List (Nat × Nat) := [(2, 264), (4, 167772160 + u64 n), (2, 8192)]
/-- What hops answers. -/
def HopPPost (w : World) (ps : List (Nat × Nat)) (e : Ending) (w' : World) : Prop :=
  ∃ A c, e = .returned (.slice A ps.length c) ∧ AccP w' w.heap.size A c ps ∧ Below w.heap.size w w'
theorem hopP_len (l : List Int) : (l.flatMap hopP).length = 3 * l.length := by
  induction l with
  | nil => rfl
  | cons x l ih => rw [List.flatMap_cons, List.length_append, ih]; simp [hopP]; omega

set_option maxRecDepth 100000 in
set_option maxHeartbeats 1600000 in
theorem hops7_calls (a : Option Addr) (n c : Nat) (l : List Int) (w : World) (h : Row ei w w.heap.size a n l) (hn : n ≤ 16) (hok : ∀ x ∈ l, 0 ≤ x ∧ x < 16) :
    Calls Try.prog 43 #[.slice a n c] w (HopPPost w (l.flatMap hopP)) := by
  have HR := Lib.hid h
  have HL := Lib.hid h.1
  have HK := Lib.hid hok
  clear h hok
  go_enter Try.func43, Try.ntmps43
  go_wp2
  go_loopw [3, 4] (fun s t W => ∃ (j cc : Nat) (A : Option Addr), j ≤ n ∧ t = .int .i64 (j : Int) ∧ s = .slice A (3 * j) cc ∧ AccP W w.heap.size A cc ((l.take j).flatMap hopP) ∧ Below w.heap.size w W) (fun _ t _ => n - (intOf t).toNat)
  case atStart => exact ⟨0, 0, none, Nat.zero_le _, rfl, rfl, AccR.nil _ _ _, Below.refl _ _⟩
  case round =>
    obtain ⟨j, cc, A, hj, rfl, rfl, hA, hbel⟩ := hrel
    have HA := Lib.hid hA
    have HB := Lib.hid hbel
    clear hA hbel
    by_cases hlt : j < n
    · obtain ⟨b, o, x, rfl, hqi, d0⟩ := row_int (HR.out.below HB.out) hlt
      have hbw : b < w.heap.size := by
        obtain ⟨b', o', e, hb, _⟩ := HR.out.2 (by omega)
        injection e with e
        injection e with e
        subst e
        exact hb
      have hmem : x ∈ l := List.mem_of_getElem? hqi
      obtain ⟨k1, k2⟩ := HK.out _ hmem
      have HT := Lib.hid (show (l.take (j + 1)).flatMap hopP = (l.take j).flatMap hopP ++ hopP x by rw [List.take_add_one, hqi, List.flatMap_append]; simp)
      have hlj : ((l.take j).flatMap hopP).length = 3 * j := by rw [hopP_len, List.length_take, HL.out]; omega
      have HLJ := Lib.hid hlj
      have HC := Lib.hid d0
      have HBW := Lib.hid hbw
      have hnm1 := num7_calls 2 264 264 (by decide)
      have hnm2 := num7_calls 2 8192 8192 (by decide)
      obtain ⟨v, hv⟩ : ∃ v, v = 167772160 + u64 x := ⟨_, rfl⟩
      have had := addr7_calls x v hv
      have HP := Lib.hid (show hopP x = [(2, 264), (4, v), (2, 8192)] by rw [hv]; rfl)
      have HV := Lib.hid hv
      clear hv
      clear hqi hmem d0 hbw hlj
      generalize (l.take j).flatMap hopP = acc at *
      obtain ⟨m, hm⟩ : ∃ m, m = 3 * j := ⟨_, rfl⟩
      have HM := Lib.hid hm
      rw [← hm] at HLJ ⊢
      have hmb : m ≤ 48 := by omega
      clear hm
      go_wp2_with fail
      refine region_seq (fun W => W.cell? ⟨b, o + j, none⟩ = some (.int .i64 x))
        [(0, true), (2, true), (3, true), (4, true), (5, true), (1, false), (6, false), (7, false), (8, false), (9, false), (10, true)]
        (by kernel_rfl) (by kernel_rfl) (by kernel_rfl) (by kernel_rfl) (fun _ _ _ _ _ h => h) HC.out ?_
      repeat
        refine seq_pure (v := ?_) rfl (by rfl) (fun W hW => ?_) ?_
        rotate_left
        · go_simp
          try with_reducible rfl
        simp only [Act.put, List.setIfInBounds_toArray, List.set_cons_zero, List.set_cons_succ]
      have HS : ∀ V, Below wr.heap.size wr V → V.cell? ⟨b, o + j, none⟩ = some (.int .i64 x) := fun V hV => (hV.cell (p := ⟨b, o + j, none⟩) (Nat.lt_of_lt_of_le HBW.out HB.out.size)).trans HC.out
      have HSH := Lib.hid HS
      clear HS
      refine seq_make rfl (by rfl) (fun K hK => ?_)
      go_simp
      ((with_reducible refine (hnm1 _).mono ?_))
      rintro e V1 ⟨rfl, hb⟩
      have B1 := Lib.hid (below_of_drew hb)
      clear hb
      go_simp
      refine hK _ _ (fun W => W.cell? ⟨b, o + j, none⟩ = some (.int .i64 x)) (fun W h => h) (HSH.out _ B1.out) ?_
      clear hK K
      refine seq_make rfl (by rfl) (fun K hK => ?_)
      go_simp
      ((with_reducible refine (had _ k1 k2).mono ?_))
      rintro e V2 ⟨rfl, hb⟩
      have B2 := Lib.hid (bel_more B1.out (Nat.le_refl _) hb)
      clear hb
      go_simp
      refine hK _ _ (fun W => W.cell? ⟨b, o + j, none⟩ = some (.int .i64 x)) (fun W h => h) (HSH.out _ B2.out) ?_
      clear hK K
      refine seq_make rfl (by rfl) (fun K hK => ?_)
      go_simp
      ((with_reducible refine (hnm2 _).mono ?_))
      rintro e V3 ⟨rfl, hb⟩
      have B3 := Lib.hid (bel_more B2.out (Nat.le_refl _) hb)
      clear hb
      go_simp
      refine hK _ _ (fun W => W.cell? ⟨b, o + j, none⟩ = some (.int .i64 x)) (fun W h => h) (HSH.out _ B3.out) ?_
      clear hK K
      refine seq_make rfl (by rfl) (fun K hK => ?_)
      go_simp
      refine hK _ _ (fun W => W.cell? ⟨b, o + j, none⟩ = some (.int .i64 x)) (fun W h => h) (HSH.out _ (bel_new B3.out _)) ?_
      clear hK K
      have hac : AccP (V3.alloc (.cells (([(2, 264), (4, v), (2, 8192)] : List (Nat × Nat)).flatMap ep).toArray 85)) w.heap.size A cc acc := AccR.alloc (AccR.bel HA.out B3.out) _
      have hbl := bel_new (bel_more HB.out (Nat.le_refl _) B3.out) (.cells (([(2, 264), (4, v), (2, 8192)] : List (Nat × Nat)).flatMap ep).toArray 85)
      obtain ⟨A3, c3, w3, r3, a3, g3, _⟩ := accr_append (P := Try.prog) ep_length ep_one (by omega) hac (cc := 3) (row_pieces V3 [(2, 264), (4, v), (2, 8192)]) (ty := 88) Try.underlying88 infoPiece rfl hbl.size (by rw [HLJ.out]; simp; omega) (by rw [HLJ.out]; simp; omega)
      rw [HLJ.out] at r3
      have R3 := Lib.hid (show (Builtin.append_ #[88, 88] 88 #[.slice A m cc, .slice (some ⟨V3.heap.size, 0, none⟩) 3 3]).run Try.prog (V3.alloc (.cells #[.int .i64 2, .int .u64 264, .int .i64 4, .int .u64 (v : Int), .int .i64 2, .int .u64 8192] 85)) = .ok (.slice A3 (m + 3) c3) w3 from r3)
      have A3' := Lib.hid a3
      have B4 := Lib.hid (hbl.grown g3 hbl.size (fun k hk => (AccR.ge hac hk).1))
      have hc3 := Lib.hid (show w3.cell? ⟨b, o + j, none⟩ = some (.int .i64 x) from
        (World.cell?_of_block (w := V3.alloc (.cells (([(2, 264), (4, v), (2, 8192)] : List (Nat × Nat)).flatMap ep).toArray 85)) (g3.block b (by have := hbl.size; have := HBW.out; omega) (fun e => by have := (AccR.ge hac e.symm).1; have := HBW.out; omega))).trans (HSH.out _ (bel_new B3.out _)))
      clear hac hbl r3 a3 g3
      refine seq_make rfl (by rfl) (fun K hK => ?_)
      refine op_append rfl rfl rfl R3.out ?_
      simp only [Act.put, List.setIfInBounds_toArray, List.set_cons_zero, List.set_cons_succ]
      refine hK _ _ (fun W => W.cell? ⟨b, o + j, none⟩ = some (.int .i64 x)) (fun W h => h) hc3.out ?_
      clear hK K
      refine seq_pure (v := ?_) rfl (by rfl) (fun W hW => ?_) ?_
      rotate_left
      · go_simp
        try with_reducible rfl
      simp only [Act.put, List.setIfInBounds_toArray, List.set_cons_zero, List.set_cons_succ]
      refine seq_done ?_
      go_wp2
      exact ⟨⟨j + 1, c3, A3, by omega, by go_num, by rw [HM.out]; rfl, by rw [HT.out, HP.out]; exact A3'.out, B4.out⟩, by simp [intOf]; omega⟩
    · have hjn : j = n := by omega
      subst hjn
      have e1 : l.take j = l := List.take_of_length_le (by rw [HL.out]; exact Nat.le_refl _)
      rw [e1] at HA
      have HN := Lib.hid (show (l.flatMap hopP).length = 3 * j by rw [hopP_len, HL.out])
      go_wp2
      go_ret
      exact ⟨A, cc, by rw [HN.out]; rfl, HA.out, HB.out⟩
end Go.Proofs.Ytocogdcecnnnnaa
