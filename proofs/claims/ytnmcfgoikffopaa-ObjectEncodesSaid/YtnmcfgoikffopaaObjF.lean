/-
  Contract of the document's own Decode for layer 6. Condition: the bytes that come in read as a list.
-/
import Derived.Test.YtnmcfgoikffopaaObjA
import Derived.Test.YtnmcfgoikffopaaSeq
namespace Go.Proofs.Ytnmcfgoikffopaa
open Go.RowKit

theorem Try.infoObj6 : (Try.prog.info? 45).map (fun i => (i.zero, i.size, i.bytes)) = some (some (.agg #[.int .i64 0, .int .i64 0, .slice none 0 0]), 3, 40) := by kernel_rfl

/-- Objects of the document's own answers that a call itself gathers. -/
def AccRO (w : World) (base : Nat) (A : Option Addr) (c : Nat) (qs : List Ob) : Prop := AccR eo 3 w base 45 A c qs
theorem accro_push {w : World} {base c : Nat} {A : Option Addr} {qs : List Ob} (h : AccRO w base A c qs) (q : Ob) (hbase : base ≤ w.heap.size) (hlen : qs.length ≤ 1099511627776) (ty : TypeId) :
    ∃ A' c' w', (Builtin.append_ #[22, 22] ty #[.slice A qs.length c, .slice (some ⟨w.heap.size, 0, none⟩) 1 1]).run Try.prog (w.alloc (.cells (eo q).toArray 45)) = .ok (.slice A' (qs.length + 1) c') w' ∧
      AccRO w' base A' c' (qs ++ [q]) ∧ w.grownBy w' (blk A) :=
  accr_push eo_length eo_one (by omega) h q Try.underlying22 Try.infoObj6 rfl hbase (by omega) (by omega)

/-- What the document's Decode answers. -/
def RefDecPost (w : World) (b : List UInt8) (e : Ending) (w' : World) : Prop :=
  ∃ A c qs, e = .returned (.tuple #[.slice A qs.length c, .int .i64 (oDec b).2]) ∧ vals qs = (oDec b).1 ∧ Objs w' w'.heap.size A qs.length qs ∧ Below w.heap.size w w'
theorem refDecPost_no {w w' : World} {b : List UInt8} {e : Ending} {err : Int} (h : oDec b = ([], err)) (he : e = .returned (.tuple #[.slice none 0 0, .int .i64 err])) (hb : Below w.heap.size w w') : RefDecPost w b e w' :=
  ⟨none, 0, [], by rw [h, he]; rfl, by rw [h]; rfl, Objs.nil, hb⟩
theorem Bods.snoc {w : World} {B : Nat} {qs : List Ob} (h : Bods w B qs) {q : Ob} (h1 : Bts w B q.a q.n q.l) (h2 : q.n ≤ maxLen) : Bods w B (qs ++ [q]) := by
  intro p hp
  rcases List.mem_append.1 hp with hp | hp
  · exact h p hp
  · obtain rfl := List.mem_singleton.1 hp
    exact ⟨h1, h2⟩
theorem Bods.nil {w : World} {B : Nat} : Bods w B [] := fun q hq => by cases hq

theorem number_two (a : Option Addr) (c : Nat) (l : List UInt8) (w : World) (B : Nat) (h : Bts w B a 2 l) :
    Calls Try.prog 24 #[.slice a 2 c] w fun e w' => e = .returned (.int .u64 ((num l : Nat) : Int)) ∧ w = w' := number_calls a 2 c l w B h (by omega)

theorem refdecode6_big (a : Option Addr) (n c : Nat) (b : List UInt8) (w : World) (hl : b.length = n) (hn : 4096 < n) (hm : n ≤ maxLen) :
    Calls Try.prog 14 #[.slice a n c] w (RefDecPost w b) := by
  unfold maxLen at hm
  have HL := Lib.hid hl
  clear hl
  go_enter Try.func14, Try.ntmps14
  go_wp2
  go_ret2
  exact refDecPost_no (oDec_big (by rw [HL.out]; exact hn)) rfl (Below.refl _ _)

set_option maxHeartbeats 2000000 in
theorem refdecode6_ok (a : Option Addr) (n c : Nat) (b : List UInt8) (w : World) (h : Bts w w.heap.size a n b) (hn : n ≤ 4096) (hnc : n ≤ c) (hcm : c ≤ maxLen) :
    Calls Try.prog 14 #[.slice a n c] w (RefDecPost w b) := by
  unfold maxLen at hcm
  have HL := Lib.hid h.1
  have HB := Lib.hid h
  have hbl : b.length ≤ 4096 := by rw [HL.out]; exact hn
  have HD := Lib.hid (oDec_ok hbl)
  clear h hbl
  go_enter Try.func14, Try.ntmps14
  go_wp2
  go_loopw [4, 5] (fun s t W => ∃ (cc m p : Nat) (A : Option Addr) (qs : List Ob), s = .slice A m cc ∧ t = .int .i64 (p : Int) ∧ p ≤ n ∧ m ≤ 32 ∧ Hid (qs.length = m) ∧ AccRO W w.heap.size A cc qs ∧ Bods W w.heap.size qs ∧ Hid (odec 32 b = cont (vals qs) (odec (32 - m) (b.drop p))) ∧ Below w.heap.size w W) (fun s _ _ => 32 - lenOf s)
  case atStart => exact ⟨0, 0, 0, none, [], rfl, rfl, Nat.zero_le _, Nat.zero_le _, by exact rfl, AccR.nil _ _ _, Bods.nil, (cont_nil _ (odec_err _ _)).symm, Below.refl _ _⟩
  case round =>
    obtain ⟨cc, m, p, A, qs, rfl, rfl, hp, hm, HQL, hA, hBo, HO, hbel⟩ := hrel
    have HA := Lib.hid hA
    have HBo := Lib.hid hBo
    have HBel := Lib.hid hbel
    clear hA hBo hbel
    by_cases hend : p = n
    · subst hend
      have hfin : oDec b = (vals qs, 0) := by
        have e : b.drop p = [] := List.drop_eq_nil_of_le (by rw [HL.out]; exact Nat.le_refl _)
        rw [HD.out, HO.out, e, odec_none]; unfold cont; rw [if_pos rfl, List.append_nil]
      have HF := Lib.hid hfin
      clear hfin
      go_wp2
      go_ret2
      have hrow := AccR.row HA.out
      exact ⟨A, cc, qs, by rw [HF.out, HQL.out]; rfl, by rw [HF.out], ⟨hrow, HBo.out.more HBel.out.size⟩, HBel.out⟩
    · have hlt : p < n := by omega
      have hd0 : 0 < (b.drop p).length := by rw [List.length_drop, HL.out]; omega
      by_cases hfull : m = 32
      · subst hfull
        have hfin : oDec b = ([], 3) := by
          rw [HD.out, HO.out, Nat.sub_self, odec_full hd0, cont_no _ (by omega)]
        have HF := Lib.hid hfin
        clear hfin
        go_wp2
        go_ret2
        exact refDecPost_no HF.out rfl HBel.out
      · have hm32 : ((m : Int) == 32) = false := by rw [beq_eq_false_iff_ne]; omega
        have hk : 32 - m = (32 - (m + 1)) + 1 := by omega
        have hO := HO.out
        rw [hk] at hO
        have hno : ∀ E, oBad (b.drop p) = E → E ≠ 0 → oDec b = ([], E) := by
          intro E h1 h2
          rw [HD.out, hO, odec_bad _ hd0 (by rw [h1]; exact h2), h1, cont_no _ h2]
        have hdl : (b.drop p).length = n - p := by rw [List.length_drop, HL.out]
        by_cases h4 : n < p + 4
        · have HF := Lib.hid (hno 4 (oBad_short (by omega)) (by omega))
          clear hno hO hdl hd0
          go_wp2
          go_ret2
          exact refDecPost_no HF.out rfl HBel.out
        · obtain ⟨b0, o, rfl, hb0, _⟩ := HB.out.2 (by omega)
          have hq : Bts wr w.heap.size (some ⟨b0, o + p, none⟩) 2 ((b.drop p).take 2) :=
            ((HB.out.below HBel.out).rest p (by omega)).front 2 (by omega)
          have HQ := Lib.hid hq
          have HW := Lib.hid (show num ((b.drop p).take 2) = oNum (b.drop p) from rfl)
          have hN := oNum_lt (b.drop p)
          clear hq
          go_wp2_with fail
          ((with_reducible refine (number_two _ _ _ _ _ HQ.out).mono ?_))
          rintro e w2 ⟨rfl, rfl⟩
          rw [HW.out]
          by_cases hf : oNum (b.drop p) < 4 ∨ oNum (b.drop p) % 4 ≠ 0
          · have HF := Lib.hid (hno 5 (oBad_form (by omega) hf) (by omega))
            clear hno hO hdl hd0
            generalize oNum (b.drop p) = M at *
            by_cases hM4 : M < 4
            · clear hf
              go_wp2
              go_ret2
              exact refDecPost_no HF.out rfl HBel.out
            · have q1 : ((M : Int) % 4 != 0) = true := by rw [bne_iff_ne]; omega
              clear hf
              go_wp2
              go_ret2
              exact refDecPost_no HF.out rfl HBel.out
          · have hM4 : 4 ≤ oNum (b.drop p) := by omega
            have hMm : oNum (b.drop p) % 4 = 0 := by omega
            have q1 : ((oNum (b.drop p) : Int) % 4 != 0) = false := by rw [bne_eq_false_iff_eq]; omega
            clear hf
            by_cases he : n < p + oNum (b.drop p)
            · have HF := Lib.hid (hno 4 (oBad_end (by omega) hM4 hMm (by omega)) (by omega))
              clear hno hO hdl hd0
              generalize oNum (b.drop p) = M at *
              go_wp2
              go_ret2
              exact refDecPost_no HF.out rfl HBel.out
            · have hbad := oBad_ok (b := b.drop p) (by omega) hM4 hMm (by omega)
              have hH : oHere (b.drop p) = (((num ((b.drop (p + 2)).take 1) : Nat) : Int), ((num ((b.drop (p + 3)).take 1) : Nat) : Int), (b.drop (p + 4)).take (oNum (b.drop p) - 4)) := by
                unfold oHere; rw [List.drop_drop, List.drop_drop, List.drop_drop]
              have hO2 : odec 32 b = cont (vals qs ++ [oHere (b.drop p)]) (odec (32 - (m + 1)) (b.drop (p + oNum (b.drop p)))) := by
                rw [hO, odec_more _ hbad, cont_cont, List.drop_drop]
              have p2 : p + 2 < b.length := by rw [HL.out]; omega
              have p3 : p + 3 < b.length := by rw [HL.out]; omega
              have t2 : (b.drop (p + 2)).take 1 = [b[p + 2]] := by rw [List.drop_eq_getElem_cons p2, List.take_succ_cons, List.take_zero]
              have t3 : (b.drop (p + 3)).take 1 = [b[p + 3]] := by rw [List.drop_eq_getElem_cons p3, List.take_succ_cons, List.take_zero]
              rw [hH, t2, t3, num_one, num_one] at hO2
              have bt := HB.out.below HBel.out
              obtain ⟨b0', o', e0, _, hcell⟩ := bt.2 (by omega)
              injection e0 with e0; injection e0 with e1 e2; subst e1; subst e2
              have k2 := hcell (p + 2) p2
              have k3 := hcell (p + 3) p3
              unfold bv at k2 k3
              have v2 : b[p + 2].toNat < 256 := b[p + 2].toNat_lt
              have v3 : b[p + 3].toNat < 256 := b[p + 3].toNat_lt
              have HO2 := Lib.hid hO2
              obtain ⟨P4, hP4⟩ : ∃ P, P = p + 4 := ⟨_, rfl⟩
              obtain ⟨PM, hPM⟩ : ∃ P, P = p + oNum (b.drop p) := ⟨_, rfl⟩
              obtain ⟨P2, hP2⟩ : ∃ P, P = p + 2 := ⟨_, rfl⟩
              obtain ⟨P3, hP3⟩ : ∃ P, P = p + 3 := ⟨_, rfl⟩
              obtain ⟨AB, hAB⟩ : ∃ AB : Option Addr, AB = if c = P4 then some ⟨b0, o, none⟩ else some ⟨b0, o + P4, none⟩ := ⟨_, rfl⟩
              have hbody : Bts wr w.heap.size AB (PM - P4) ((b.drop (p + 4)).take (oNum (b.drop p) - 4)) := by
                have hML : PM - P4 = oNum (b.drop p) - 4 := by omega
                rw [hML]
                by_cases hc : c = P4
                · have hM0 : oNum (b.drop p) - 4 = 0 := by omega
                  rw [hM0, List.take_zero]; exact Bts.nil
                · rw [hAB, if_neg hc, hP4]
                  exact (bt.rest (p + 4) (by omega)).front _ (by omega)
              have HBody := Lib.hid hbody
              have HBT := Lib.hid bt
              have HC := Lib.hid hcell
              clear hno hO hdl hd0 hbad hH hO2 t2 t3 bt hbody
              generalize oNum (b.drop p) = M at *
              generalize (b.drop (p + 4)).take (M - 4) = bd at *
              obtain ⟨X2, hX2⟩ : ∃ X, X = b[p + 2].toNat := ⟨_, rfl⟩
              obtain ⟨X3, hX3⟩ : ∃ X, X = b[p + 3].toNat := ⟨_, rfl⟩
              rw [← hX2] at k2 v2 HO2
              rw [← hX3] at k3 v3 HO2
              rw [← hP2] at k2
              rw [← hP3] at k3
              have HC2 := Lib.hid (show ∀ W : World, (∀ k, k < w.heap.size → W.heap[k]? = wr.heap[k]?) → W.cell? ⟨b0, o + P2, none⟩ = some (.int .u8 (X2 : Int)) ∧ W.cell? ⟨b0, o + P3, none⟩ = some (.int .u8 (X3 : Int)) from
                fun W hW => ⟨(World.cell?_of_block (w := wr) (hW b0 hb0)).trans k2, (World.cell?_of_block (w := wr) (hW b0 hb0)).trans k3⟩)
              have g2 : IntKind.i64.wrap ((p : Int) + 2) = (P2 : Int) := by rw [IntKind.wrap_i64]; omega
              have g3 : IntKind.i64.wrap ((p : Int) + 3) = (P3 : Int) := by rw [IntKind.wrap_i64]; omega
              have g4 : IntKind.i64.wrap ((p : Int) + 4) = (P4 : Int) := by rw [IntKind.wrap_i64]; omega
              have gM : IntKind.i64.wrap ((p : Int) + (M : Int)) = (PM : Int) := by rw [IntKind.wrap_i64]; omega
              have gx2 : IntKind.i64.wrap (X2 : Int) = (X2 : Int) := by rw [IntKind.wrap_i64]; omega
              have gx3 : IntKind.i64.wrap (X3 : Int) = (X3 : Int) := by rw [IntKind.wrap_i64]; omega
              have HAB := Lib.hid hAB
              have i2 : (P2 : Int) < (n : Int) := by omega
              have i3 : (P3 : Int) < (n : Int) := by omega
              have i4 : (P4 : Int) ≤ (PM : Int) := by omega
              have iM : (PM : Int) ≤ (c : Int) := by omega
              have n4 : P4 ≤ PM := by omega
              have nM : PM ≤ c := by omega
              have n2 : P2 < n := by omega
              have n3 : P3 < n := by omega
              have HPM := Lib.hid hPM
              have hPn : PM ≤ n := by omega
              clear hcell hX2 hX3 k2 k3 HC HBT p2 p3 hP2 hP3 hP4 hPM hAB
              go_wp2_with fail
              refine region_seq (fun W => W.cell? ⟨b0, o + P2, none⟩ = some (.int .u8 (X2 : Int)) ∧ W.cell? ⟨b0, o + P3, none⟩ = some (.int .u8 (X3 : Int)))
                [(0, true), (1, true), (2, true), (3, true), (4, true), (5, true), (6, true), (7, true), (8, true), (9, true), (10, true), (11, true), (12, true), (13, true), (14, true), (15, true), (16, true), (17, true), (18, true), (19, true), (20, true), (21, false), (22, false), (23, true)]
                (by kernel_rfl) (by kernel_rfl) (by kernel_rfl) (by kernel_rfl) (fun _ _ _ _ _ h => h) (HC2.out _ (fun _ _ => rfl)) ?_
              iterate 19
                refine seq_pure (v := ?_) rfl (by rfl) (fun W hW => ?_) ?_
                rotate_left
                · obtain ⟨d0, d1⟩ := hW
                  go_simp
                  try with_reducible rfl
                simp only [Act.put, List.setIfInBounds_toArray, List.set_cons_zero, List.set_cons_succ]
              refine seq_pure (v := .slice AB (PM - P4) (c - P4)) rfl (by rfl) (fun W hW => ?_) ?_
              · clear hW
                by_cases hc : c = P4
                · rw [HAB.out, if_pos hc]
                  go_simp
                  exact fun h => absurd h (by omega)
                · rw [HAB.out, if_neg hc]
                  go_simp
              simp only [Act.put, List.setIfInBounds_toArray, List.set_cons_zero, List.set_cons_succ]
              refine seq_pure (v := .agg #[.int .i64 (X2 : Int), .int .i64 (X3 : Int), .slice AB (PM - P4) (c - P4)]) rfl (by rfl) (fun W hW => ?_) ?_
              · clear hW
                go_simp
              simp only [Act.put, List.setIfInBounds_toArray, List.set_cons_zero, List.set_cons_succ]
              refine seq_make rfl (by rfl) (fun K hK => ?_)
              go_simp
              obtain ⟨A5, c5, w5, r5, a5, g5⟩ := accro_push (AccR.drew HA.out) ⟨(X2 : Int), (X3 : Int), AB, PM - P4, c - P4, bd⟩ (show w.heap.size ≤ wr.drew.heap.size from HBel.out.size) (by rw [HQL.out]; omega) 22
              rw [HQL.out] at r5
              have R5 := Lib.hid (show (Builtin.append_ #[22, 22] 22 #[.slice A m cc, .slice (some ⟨wr.heap.size, 0, none⟩) 1 1]).run Try.prog (wr.alloc (.cells #[.int .i64 (X2 : Int), .int .i64 (X3 : Int), .slice AB (PM - P4) (c - P4)] 45)).drew = .ok (.slice A5 (m + 1) c5) w5 from r5)
              have bel5 : Below w.heap.size w w5 := (show Below w.heap.size w wr.drew from bel_drewN HBel.out 1).grown g5 HBel.out.size (fun k hk => (AccR.ge HA.out hk).1)
              have same5 : ∀ k, k < w.heap.size → w5.heap[k]? = wr.heap[k]? := fun k hk => (bel5.block k hk).trans (HBel.out.block k hk).symm
              have s5 := (HBo.out.keep same5).snoc (q := ⟨(X2 : Int), (X3 : Int), AB, PM - P4, c - P4, bd⟩) (HBody.out.keep same5) (by show PM - P4 ≤ maxLen; unfold maxLen; omega)
              have al5 : ∀ k, k < w.heap.size → (wr.alloc (.cells #[.int .i64 (X2 : Int), .int .i64 (X3 : Int), .slice AB (PM - P4) (c - P4)] 45)).drew.heap[k]? = wr.heap[k]? := fun k hk => Below.heap_alloc _ _ _ (Nat.lt_of_lt_of_le hk HBel.out.size)
              refine hK _ _ (fun W => W.cell? ⟨b0, o + P2, none⟩ = some (.int .u8 (X2 : Int)) ∧ W.cell? ⟨b0, o + P3, none⟩ = some (.int .u8 (X3 : Int))) (fun W h => h) (HC2.out _ al5) ?_
              clear hK K r5 g5 al5
              refine seq_make rfl (by rfl) (fun K hK => ?_)
              refine op_append rfl rfl rfl R5.out ?_
              refine hK _ w5 (fun W => W.cell? ⟨b0, o + P2, none⟩ = some (.int .u8 (X2 : Int)) ∧ W.cell? ⟨b0, o + P3, none⟩ = some (.int .u8 (X3 : Int))) (fun W h => h) (HC2.out _ same5) ?_
              clear hK K
              simp only [Act.put, List.setIfInBounds_toArray, List.set_cons_zero, List.set_cons_succ]
              refine seq_pure (v := ?_) rfl (by rfl) (fun W hW => ?_) ?_
              rotate_left
              · clear hW
                go_simp
                try with_reducible rfl
              simp only [Act.put, List.setIfInBounds_toArray, List.set_cons_zero, List.set_cons_succ]
              refine seq_done ?_
              have A5' := Lib.hid a5
              have BEL5 := Lib.hid bel5
              have S5 := Lib.hid s5
              clear a5 bel5 s5 same5 R5 HA HBo HBel HC2 HBody g2 g3 g4
              go_wp2
              refine ⟨⟨c5, m + 1, PM, A5, _, rfl, ?_, by omega, by omega, ?_, A5'.out, S5.out, ?_, BEL5.out⟩, by simp [lenOf]; omega⟩
              · rw [HPM.out]
              · exact (by rw [List.length_append, HQL.out]; rfl : (qs ++ [(⟨(X2 : Int), (X3 : Int), AB, PM - P4, c - P4, bd⟩ : Ob)]).length = m + 1)
              · exact (by rw [vals_append, HPM.out]; exact HO2.out : odec 32 b = cont (vals (qs ++ [(⟨(X2 : Int), (X3 : Int), AB, PM - P4, c - P4, bd⟩ : Ob)])) (odec (32 - (m + 1)) (b.drop PM)))

theorem refdecode6_calls (a : Option Addr) (n c : Nat) (b : List UInt8) (w : World) (h : Bts w w.heap.size a n b) (hnc : n ≤ c) (hcm : c ≤ maxLen) :
    Calls Try.prog 14 #[.slice a n c] w (RefDecPost w b) := by
  by_cases hn : n ≤ 4096
  · exact refdecode6_ok a n c b w h hn hnc hcm
  · exact refdecode6_big a n c b w h.1 (by omega) (Nat.le_trans hnc hcm)
end Go.Proofs.Ytnmcfgoikffopaa
