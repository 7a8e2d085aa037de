/-
  Contracts of the document's Same for objects (one by one), of the statements' same, and of the document's Same for items. Condition: what comes in reads as lists.
-/
import Derived.Test.YtocogdcecnnnnaaBodyJ
import Derived.Test.YtocogdcecnnnnaaObjA
import Derived.Test.YtocogdcecnnnnaaObjC
namespace Go.Proofs.Ytocogdcecnnnnaa
open Go.RowKit

/-- Are two objects the same? -/
def osame (x y : Int × Int × List UInt8) : Bool := x.1 == y.1 && (x.2.1 == y.2.1 && x.2.2 == y.2.2)
theorem osame_iff (x y : Int × Int × List UInt8) : osame x y = true ↔ x = y := by
  obtain ⟨a, b, c⟩ := x
  obtain ⟨d, e, f⟩ := y
  simp [osame]

set_option maxRecDepth 100000 in
set_option maxHeartbeats 1600000 in
theorem same6_one (b b2 : Nat) (q q2 : Ob) (B B2 : Nat) (w : World) (h : AtO w b 0 q) (h2 : AtO w b2 0 q2) (hb : Bts w B q.a q.n q.l) (hb2 : Bts w B2 q2.a q2.n q2.l) :
    Calls Try.prog 24 #[.slice (some ⟨b, 0, none⟩) 1 1, .slice (some ⟨b2, 0, none⟩) 1 1] w (CmpPost w (osame q.val q2.val)) := by
  obtain ⟨x, y, qa, qn, qc, ql⟩ := q
  obtain ⟨x2, y2, qa2, qn2, qc2, ql2⟩ := q2
  simp only [Ob.val] at h h2 hb hb2 ⊢
  have C1 := Lib.hid h
  have C2 := Lib.hid h2
  have T1 := Lib.hid hb
  have T2 := Lib.hid hb2
  clear h h2 hb hb2
  go_enter Try.func24, Try.ntmps24
  go_wp2
  go_loopw [5] (fun t W => (t = .int .i64 0 ∧ W = w) ∨ (t = .int .i64 1 ∧ osame (x, y, ql) (x2, y2, ql2) = true ∧ ∃ m, W = w.drewN m)) (fun t _ => 1 - (intOf t).toNat)
  case atStart => exact .inl ⟨rfl, rfl⟩
  case round =>
    rcases hrel with ⟨rfl, rfl⟩ | ⟨rfl, hs, m, rfl⟩
    · by_cases e0 : x = x2
      · subst e0
        by_cases e1 : y = y2
        · subst e1
          by_cases e2 : ql = ql2
          · subst e2
            go_wp2_with fail
            refine region_seq (fun W => AtO W b 0 ⟨x, y, qa, qn, qc, ql⟩ ∧ AtO W b2 0 ⟨x, y, qa2, qn2, qc2, ql⟩ ∧ Bts W B qa qn ql ∧ Bts W B2 qa2 qn2 ql)
              [(0, true), (1, true), (2, true), (3, true), (4, true), (5, true), (6, true), (7, true), (8, true), (9, true), (10, true), (11, true), (12, true), (13, true), (14, true), (15, true), (16, true), (17, true), (18, true), (19, true), (20, true), (21, true), (22, true), (23, true), (24, true), (25, true), (26, true), (27, true), (28, true), (29, true), (30, true), (31, true), (32, true), (33, true), (34, true), (35, true), (36, true), (37, true), (38, true)]
              (by kernel_rfl) (by kernel_rfl) (by kernel_rfl) (by kernel_rfl) (fun _ _ _ _ _ h => h) ⟨C1.out, C2.out, T1.out, T2.out⟩ ?_
            repeat
              first
              | (refine seq_pure (v := ?_) rfl (by rfl) (fun W hW => ?_) ?_
                 rotate_left
                 · obtain ⟨⟨c0, c1, c2⟩, ⟨d0, d1, d2⟩, t1, t2⟩ := hW
                   have s1 := t1.text (P := Try.prog) (c := qc) 30 5 9 Try.underlying30 Try.underlying5 Try.underlying9
                   have s2 := t2.text (P := Try.prog) (c := qc2) 30 5 9 Try.underlying30 Try.underlying5 Try.underlying9
                   clear t1 t2
                   go_simp
                   try with_reducible rfl
                 simp only [Act.put, List.setIfInBounds_toArray, List.set_cons_zero, List.set_cons_succ])
              | (refine seq_skip rfl (by rfl) ?_
                 simp only [Act.put, List.setIfInBounds_toArray, List.set_cons_zero, List.set_cons_succ])
            refine seq_done ?_
            go_wp2
            exact ⟨.inr ⟨by go_num, (osame_iff _ _).2 rfl, 1, rfl⟩, by simp [intOf]⟩
          · have HS := Lib.hid (show osame (x, y, ql) (x, y, ql2) = false by simp [osame, e2])
            have k1 : (ql == ql2) = false := by simpa using e2
            go_wp2_with fail
            refine region_seq (fun W => AtO W b 0 ⟨x, y, qa, qn, qc, ql⟩ ∧ AtO W b2 0 ⟨x, y, qa2, qn2, qc2, ql2⟩ ∧ Bts W B qa qn ql ∧ Bts W B2 qa2 qn2 ql2)
              [(0, true), (1, true), (2, true), (3, true), (4, true), (5, true), (6, true), (7, true), (8, true), (9, true), (10, true), (11, true), (12, true), (13, true), (14, true), (15, true), (16, true), (17, true), (18, true), (19, true), (20, true), (21, true), (22, true), (23, true), (24, true), (25, true), (26, true), (27, true), (28, true), (29, true), (30, true), (31, true), (32, true), (33, true), (34, true), (35, true), (36, true), (37, true), (38, true)]
              (by kernel_rfl) (by kernel_rfl) (by kernel_rfl) (by kernel_rfl) (fun _ _ _ _ _ h => h) ⟨C1.out, C2.out, T1.out, T2.out⟩ ?_
            repeat
              first
              | (refine seq_pure (v := ?_) rfl (by rfl) (fun W hW => ?_) ?_
                 rotate_left
                 · obtain ⟨⟨c0, c1, c2⟩, ⟨d0, d1, d2⟩, t1, t2⟩ := hW
                   have s1 := t1.text (P := Try.prog) (c := qc) 30 5 9 Try.underlying30 Try.underlying5 Try.underlying9
                   have s2 := t2.text (P := Try.prog) (c := qc2) 30 5 9 Try.underlying30 Try.underlying5 Try.underlying9
                   clear t1 t2
                   go_simp
                   try with_reducible rfl
                 simp only [Act.put, List.setIfInBounds_toArray, List.set_cons_zero, List.set_cons_succ])
              | (refine seq_skip rfl (by rfl) ?_
                 simp only [Act.put, List.setIfInBounds_toArray, List.set_cons_zero, List.set_cons_succ])
            refine seq_done ?_
            go_wp2
            go_ret
            rw [HS.out]
            exact ⟨rfl, 1, rfl⟩
        · have HS := Lib.hid (show osame (x, y, ql) (x, y2, ql2) = false by simp [osame, e1])
          have k1 : (y == y2) = false := by rw [beq_eq_false_iff_ne]; exact e1
          have k2 : (y != y2) = true := by rw [bne, k1]; rfl
          go_wp2_with fail
          refine region_seq (fun W => AtO W b 0 ⟨x, y, qa, qn, qc, ql⟩ ∧ AtO W b2 0 ⟨x, y2, qa2, qn2, qc2, ql2⟩ ∧ Bts W B qa qn ql ∧ Bts W B2 qa2 qn2 ql2)
            [(0, true), (1, true), (2, true), (3, true), (4, true), (5, true), (6, true), (7, true), (8, true), (9, true), (10, true), (11, true), (12, true), (13, true), (14, true), (15, true), (16, true), (17, true), (18, true), (19, true), (20, true), (21, true), (22, true), (23, true), (24, true), (25, true), (26, true), (27, true), (28, true), (29, true), (30, true), (31, true), (32, true), (33, true), (34, true), (35, true), (36, true), (37, true), (38, true)]
            (by kernel_rfl) (by kernel_rfl) (by kernel_rfl) (by kernel_rfl) (fun _ _ _ _ _ h => h) ⟨C1.out, C2.out, T1.out, T2.out⟩ ?_
          repeat
            first
            | (refine seq_pure (v := ?_) rfl (by rfl) (fun W hW => ?_) ?_
               rotate_left
               · obtain ⟨⟨c0, c1, c2⟩, ⟨d0, d1, d2⟩, t1, t2⟩ := hW
                 have s1 := t1.text (P := Try.prog) (c := qc) 30 5 9 Try.underlying30 Try.underlying5 Try.underlying9
                 have s2 := t2.text (P := Try.prog) (c := qc2) 30 5 9 Try.underlying30 Try.underlying5 Try.underlying9
                 clear t1 t2
                 go_simp
                 try with_reducible rfl
               simp only [Act.put, List.setIfInBounds_toArray, List.set_cons_zero, List.set_cons_succ])
            | (refine seq_skip rfl (by rfl) ?_
               simp only [Act.put, List.setIfInBounds_toArray, List.set_cons_zero, List.set_cons_succ])
          refine seq_done ?_
          go_wp2
          go_ret
          rw [HS.out]
          exact ⟨rfl, 1, rfl⟩
      · have HS := Lib.hid (show osame (x, y, ql) (x2, y2, ql2) = false by simp [osame, e0])
        have k1 : (x == x2) = false := by rw [beq_eq_false_iff_ne]; exact e0
        have k2 : (x != x2) = true := by rw [bne, k1]; rfl
        go_wp2_with fail
        refine region_seq (fun W => AtO W b 0 ⟨x, y, qa, qn, qc, ql⟩ ∧ AtO W b2 0 ⟨x2, y2, qa2, qn2, qc2, ql2⟩ ∧ Bts W B qa qn ql ∧ Bts W B2 qa2 qn2 ql2)
          [(0, true), (1, true), (2, true), (3, true), (4, true), (5, true), (6, true), (7, true), (8, true), (9, true), (10, true), (11, true), (12, true), (13, true), (14, true), (15, true), (16, true), (17, true), (18, true), (19, true), (20, true), (21, true), (22, true), (23, true), (24, true), (25, true), (26, true), (27, true), (28, true), (29, true), (30, true), (31, true), (32, true), (33, true), (34, true), (35, true), (36, true), (37, true), (38, true)]
          (by kernel_rfl) (by kernel_rfl) (by kernel_rfl) (by kernel_rfl) (fun _ _ _ _ _ h => h) ⟨C1.out, C2.out, T1.out, T2.out⟩ ?_
        repeat
          first
          | (refine seq_pure (v := ?_) rfl (by rfl) (fun W hW => ?_) ?_
             rotate_left
             · obtain ⟨⟨c0, c1, c2⟩, ⟨d0, d1, d2⟩, t1, t2⟩ := hW
               have s1 := t1.text (P := Try.prog) (c := qc) 30 5 9 Try.underlying30 Try.underlying5 Try.underlying9
               have s2 := t2.text (P := Try.prog) (c := qc2) 30 5 9 Try.underlying30 Try.underlying5 Try.underlying9
               clear t1 t2
               go_simp
               try with_reducible rfl
             simp only [Act.put, List.setIfInBounds_toArray, List.set_cons_zero, List.set_cons_succ])
          | (refine seq_skip rfl (by rfl) ?_
             simp only [Act.put, List.setIfInBounds_toArray, List.set_cons_zero, List.set_cons_succ])
        refine seq_done ?_
        go_wp2
        go_ret
        rw [HS.out]
        exact ⟨rfl, 1, rfl⟩
    · have HS := Lib.hid hs
      clear hs
      go_wp2
      go_ret
      rw [HS.out]
      exact ⟨rfl, m, rfl⟩
end Go.Proofs.Ytocogdcecnnnnaa
