/-
  Contracts of the document's own Same (of like objects) for layer 6, and of Ours, Theirs and fits of its statements. Conditions: the objects that come in, and their bodies, read as lists; Same, Ours, Theirs: of at most 2^40.
-/
import Derived.Test.YtnmcfgoikffopaaObjD
import Derived.Test.YtnmcfgoikffopaaObjF
namespace Go.Proofs.Ytnmcfgoikffopaa
open Go.RowKit

set_option maxHeartbeats 1000000 in
theorem same6_calls (a a2 : Option Addr) (n c c2 : Nat) (qs ps : List Ob) (B B2 : Nat) (w : World) (h : Objs w B a n qs) (h2 : Objs w B2 a2 n ps) (hv : vals qs = vals ps) (hn : n ≤ 1099511627776) :
    Calls Try.prog 15 #[.slice a n c, .slice a2 n c2] w fun e w' => e = .returned (.bool true) ∧ ∃ m, w' = w.drewN m := by
  have H1 := Lib.hid h
  have H2 := Lib.hid h2
  have HV := Lib.hid hv
  clear h h2 hv
  go_enter Try.func15, Try.ntmps15
  go_wp2
  go_loopw [5] (fun t W => ∃ j m : Nat, j ≤ n ∧ t = .int .i64 (j : Int) ∧ W = w.drewN m) (fun t _ => n - (intOf t).toNat)
  case atStart => exact ⟨0, 0, Nat.zero_le _, rfl, rfl⟩
  case round =>
    obtain ⟨j, m, hj, rfl, rfl⟩ := hrel
    by_cases hlt : j < n
    · obtain ⟨b, o, q, rfl, _, _, hqi, hat, hbt, _⟩ := H1.out.at hlt
      obtain ⟨b2, o2, q2, rfl, _, _, hqi2, hat2, hbt2, _⟩ := H2.out.at hlt
      have hqq : q.val = q2.val := by
        have e1 : (vals qs)[j]? = some q.val := by simp [vals, hqi]
        have e2 : (vals ps)[j]? = some q2.val := by simp [vals, hqi2]
        rw [HV.out, e2] at e1
        injection e1 with e1; exact e1.symm
      obtain ⟨x, y, qa, qn, qc, ql⟩ := q
      obtain ⟨x2, y2, qa2, qn2, qc2, ql2⟩ := q2
      simp only [Ob.val, Prod.mk.injEq] at hqq
      obtain ⟨rfl, rfl, rfl⟩ := hqq
      have C1 := Lib.hid hat
      have C2 := Lib.hid hat2
      have T1 := Lib.hid hbt
      have T2 := Lib.hid hbt2
      clear hat hat2 hbt hbt2 hqi hqi2
      go_wp2_with fail
      refine region_seq (fun W => AtO W b (o + j * 3) ⟨x, y, qa, qn, qc, ql⟩ ∧ AtO W b2 (o2 + j * 3) ⟨x, y, qa2, qn2, qc2, ql⟩ ∧ Bts W B qa qn ql ∧ Bts W B2 qa2 qn2 ql)
        [(0, true), (1, true), (2, true), (3, true), (4, true), (5, true), (6, true), (7, true), (8, true), (9, true), (10, true), (11, true), (12, true), (13, true), (14, true), (15, true), (16, true), (17, true), (18, true), (19, true), (20, true), (21, true), (22, true), (23, true), (24, true), (25, true), (26, true), (27, true), (28, true), (29, true), (30, true), (31, true), (32, true), (33, true), (34, true), (35, true), (36, true), (37, true), (38, true)]
        (by kernel_rfl) (by kernel_rfl) (by kernel_rfl) (by kernel_rfl) (fun _ _ _ _ _ h => h) ⟨C1.out, C2.out, T1.out, T2.out⟩ ?_
      repeat
        refine seq_pure (v := ?_) rfl (by rfl) (fun W hW => ?_) ?_
        rotate_left
        · obtain ⟨⟨c0, c1, c2⟩, ⟨d0, d1, d2⟩, t1, t2⟩ := hW
          have s1 := t1.text (P := Try.prog) (c := qc) 25 5 9 Try.underlying25 Try.underlying5 Try.underlying9
          have s2 := t2.text (P := Try.prog) (c := qc2) 25 5 9 Try.underlying25 Try.underlying5 Try.underlying9
          clear t1 t2
          go_simp
          try with_reducible rfl
        simp only [Act.put, List.setIfInBounds_toArray, List.set_cons_zero, List.set_cons_succ]
      refine seq_done ?_
      go_wp2
      exact ⟨⟨j + 1, m + 1, by omega, by go_num, rfl⟩, by simp [intOf]; omega⟩
    · have hjn : j = n := by omega
      subst hjn
      go_wp2
      go_ret
      exact ⟨rfl, m, rfl⟩

/-- What Theirs and Ours answer: the same objects, with the same bodies, in memory of the call's own. -/
def LikePost (w : World) (qs : List Ob) (e : Ending) (w' : World) : Prop :=
  ∃ A c, e = .returned (.slice A qs.length c) ∧ Objs w' w'.heap.size A qs.length qs ∧ Below w.heap.size w w'

set_option maxHeartbeats 1000000 in
theorem theirs_calls (a : Option Addr) (n c : Nat) (qs : List Ob) (w : World) (h : Objs w w.heap.size a n qs) (hn : n ≤ 1099511627776) :
    Calls Try.prog 10 #[.slice a n c] w (LikePost w qs) := by
  have HR := Lib.hid h
  have HL := Lib.hid h.len
  clear h
  go_enter Try.func10, Try.ntmps10
  go_wp2
  go_loopw [3, 8] (fun s t W => ∃ j cc : Nat, ∃ A : Option Addr, j ≤ n ∧ t = .int .i64 (j : Int) ∧ s = .slice A j cc ∧ AccO W w.heap.size A cc (qs.take j) ∧ Below w.heap.size w W) (fun _ t _ => n - (intOf t).toNat)
  case atStart => exact ⟨0, 0, none, Nat.zero_le _, rfl, rfl, AccR.nil _ _ _, Below.refl _ _⟩
  case round =>
    obtain ⟨j, cc, A, hj, rfl, rfl, hA, hbel⟩ := hrel
    have HA := Lib.hid hA
    have HBel := Lib.hid hbel
    clear hA hbel
    by_cases hlt : j < n
    · obtain ⟨b, o, q, rfl, hb, hq, hqi, hat, hbt, hmx⟩ := (HR.out.below HBel.out).at hlt
      have HT := Lib.hid (take_next qs j q hqi)
      have hjl : (qs.take j).length = j := by rw [List.length_take, HL.out]; omega
      obtain ⟨c0, c1, c2⟩ := hat
      have k4' := bel_new (Below.refl wr.heap.size wr) (.cells (eo q).toArray 45)
      have a4 : AccO (wr.alloc (.cells (eo q).toArray 45)) w.heap.size A cc (qs.take j) := AccR.alloc HA.out _
      have k4 := bel_more HBel.out (Nat.le_refl _) k4'
      obtain ⟨A5, c5, w5, r5, a5, g5⟩ := acco_push a4 q k4.size (by rw [hjl]; omega) 29
      rw [hjl, World.size_alloc] at r5
      rw [← HT.out] at a5
      have bel5 : Below w.heap.size w w5 := k4.grown g5 k4.size (fun x hx => (AccR.ge a4 hx).1)
      have A5' := Lib.hid a5
      have BEL5 := Lib.hid bel5
      obtain ⟨x, y, qa, qn, qc, ql⟩ := q
      have R5 := Lib.hid (show (Builtin.append_ #[29, 29] 29 #[.slice A j cc, .slice (some ⟨wr.heap.size + 1, 0, none⟩) 1 1]).run Try.prog ((wr.alloc (.cells #[.int .i64 x, .int .i64 y, .slice qa qn qc] 45)).alloc (.cells #[.int .i64 x, .int .i64 y, .slice qa qn qc] 44)) = .ok (.slice A5 (j + 1) c5) w5 from r5)
      clear hqi hbt hq hb hmx hjl k4' a4 k4 r5 a5 g5 bel5
      simp only at c0 c1 c2
      go_wp2_with (at_builtin; refine step_append rfl rfl rfl rfl R5.out ?_)
      exact ⟨⟨j + 1, c5, A5, by omega, by go_num, rfl, A5'.out, BEL5.out⟩, by simp [intOf]; omega⟩
    · have hjn : j = n := by omega
      subst hjn
      have e1 : qs.take j = qs := List.take_of_length_le (by rw [HL.out]; exact Nat.le_refl _)
      rw [e1] at HA
      go_wp2
      go_ret
      have hrow := AccR.row HA.out
      exact ⟨A, cc, by rw [HL.out]; rfl, ⟨hrow, (HR.out.below HBel.out).2.more HBel.out.size⟩, HBel.out⟩

set_option maxHeartbeats 1000000 in
theorem ours_calls (a : Option Addr) (n c : Nat) (qs : List Ob) (w : World) (h : Objs w w.heap.size a n qs) (hn : n ≤ 1099511627776) :
    Calls Try.prog 16 #[.slice a n c] w (LikePost w qs) := by
  have HR := Lib.hid h
  have HL := Lib.hid h.len
  clear h
  go_enter Try.func16, Try.ntmps16
  go_wp2
  go_loopw [3, 8] (fun s t W => ∃ j cc : Nat, ∃ A : Option Addr, j ≤ n ∧ t = .int .i64 (j : Int) ∧ s = .slice A j cc ∧ AccRO W w.heap.size A cc (qs.take j) ∧ Below w.heap.size w W) (fun _ t _ => n - (intOf t).toNat)
  case atStart => exact ⟨0, 0, none, Nat.zero_le _, rfl, rfl, AccR.nil _ _ _, Below.refl _ _⟩
  case round =>
    obtain ⟨j, cc, A, hj, rfl, rfl, hA, hbel⟩ := hrel
    have HA := Lib.hid hA
    have HBel := Lib.hid hbel
    clear hA hbel
    by_cases hlt : j < n
    · obtain ⟨b, o, q, rfl, hb, hq, hqi, hat, hbt, hmx⟩ := (HR.out.below HBel.out).at hlt
      have HT := Lib.hid (take_next qs j q hqi)
      have hjl : (qs.take j).length = j := by rw [List.length_take, HL.out]; omega
      obtain ⟨c0, c1, c2⟩ := hat
      have k4' := bel_new (Below.refl wr.heap.size wr) (.cells (eo q).toArray 44)
      have a4 : AccRO (wr.alloc (.cells (eo q).toArray 44)) w.heap.size A cc (qs.take j) := AccR.alloc HA.out _
      have k4 := bel_more HBel.out (Nat.le_refl _) k4'
      obtain ⟨A5, c5, w5, r5, a5, g5⟩ := accro_push a4 q k4.size (by rw [hjl]; omega) 22
      rw [hjl, World.size_alloc] at r5
      rw [← HT.out] at a5
      have bel5 : Below w.heap.size w w5 := k4.grown g5 k4.size (fun x hx => (AccR.ge a4 hx).1)
      have A5' := Lib.hid a5
      have BEL5 := Lib.hid bel5
      obtain ⟨x, y, qa, qn, qc, ql⟩ := q
      have R5 := Lib.hid (show (Builtin.append_ #[22, 22] 22 #[.slice A j cc, .slice (some ⟨wr.heap.size + 1, 0, none⟩) 1 1]).run Try.prog ((wr.alloc (.cells #[.int .i64 x, .int .i64 y, .slice qa qn qc] 44)).alloc (.cells #[.int .i64 x, .int .i64 y, .slice qa qn qc] 45)) = .ok (.slice A5 (j + 1) c5) w5 from r5)
      clear hqi hbt hq hb hmx hjl k4' a4 k4 r5 a5 g5 bel5
      simp only at c0 c1 c2
      go_wp2_with (at_builtin; refine step_append rfl rfl rfl rfl R5.out ?_)
      exact ⟨⟨j + 1, c5, A5, by omega, by go_num, rfl, A5'.out, BEL5.out⟩, by simp [intOf]; omega⟩
    · have hjn : j = n := by omega
      subst hjn
      have e1 : qs.take j = qs := List.take_of_length_le (by rw [HL.out]; exact Nat.le_refl _)
      rw [e1] at HA
      go_wp2
      go_ret
      have hrow := AccR.row HA.out
      exact ⟨A, cc, by rw [HL.out]; rfl, ⟨hrow, (HR.out.below HBel.out).2.more HBel.out.size⟩, HBel.out⟩

/-- What is small enough to be asked. -/
def Small (n : Nat) (qs : List Ob) : Prop := n ≤ 100 ∧ ∀ q ∈ qs, q.n ≤ 6000
def FitsPost (w : World) (n : Nat) (qs : List Ob) (e : Ending) (w' : World) : Prop := ∃ r, e = .returned (.bool r) ∧ (r = true → Small n qs) ∧ w = w'
theorem fits6_calls (a : Option Addr) (n c : Nat) (qs : List Ob) (B : Nat) (w : World) (h : Objs w B a n qs) (hn : n ≤ maxLen) :
    Calls Try.prog 8 #[.slice a n c] w (FitsPost w n qs) := by
  unfold maxLen at hn
  have HR := Lib.hid h
  have HL := Lib.hid h.len
  clear h
  go_enter Try.func8, Try.ntmps8
  go_wp2
  go_loop [3] (fun t => ∃ j : Nat, j ≤ n ∧ j ≤ 100 ∧ t = .int .i64 (j : Int) ∧ ∀ q ∈ qs.take j, q.n ≤ 6000) (fun t => n - (intOf t).toNat)
  case atStart => exact ⟨0, Nat.zero_le _, Nat.zero_le _, rfl, by simp⟩
  case round =>
    obtain ⟨j, hj, hj1, rfl, hall⟩ := hrel
    have HAll := Lib.hid hall
    clear hall
    by_cases hlt : j < n
    · obtain ⟨b, o, q, rfl, hb, hq, hqi, hat, hbt, hmx⟩ := HR.out.at hlt
      have HT := Lib.hid (take_next qs j q hqi)
      obtain ⟨_, _, c2⟩ := hat
      unfold maxLen at hmx
      clear hqi hbt hq hb
      obtain ⟨x, y, qa, qn, qc, ql⟩ := q
      simp only at c2 hmx
      by_cases h100 : j = 100
      · subst h100
        go_wp2
        go_ret
        exact ⟨false, rfl, by simp, rfl⟩
      · by_cases h6 : qn ≤ 6000
        · have i1 : (j : Int) < 100 := by omega
          have HQ6 := Lib.hid h6
          go_wp2
          refine ⟨⟨j + 1, by omega, by omega, by go_num, ?_⟩, by simp [intOf]; omega⟩
          rw [HT.out]
          intro p hp
          rcases List.mem_append.1 hp with hp | hp
          · exact HAll.out p hp
          · obtain rfl := List.mem_singleton.1 hp
            exact HQ6.out
        · have i1 : (j : Int) < 100 := by omega
          go_wp2
          go_ret
          exact ⟨false, rfl, by simp, rfl⟩
    · have hjn : j = n := by omega
      subst hjn
      have e1 : qs.take j = qs := List.take_of_length_le (by rw [HL.out]; exact Nat.le_refl _)
      rw [e1] at HAll
      go_wp2
      go_ret
      exact ⟨true, rfl, fun _ => ⟨hj1, HAll.out⟩, rfl⟩
end Go.Proofs.Ytnmcfgoikffopaa
