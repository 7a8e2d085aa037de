/-
  The document's Outs. Condition: at most 2^30 links.
-/
import Derived.Test.YtpgbfjeejkeibaaGraphD
import Derived.Test.YtpgbfjeejkeibaaGraphH
import Derived.Test.YtpgbfjeejkeibaaGrU
namespace Go.Proofs.Ytpgbfjeejkeibaa
open Go.RowKit

/-- A link's number put in among others, by where it leads, behind like ones. -/
def insO (L : List Lk) (i : Int) : List Int → List Int
  | [] => [i]
  | y :: ys => if keyT L i < keyT L y then i :: y :: ys else y :: insO L i ys
theorem insO_len (L : List Lk) (i : Int) : ∀ l, (insO L i l).length = l.length + 1
  | [] => rfl
  | y :: ys => by
    unfold insO
    split
    · rfl
    · simp [insO_len L i ys]
theorem insO_mem (L : List Lk) (i x : Int) : ∀ l, x ∈ insO L i l ↔ x = i ∨ x ∈ l
  | [] => by simp [insO]
  | y :: ys => by
    unfold insO
    split
    · simp
    · rw [List.mem_cons, insO_mem L i x ys, List.mem_cons]
      constructor
      · rintro (h | h | h) <;> simp [h]
      · rintro (h | h | h) <;> simp [h]
theorem insO_ord (L : List Lk) (i : Int) : ∀ l : List Int, (∀ y ∈ l, y < i) → l.Pairwise (fun x y => keyT L x < keyT L y ∨ keyT L x = keyT L y ∧ x < y) → (insO L i l).Pairwise (fun x y => keyT L x < keyT L y ∨ keyT L x = keyT L y ∧ x < y)
  | [], _, _ => by simp [insO]
  | y :: ys, hlt, h => by
    have h1 := List.pairwise_cons.1 h
    unfold insO
    split
    · rename_i hk
      refine List.pairwise_cons.2 ⟨fun z hz => ?_, h⟩
      rcases List.mem_cons.1 hz with e | e
      · subst e; exact .inl hk
      · have := h1.1 z e; omega
    · rename_i hk
      refine List.pairwise_cons.2 ⟨fun z hz => ?_, insO_ord L i ys (fun z hz => hlt z (List.mem_cons_of_mem _ hz)) h1.2⟩
      rcases (insO_mem L i z ys).1 hz with e | e
      · subst e
        have := hlt y (by simp)
        omega
      · exact h1.1 z e
def rou (L : List Lk) (node : Int) : Nat → List Int
  | 0 => []
  | i + 1 => if (L.getD i default).f == node then insO L (i : Int) (rou L node i) else rou L node i
theorem rou_mem (L : List Lk) (node x : Int) : ∀ i, x ∈ rou L node i ↔ ∃ k : Nat, k < i ∧ (L.getD k default).f = node ∧ x = (k : Int)
  | 0 => by simp [rou]
  | i + 1 => by
    have ih := rou_mem L node x i
    unfold rou
    split
    · rename_i hf
      rw [insO_mem, ih]
      constructor
      · rintro (h | ⟨k, h1, h2, h3⟩)
        · exact ⟨i, by omega, by simpa using hf, h⟩
        · exact ⟨k, by omega, h2, h3⟩
      · rintro ⟨k, h1, h2, h3⟩
        by_cases hk : k = i
        · exact .inl (by rw [h3, hk])
        · exact .inr ⟨k, by omega, h2, h3⟩
    · rename_i hf
      rw [ih]
      constructor
      · rintro ⟨k, h1, h2, h3⟩; exact ⟨k, by omega, h2, h3⟩
      · rintro ⟨k, h1, h2, h3⟩
        by_cases hk : k = i
        · subst hk; exact absurd (by simpa using h2) hf
        · exact ⟨k, by omega, h2, h3⟩
theorem rou_len (L : List Lk) (node : Int) : ∀ i, (rou L node i).length = (gat L node i).length
  | 0 => rfl
  | i + 1 => by
    have ih := rou_len L node i
    rw [gat_succ]
    unfold rou
    split
    · rw [insO_len, ih]; simp
    · simp [ih]
theorem rou_ok (L : List Lk) (node : Int) : ∀ i, (rou L node i).Pairwise (fun x y => keyT L x < keyT L y ∨ keyT L x = keyT L y ∧ x < y)
  | 0 => by simp [rou]
  | i + 1 => by
    unfold rou
    split
    · exact insO_ord L i _ (fun y hy => by obtain ⟨k, hk, _, rfl⟩ := (rou_mem L node y i).1 hy; omega) (rou_ok L node i)
    · exact rou_ok L node i
theorem rou_outs (L : List Lk) (node : Int) : OutsOk L node (rou L node L.length) := ⟨rou_ok L node _, fun x => rou_mem L node x _, rou_len L node _⟩

set_option maxRecDepth 100000 in
set_option maxHeartbeats 3200000 in
theorem routs_calls (node : Int) (p : Option Addr) (n c : Nat) (L : List Lk) (w : World) (h : Row lkc w w.heap.size p n L) (hn : n ≤ 1073741824) :
    Calls Try.prog 16 #[.slice p n c, .int .i64 node] w (OutsPost w L node) := by
  have HLEN := Lib.hid h.1
  have HR := Lib.hid h
  clear h
  go_enter Try.func16, Try.ntmps16
  go_wp2_with fail
  go_loopw [5, 6] (fun s t wr => ∃ (i cc : Nat) (A : Option Addr), i ≤ n ∧ t = .int .i64 (i : Int) ∧ s = .slice A (rou L node i).length cc ∧ AccI wr w.heap.size A cc (rou L node i) ∧ Below w.heap.size w wr) (fun s t wr => n - (intOf t).toNat)
  case atStart => exact ⟨0, 0, none, Nat.zero_le _, rfl, rfl, AccR.nil _ _ _, Below.refl _ _⟩
  case round =>
    obtain ⟨i, cc, A, hi, rfl, rfl, hA, hB⟩ := hrel
    have HA := Lib.hid hA
    have HB := Lib.hid hB
    have hsz := hB.size
    have hgl := gat_len L node i
    have hrl := rou_len L node i
    clear hA hB
    by_cases hlt : i < n
    · have HR2 := Lib.hid ((HR.out.below HB.out).more HB.out.size)
      obtain ⟨b, o, rfl, hbw, hcell⟩ := row_link HR2.out (by omega)
      have hil : i < L.length := by have := HLEN.out; omega
      have hat := link_cells (hcell i hil)
      have hx : L[i] = L.getD i default := by simp [List.getD_eq_getElem?_getD, List.getElem?_eq_getElem hil]
      rw [hx] at hat
      obtain ⟨x, hxx⟩ : ∃ x, x = L.getD i default := ⟨_, rfl⟩
      rw [← hxx] at hat
      have HXX := Lib.hid hxx
      have c0 := hat.1
      have hki : keyT L (i : Int) = x.t := by unfold keyT; rw [Int.toNat_natCast, ← hxx]
      have HKI := Lib.hid hki
      have HAT := Lib.hid hat
      have HCL := Lib.hid hcell
      clear hcell hat hx hxx hki
      by_cases hf : x.f = node
      · have hfb : (x.f != node) = false := by simp [hf]
        have hstep : rou L node (i + 1) = insO L (i : Int) (rou L node i) := by
          show (if (L.getD i default).f == node then insO L (i : Int) (rou L node i) else rou L node i) = _
          rw [← HXX.out, if_pos (by simp [hf])]
        have HST := Lib.hid hstep
        have HMM := Lib.hid (fun y => (rou_mem L node y i).1)
        generalize rou L node i = out at *
        have hol : out.length ≤ i := by omega
        clear hf hstep hgl hrl
        go_wp2_with fail
        clear c0 hfb
        go_loopw [7, 8, 9] (fun s u t wi => ∃ (k cm : Nat) (M : Option Addr) (laid : Bool) (more : List Int), k ≤ out.length ∧ t = .int .i64 (k : Int) ∧ u = .bool laid ∧ s = .slice M more.length cm ∧ AccI wi wr.heap.size M cm more ∧ ((laid = false → more.length ≤ k) ∧ more.length ≤ k + 1) ∧
          insO L (i : Int) out = more ++ (if laid = true then out.drop k else insO L (i : Int) (out.drop k)) ∧ AccI wi w.heap.size A cc out ∧ wr.heap.size ≤ wi.heap.size ∧ Below wr.heap.size wr wi) (fun s u t wi => out.length - (intOf t).toNat)
        case atStart => exact ⟨0, 0, none, false, [], Nat.zero_le _, rfl, rfl, rfl, AccR.nil _ _ _, ⟨fun _ => by simp, by simp⟩, by simp, HA.out, Nat.le_refl _, Below.refl _ _⟩
        case round =>
          obtain ⟨k, cm, M, laid, more, hk, rfl, rfl, rfl, hM, hml, hI, hAo, hsi, hBi⟩ := hrel
          have HML := Lib.hid hml
          have hml2 := hml.2
          clear hml
          have HM := Lib.hid hM
          have HI := Lib.hid hI
          have HAO := Lib.hid hAo
          have HBI := Lib.hid hBi
          clear hM hI hAo hBi
          by_cases hkl : k < out.length
          · obtain ⟨b6, o6, rfl, hb6, hc6⟩ := row_int (AccR.row HAO.out) (by omega)
            have e1 := hc6 k hkl
            obtain ⟨q, hqi, _, hqe⟩ := HMM.out out[k] (List.getElem_mem hkl)
            rw [hqe] at e1
            have hqL : q < L.length := by omega
            have hxq : L[q] = L.getD q default := by simp [List.getD_eq_getElem?_getD, List.getElem?_eq_getElem hqL]
            have hcq := (link_cells (HCL.out q hqL)).2.1
            rw [hxq] at hcq
            have hkq : keyT L (q : Int) = (L.getD q default).t := by unfold keyT; rw [Int.toNat_natCast]
            rw [← hkq] at hcq
            have hci := HAT.out.2.1
            rw [← HKI.out] at hci
            obtain ⟨y, hy⟩ : ∃ y, y = keyT L (q : Int) := ⟨_, rfl⟩
            obtain ⟨z, hz⟩ : ∃ z, z = keyT L (i : Int) := ⟨_, rfl⟩
            rw [← hy] at hcq
            rw [← hz] at hci
            have hcq3 : wr.cell? ⟨b, o + q * 5 + 1, none⟩ = some (.int .i64 y) := (World.cell?_of_block (HBI.out.block b hbw)).trans hcq
            have hci3 : wr.cell? ⟨b, o + i * 5 + 1, none⟩ = some (.int .i64 z) := (World.cell?_of_block (HBI.out.block b hbw)).trans hci
            have HC3 := Lib.hid (And.intro e1 (And.intro hcq3 hci3))
            have hdrop : out.drop k = (q : Int) :: out.drop (k + 1) := by rw [List.drop_eq_getElem_cons hkl, hqe]
            have hII := HI.out
            rw [hdrop] at hII
            have HYZ := Lib.hid (And.intro hy hz)
            have HNE := Lib.hid (show ∀ x0, blk M = some x0 → x0 ≠ b6 from fun x0 hx0 => by
              have h1 := (AccR.ge HM.out hx0).1
              have h2 := (AccR.ge HA.out (x := b6) rfl).2
              omega)
            have hqn : q < n := by omega
            have hin3 : i < n := hlt
            have hk63 : k < 9223372036854775807 := by omega
            have HSZ := Lib.hid hsi
            have BDW := Lib.hid (bel_drewN HBI.out 1)
            clear hcq hci hcq3 hci3 hxq hkq hy hz hdrop hqe e1 hc6
            cases laid with
            | true =>
              have hI3 := Lib.hid (show insO L (i : Int) out = (more ++ [(q : Int)]) ++ out.drop (k + 1) by rw [hII]; simp)
              clear hII
              go_wp2_with fail
              refine region_seq (fun W => W.cell? ⟨b6, o6 + k, none⟩ = some (.int .i64 (q : Int)) ∧ W.cell? ⟨b, o + q * 5 + 1, none⟩ = some (.int .i64 y) ∧ W.cell? ⟨b, o + i * 5 + 1, none⟩ = some (.int .i64 z)) [(0, true), (1, true), (2, true), (3, true), (4, true), (5, true), (6, true), (7, true), (8, true), (9, true), (10, true), (11, true), (12, true), (13, true), (14, true), (15, true), (16, true), (17, true)]
                (by kernel_rfl) (by kernel_rfl) (by kernel_rfl) (by kernel_rfl) (fun _ _ _ _ _ h => h) HC3.out ?_
              repeat
                first
                | (refine seq_skip rfl (by rfl) ?_)
                | (refine seq_pure (v := ?_) rfl (by rfl) (fun W hW => ?_) ?_
                   rotate_left
                   · have t1 := hW.1
                     have t2 := hW.2.1
                     have t3 := hW.2.2
                     clear hW
                     go_simp
                     try with_reducible rfl)
                simp only [Act.put, List.setIfInBounds_toArray, List.set_cons_zero, List.set_cons_succ]
              refine seq_done ?_
              have MD := Lib.hid (show AccI wr.drew _ M cm more from HM.out)
              have AD := Lib.hid (show AccI wr.drew w.heap.size (some ⟨b6, o6, none⟩) cc out from HAO.out)
              have ED := Lib.hid (show wr.drew.cell? ⟨b6, o6 + k, none⟩ = some (.int .i64 (q : Int)) from HC3.out.1)
              clear HM HAO HBI
              obtain ⟨M3, c3, w3, r3, m3, g3⟩ := acci_push MD.out (q : Int) HSZ.out (by omega) 30
              have R3 := Lib.hid r3
              have M3' := Lib.hid m3
              have A3' := Lib.hid (AccR.kept AD.out g3 (fun x0 hx0 e0 => HNE.out x0 e0 (by injection hx0 with h; exact h.symm)))
              have B3 := Lib.hid (BDW.out.grown g3 HSZ.out (fun x0 hx0 => (AccR.ge MD.out hx0).1))
              have hs3 := Nat.le_trans HSZ.out g3.size
              have LL := Lib.hid (show (more ++ [(q : Int)]).length = more.length + 1 by simp)
              have e1 := ED.out
              clear r3 m3 g3
              go_wp2_with (at_builtin; refine step_append rfl rfl rfl rfl R3.out ?_)
              go_roundw
              case rel => exact ⟨k + 1, c3, M3, true, more ++ [(q : Int)], by omega, rfl, rfl, by rw [LL.out], M3'.out, ⟨(fun h => by cases h), by rw [LL.out]; have := HML.out.2; omega⟩, by rw [hI3.out]; simp, A3'.out, hs3, B3.out⟩
              case measure => simp [intOf]; omega
            | false =>
              by_cases hyz : z < y
              · have hins : insO L (i : Int) ((q : Int) :: out.drop (k + 1)) = (i : Int) :: (q : Int) :: out.drop (k + 1) := by
                  unfold insO
                  rw [if_pos (by rw [← HYZ.out.1, ← HYZ.out.2]; exact hyz)]
                have hI3 := Lib.hid (show insO L (i : Int) out = ((more ++ [(i : Int)]) ++ [(q : Int)]) ++ out.drop (k + 1) by rw [hII, if_neg (by simp), hins]; simp)
                have gyz : decide (z < y) = true := by simpa using hyz
                clear hII hins
                go_wp2_with fail
                refine region_seq (fun W => W.cell? ⟨b6, o6 + k, none⟩ = some (.int .i64 (q : Int)) ∧ W.cell? ⟨b, o + q * 5 + 1, none⟩ = some (.int .i64 y) ∧ W.cell? ⟨b, o + i * 5 + 1, none⟩ = some (.int .i64 z)) [(0, true), (1, true), (2, true), (3, true), (4, true), (5, true), (6, true), (7, true), (8, true), (9, true), (10, true), (11, true), (12, true), (13, true), (14, true), (15, true), (16, true), (17, true)]
                  (by kernel_rfl) (by kernel_rfl) (by kernel_rfl) (by kernel_rfl) (fun _ _ _ _ _ h => h) HC3.out ?_
                repeat
                  first
                  | (refine seq_skip rfl (by rfl) ?_)
                  | (refine seq_pure (v := ?_) rfl (by rfl) (fun W hW => ?_) ?_
                     rotate_left
                     · have t1 := hW.1
                       have t2 := hW.2.1
                       have t3 := hW.2.2
                       clear hW
                       go_simp
                       try with_reducible rfl)
                  simp only [Act.put, List.setIfInBounds_toArray, List.set_cons_zero, List.set_cons_succ]
                refine seq_done ?_
                have MD := Lib.hid (show AccI wr.drew _ M cm more from HM.out)
                have AD := Lib.hid (show AccI wr.drew w.heap.size (some ⟨b6, o6, none⟩) cc out from HAO.out)
                have ED := Lib.hid (show wr.drew.cell? ⟨b6, o6 + k, none⟩ = some (.int .i64 (q : Int)) from HC3.out.1)
                clear HM HAO HBI
                obtain ⟨M2, c2, w2, r2, m2, g2⟩ := acci_push MD.out (i : Int) HSZ.out (by omega) 30
                have R2 := Lib.hid r2
                have A2' := Lib.hid (AccR.kept AD.out g2 (fun x0 hx0 e0 => HNE.out x0 e0 (by injection hx0 with h; exact h.symm)))
                have B2 := Lib.hid (BDW.out.grown g2 HSZ.out (fun x0 hx0 => (AccR.ge MD.out hx0).1))
                have hs2 := Nat.le_trans HSZ.out g2.size
                have e1 : w2.cell? ⟨b6, o6 + k, none⟩ = some (.int .i64 (q : Int)) := (World.cell?_of_block (g2.block b6 (AccR.ge AD.out (x := b6) rfl).2 (fun e0 => HNE.out b6 e0.symm rfl))).trans ED.out
                have NE2 := Lib.hid (show ∀ x0, blk M2 = some x0 → x0 ≠ b6 from fun x0 hx0 => by
                  have h1 := (AccR.ge m2 hx0).1
                  have h2 := (AccR.ge HA.out (x := b6) rfl).2
                  omega)
                have L2 : (more ++ [(i : Int)]).length = more.length + 1 := by simp
                obtain ⟨M3, c3, w3, r3, m3, g3⟩ := acci_push m2 (q : Int) hs2 (by rw [L2]; omega) 30
                rw [L2] at r3
                have R3 := Lib.hid r3
                have M3' := Lib.hid m3
                have A3' := Lib.hid (AccR.kept A2'.out g3 (fun x0 hx0 e0 => NE2.out x0 e0 (by injection hx0 with h; exact h.symm)))
                have B3 := Lib.hid (B2.out.grown g3 hs2 (fun x0 hx0 => (AccR.ge m2 hx0).1))
                have hs3 := Nat.le_trans hs2 g3.size
                have LL := Lib.hid (show (more ++ [(i : Int)] ++ [(q : Int)]).length = more.length + 1 + 1 by simp)
                clear r2 r3 m3 g3 g2 m2 L2 gyz
                go_wp2_with (at_builtin; first | refine step_append rfl rfl rfl rfl R2.out ?_ | refine step_append rfl rfl rfl rfl R3.out ?_)
                go_roundw
                case rel => exact ⟨k + 1, c3, M3, true, more ++ [(i : Int)] ++ [(q : Int)], by omega, rfl, rfl, by rw [LL.out], M3'.out, ⟨(fun h => by cases h), by rw [LL.out]; have := HML.out.1 (by trivial); omega⟩, by rw [hI3.out]; simp, A3'.out, hs3, B3.out⟩
                case measure => simp [intOf]; omega
              · have hins : insO L (i : Int) ((q : Int) :: out.drop (k + 1)) = (q : Int) :: insO L (i : Int) (out.drop (k + 1)) := by
                  rw [insO, if_neg (by rw [← HYZ.out.1, ← HYZ.out.2]; exact hyz)]
                have hI3 := Lib.hid (show insO L (i : Int) out = (more ++ [(q : Int)]) ++ insO L (i : Int) (out.drop (k + 1)) by rw [hII, if_neg (by simp), hins]; simp)
                have gyz : decide (z < y) = false := by simpa using hyz
                clear hII hins hyz
                go_wp2_with fail
                refine region_seq (fun W => W.cell? ⟨b6, o6 + k, none⟩ = some (.int .i64 (q : Int)) ∧ W.cell? ⟨b, o + q * 5 + 1, none⟩ = some (.int .i64 y) ∧ W.cell? ⟨b, o + i * 5 + 1, none⟩ = some (.int .i64 z)) [(0, true), (1, true), (2, true), (3, true), (4, true), (5, true), (6, true), (7, true), (8, true), (9, true), (10, true), (11, true), (12, true), (13, true), (14, true), (15, true), (16, true), (17, true)]
                  (by kernel_rfl) (by kernel_rfl) (by kernel_rfl) (by kernel_rfl) (fun _ _ _ _ _ h => h) HC3.out ?_
                repeat
                  first
                  | (refine seq_skip rfl (by rfl) ?_)
                  | (refine seq_pure (v := ?_) rfl (by rfl) (fun W hW => ?_) ?_
                     rotate_left
                     · have t1 := hW.1
                       have t2 := hW.2.1
                       have t3 := hW.2.2
                       clear hW
                       go_simp
                       try with_reducible rfl)
                  simp only [Act.put, List.setIfInBounds_toArray, List.set_cons_zero, List.set_cons_succ]
                refine seq_done ?_
                have MD := Lib.hid (show AccI wr.drew _ M cm more from HM.out)
                have AD := Lib.hid (show AccI wr.drew w.heap.size (some ⟨b6, o6, none⟩) cc out from HAO.out)
                have ED := Lib.hid (show wr.drew.cell? ⟨b6, o6 + k, none⟩ = some (.int .i64 (q : Int)) from HC3.out.1)
                clear HM HAO HBI
                obtain ⟨M3, c3, w3, r3, m3, g3⟩ := acci_push MD.out (q : Int) HSZ.out (by omega) 30
                have R3 := Lib.hid r3
                have M3' := Lib.hid m3
                have A3' := Lib.hid (AccR.kept AD.out g3 (fun x0 hx0 e0 => HNE.out x0 e0 (by injection hx0 with h; exact h.symm)))
                have B3 := Lib.hid (BDW.out.grown g3 HSZ.out (fun x0 hx0 => (AccR.ge MD.out hx0).1))
                have hs3 := Nat.le_trans HSZ.out g3.size
                have LL := Lib.hid (show (more ++ [(q : Int)]).length = more.length + 1 by simp)
                have e1 := ED.out
                clear r3 m3 g3
                clear gyz
                go_wp2_with (at_builtin; refine step_append rfl rfl rfl rfl R3.out ?_)
                go_roundw
                case rel => exact ⟨k + 1, c3, M3, false, more ++ [(q : Int)], by omega, rfl, rfl, by rw [LL.out], M3'.out, ⟨fun _ => by rw [LL.out]; have := HML.out.1 (by trivial); omega, by rw [LL.out]; have := HML.out.1 (by trivial); omega⟩, by rw [hI3.out]; simp, A3'.out, hs3, B3.out⟩
                case measure => simp [intOf]; omega
          · have hke : out.drop k = [] := List.drop_eq_nil_of_le (by omega)
            have hII := HI.out
            rw [hke] at hII
            have HSZ := Lib.hid hsi
            have BF := Lib.hid (bel_more HB.out (Nat.le_refl _) HBI.out)
            cases laid with
            | true =>
              have hI3 := Lib.hid (show insO L (i : Int) out = more by rw [hII]; simp)
              clear hII hke
              go_wp2_with fail
              go_roundw
              case rel => exact ⟨i + 1, cm, M, by omega, rfl, by rw [HST.out, hI3.out], by rw [HST.out, hI3.out]; exact HM.out.lower hsz, BF.out⟩
              case measure => simp [intOf]; omega
            | false =>
              obtain ⟨M3, c3, w3, r3, m3, g3⟩ := acci_push HM.out (i : Int) HSZ.out (by omega) 30
              have R3 := Lib.hid r3
              have M3' := Lib.hid m3
              have B3 := Lib.hid (BF.out.grown g3 (Nat.le_trans hsz HSZ.out) (fun x0 hx0 => Nat.le_trans hsz (AccR.ge HM.out hx0).1))
              have hI3 := Lib.hid (show insO L (i : Int) out = more ++ [(i : Int)] by rw [hII]; simp [insO])
              have LL := Lib.hid (show (insO L (i : Int) out).length = more.length + 1 by rw [hI3.out]; simp)
              clear r3 m3 g3 hII hke
              go_wp2_with (at_builtin; refine step_append rfl rfl rfl rfl R3.out ?_)
              go_roundw
              case rel => exact ⟨i + 1, c3, M3, by omega, rfl, by rw [HST.out, LL.out], by rw [HST.out, hI3.out]; exact M3'.out.lower hsz, B3.out⟩
              case measure => simp [intOf]; omega
      · have hfb : (x.f != node) = true := by simp [hf]
        have hstep : rou L node (i + 1) = rou L node i := by
          show (if (L.getD i default).f == node then insO L (i : Int) (rou L node i) else rou L node i) = _
          rw [← HXX.out, if_neg (by simp [hf])]
        have HST := Lib.hid hstep
        clear hf hstep
        go_wp2_with fail
        go_roundw
        case rel => exact ⟨i + 1, cc, A, by omega, rfl, by rw [HST.out], by rw [HST.out]; exact HA.out, HB.out⟩
        case measure => simp [intOf]; omega
    · obtain rfl : i = L.length := by have := HLEN.out; omega
      go_wp2_with fail
      go_ret
      exact ⟨rou L node L.length, A, cc, rfl, HA.out, rou_outs L node, HB.out⟩
end Go.Proofs.Ytpgbfjeejkeibaa
