/-
  Contracts of what the statement LfibKeeps asks with: same (of like rows), has (of a row that is there); what a set leaves of the entries. Conditions: the rows that come in read as a list, of at most 2^40.
-/
import Derived.Test.YtkbbnfinmipenaaLfibS
import Derived.Test.YtkbbnfinmipenaaSeq
namespace Go.Proofs.Ytkbbnfinmipenaa
open Go.RowKit Go.Maps
set_option linter.unusedVariables false

/-- Rows stay as they are when maps turn. -/
theorem Row.turn {α : Type} {enc : α → List Value} {k : Nat} (hk : ∀ x, (enc x).length = k) (hk0 : 0 < k) {w w' : World} {n : Nat} {a : Option Addr} {l : List α} (h : Row enc w w.heap.size a n l) {S : List Nat} (ht : Turn S w w') (hS : ∀ q ∈ S, ∃ es cl, w.heap[q]? = some (.map es cl)) : Row enc w' w'.heap.size a n l := by
  refine ⟨h.1, fun hn => ?_⟩
  obtain ⟨b, o, e, hb, hc⟩ := h.2 hn
  refine ⟨b, o, e, Nat.lt_of_lt_of_le hb ht.size, fun i hi => ?_⟩
  have hbS : b ∉ S := by
    intro hm
    obtain ⟨es, cl, he⟩ := hS b hm
    have h0 := hc 0 (by rw [flat_length hk, h.1]; exact Nat.mul_pos hn hk0)
    simp [World.cell?, he] at h0
  exact (World.cell?_of_block (w := w) (ht.block b hb hbS)).trans (hc i hi)

set_option maxRecDepth 100000 in
set_option maxHeartbeats 800000 in
theorem same5_calls (a a2 : Option Addr) (n c c2 : Nat) (l : List (Int × Int × Int)) (B B2 : Nat) (w : World) (h : Row ec w B a n l) (h2 : Row ec w B2 a2 n l) (hn : n ≤ 1099511627776) :
    Calls Try.prog 26 #[.slice a n c, .slice a2 n c2] w fun e w' => e = .returned (.bool true) ∧ Below w.heap.size w w' := by
  have HL := Lib.hid h.1
  have H1 := Lib.hid h
  have H2 := Lib.hid h2
  clear h h2
  go_enter Try.func26, Try.ntmps26
  go_wp2
  go_loopw [13] (fun t W => ∃ j m : Nat, j ≤ n ∧ t = .int .i64 (j : Int) ∧ W = w.drewN m) (fun t _ => n - (intOf t).toNat)
  case atStart => exact ⟨0, 0, Nat.zero_le _, rfl, rfl⟩
  case round =>
    obtain ⟨j, m, hj, rfl, rfl⟩ := hrel
    by_cases hlt : j < n
    · have hjl : j < l.length := by rw [HL.out]; exact hlt
      obtain ⟨b, o, rfl, _, hc⟩ := row_at3 H1.out (by omega)
      obtain ⟨b2, o2, rfl, _, hc2⟩ := row_at3 H2.out (by omega)
      have C1 := Lib.hid (hc j hjl)
      have C2 := Lib.hid (hc2 j hjl)
      clear hc hc2
      generalize l[j].1 = x at *
      generalize l[j].2.1 = y at *
      generalize l[j].2.2 = z at *
      go_wp2_with fail
      refine region_seq (fun W => At3 W b (o + j * 3) x y z ∧ At3 W b2 (o2 + j * 3) x y z) [(0, true), (1, true), (2, true), (3, true), (4, true), (5, true), (6, true), (7, true), (8, true)]
        (by kernel_rfl) (by kernel_rfl) (by kernel_rfl) (by kernel_rfl) (fun _ _ _ _ _ h => h) ⟨C1.out, C2.out⟩ ?_
      repeat
        refine seq_pure (v := ?_) rfl (by rfl) (fun W hW => ?_) ?_
        rotate_left
        · obtain ⟨⟨c0, c1, c2⟩, d0, d1, d2⟩ := hW
          go_simp
          try with_reducible rfl
        simp only [Act.put, List.setIfInBounds_toArray, List.set_cons_zero, List.set_cons_succ]
      refine seq_done ?_
      go_wp2
      exact ⟨⟨j + 1, m + 1, by omega, by go_num, rfl⟩, by simp [intOf]; omega⟩
    · go_wp2
      go_ret
      exact ⟨rfl, bel_drewN (Below.refl _ _) m⟩

set_option maxRecDepth 100000 in
set_option maxHeartbeats 800000 in
theorem has5_calls (a : Option Addr) (n c : Nat) (l : List (Int × Int × Int)) (x y z : Int) (w : World) (h : Row ec w w.heap.size a n l) (hn : n ≤ 1099511627776) (hx : (x, y, z) ∈ l) :
    Calls Try.prog 27 #[.slice a n c, .agg #[.int .i64 x, .int .i64 y, .int .i64 z]] w fun e w' => e = .returned (.bool true) ∧ Below w.heap.size w w' := by
  have K0 := Lib.hid (bel_new (Below.refl w.heap.size w) (.cells #[.int .i64 x, .int .i64 y, .int .i64 z] 63))
  have X0 := Lib.hid (Blk.new w 63 [.int .i64 x, .int .i64 y, .int .i64 z])
  have HL := Lib.hid h.1
  have H1 := Lib.hid ((h.below K0.out).more K0.out.size)
  have HX := Lib.hid hx
  clear h hx
  go_enter Try.func27, Try.ntmps27
  go_wp2_with fail
  generalize w.alloc (.cells #[.int .i64 x, .int .i64 y, .int .i64 z] 63) = w1 at *
  go_loopw [9] (fun t W => ∃ j : Nat, j ≤ n ∧ t = .int .i64 (j : Int) ∧ (x, y, z) ∉ l.take j ∧ Below w1.heap.size w1 W) (fun t _ => n - (intOf t).toNat)
  case atStart => exact ⟨0, Nat.zero_le _, rfl, by simp, Below.refl _ _⟩
  case round =>
    obtain ⟨j, hj, rfl, hno, hB⟩ := hrel
    have HN := Lib.hid hno
    have HB := Lib.hid hB
    by_cases hlt : j < n
    · have hjl : j < l.length := by rw [HL.out]; exact hlt
      obtain ⟨b, o, rfl, _, hc⟩ := row_at3 (H1.out.below hB) (by omega)
      obtain ⟨d0, d1, d2⟩ := hc j hjl
      have HT := Lib.hid (show (x, y, z) ∉ l.take (j + 1) ↔ ((x, y, z) ∉ l.take j ∧ (x, y, z) ≠ l[j]) by rw [List.take_succ_eq_append_getElem hjl, List.mem_append, List.mem_singleton, not_or])
      have HE := Lib.hid (show l[j] = (l[j].1, l[j].2.1, l[j].2.2) from rfl)
      have X2 := X0.out.below hB
      have K2 := Lib.hid (bel_more HB.out (Nat.le_refl _) (bel_new (Below.refl wr.heap.size wr) (.cells #[.int .i64 l[j].1, .int .i64 l[j].2.1, .int .i64 l[j].2.2] 63)))
      have X3 := Lib.hid (X2.alloc (.cells #[.int .i64 l[j].1, .int .i64 l[j].2.1, .int .i64 l[j].2.2] 63))
      have Y3 := Lib.hid (Blk.new wr 63 [.int .i64 l[j].1, .int .i64 l[j].2.1, .int .i64 l[j].2.2])
      rw [HE.out] at HT
      clear hc hno hB X2 HE
      generalize l[j].1 = p at *
      generalize l[j].2.1 = q at *
      generalize l[j].2.2 = r at *
      go_upto_region 4 with fail
      generalize wr.alloc (.cells #[.int .i64 p, .int .i64 q, .int .i64 r] 63) = w3 at *
      have x0 : w3.cell? ⟨w.heap.size, 0, none⟩ = some (.int .i64 x) := X3.out.cell 0
      have x1 : w3.cell? ⟨w.heap.size, 1, none⟩ = some (.int .i64 y) := X3.out.cell 1
      have x2 : w3.cell? ⟨w.heap.size, 2, none⟩ = some (.int .i64 z) := X3.out.cell 2
      have y0 : w3.cell? ⟨wr.heap.size, 0, none⟩ = some (.int .i64 p) := Y3.out.cell 0
      have y1 : w3.cell? ⟨wr.heap.size, 1, none⟩ = some (.int .i64 q) := Y3.out.cell 1
      have y2 : w3.cell? ⟨wr.heap.size, 2, none⟩ = some (.int .i64 r) := Y3.out.cell 2
      clear d0 d1 d2
      by_cases h0 : p = x
      · by_cases h1 : q = y
        · by_cases h2 : r = z
          · subst h0
            subst h1
            subst h2
            go_wp2
            go_ret
            exact ⟨rfl, bel_more K0.out (Nat.le_refl _) K2.out⟩
          · have g2 : (r == z) = false := by rw [beq_eq_false_iff_ne]; exact h2
            have hn2 := HT.out.2 ⟨HN.out, fun e => h2 (by injection e with _ e; injection e with _ e; exact e.symm)⟩
            have HN2 := Lib.hid hn2
            clear hn2
            go_wp2
            exact ⟨⟨j + 1, by omega, by go_num, HN2.out, K2.out⟩, by simp [intOf]; omega⟩
        · have g1 : (q == y) = false := by rw [beq_eq_false_iff_ne]; exact h1
          have hn2 := HT.out.2 ⟨HN.out, fun e => h1 (by injection e with _ e; injection e with e _; exact e.symm)⟩
          have HN2 := Lib.hid hn2
          clear hn2
          go_wp2
          exact ⟨⟨j + 1, by omega, by go_num, HN2.out, K2.out⟩, by simp [intOf]; omega⟩
      · have g0 : (p == x) = false := by rw [beq_eq_false_iff_ne]; exact h0
        have hn2 := HT.out.2 ⟨HN.out, fun e => h0 (by injection e with e _; exact e.symm)⟩
        have HN2 := Lib.hid hn2
        clear hn2
        go_wp2
        exact ⟨⟨j + 1, by omega, by go_num, HN2.out, K2.out⟩, by simp [intOf]; omega⟩
    · exfalso
      have e1 : l.take j = l := List.take_of_length_le (by rw [HL.out]; omega)
      rw [e1] at hno
      exact hno HX.out

/-! ### counts of entries -/

/-- How many rows have this number. -/
def cntK (l : List (Int × Int × Int)) (k : Int) : Nat := (l.filter (fun r => r.1 == k)).length

theorem cnt_ins (l : List (Int × Int × Int)) (x : Int × Int × Int) : cntK (insR l x) x.1 = 1 := by
  unfold cntK insR
  rw [List.filter_append, List.filter_cons, if_pos (by simp), List.filter_filter, List.filter_filter]
  have e1 : l.filter (fun r => (r.1 == x.1) && decide (r.1 < x.1)) = [] := by
    rw [List.filter_eq_nil_iff]; intro r _; simp; omega
  have e2 : l.filter (fun r => (r.1 == x.1) && decide (x.1 < r.1)) = [] := by
    rw [List.filter_eq_nil_iff]; intro r _; simp; omega
  rw [e1, e2]; rfl
theorem len_rem_ins (l : List (Int × Int × Int)) (x : Int × Int × Int) : (remR (insR l x) x.1).length = (remR l x.1).length := by
  have h := len_insR l x
  have e : (remR (insR l x) x.1).length + 1 = (insR l x).length := by
    unfold remR insR
    rw [List.filter_append, List.filter_cons, if_neg (by simp), List.filter_filter, List.filter_filter]
    have e1 : l.filter (fun r => (!(r.1 == x.1)) && decide (r.1 < x.1)) = l.filter (fun r => decide (r.1 < x.1)) := by
      apply List.filter_congr; intro r _
      by_cases hr : r.1 < x.1
      · have : ¬ r.1 = x.1 := by omega
        simp [hr, this]
      · simp [hr]
    have e2 : l.filter (fun r => (!(r.1 == x.1)) && decide (x.1 < r.1)) = l.filter (fun r => decide (x.1 < r.1)) := by
      apply List.filter_congr; intro r _
      by_cases hr : x.1 < r.1
      · have : ¬ r.1 = x.1 := by omega
        simp [hr, this]
      · simp [hr]
    rw [e1, e2]
    simp only [List.length_append, List.length_cons]
    omega
  omega
theorem act_ne {ok : Bool} {most : Int} {l : List (Int × Int × Int)} {x : Int × Int × Int} (h : actE ok most l x.1 ≠ 0) : actL ok most l x = l := by
  unfold actE at h
  unfold actL
  cases ok
  · rfl
  · rw [if_pos rfl] at h ⊢
    unfold setE at h
    unfold setL
    split at h
    · rename_i hc; rw [if_pos hc]
    · exact absurd rfl h
theorem act_ok {ok : Bool} {most : Int} {l : List (Int × Int × Int)} {x : Int × Int × Int} (h : actE ok most l x.1 = 0) : actL ok most l x = insR l x := by
  unfold actE at h
  unfold actL
  cases ok
  · simp at h
  · rw [if_pos rfl] at h ⊢
    unfold setE at h
    unfold setL
    split at h
    · omega
    · rename_i hc; rw [if_neg hc]
theorem fnd_ins {l : List (Int × Int × Int)} (hr : RisR l) (x : Int × Int × Int) : fnd (insR l x) x.1 = some x.2 := fnd_some (hr.ins x) (mem_insR.2 (.inl rfl))
theorem fnd_rem (l : List (Int × Int × Int)) (k : Int) : fnd (remR l k) k = none := fnd_none (fun h => (key_remR.1 h).1 rfl)
end Go.Proofs.Ytkbbnfinmipenaa
