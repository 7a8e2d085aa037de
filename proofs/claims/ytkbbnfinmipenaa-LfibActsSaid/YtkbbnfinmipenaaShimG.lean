/-
  Contracts of shim.Push and shim.Pop, and of the document's own Push. Conditions: the entries that come in read as a list, of at most 2^40.
-/
import Derived.Test.YtkbbnfinmipenaaShimD
import Derived.Test.YtkbbnfinmipenaaShimAlive
namespace Go.Proofs.Ytkbbnfinmipenaa
open Go.RowKit

def pushErr (es : List (Int × Int × Int)) (e : Int × Int × Int) : Int := if mE e = true then (if 8 ≤ es.length then 3 else 0) else 2
def pushL (es : List (Int × Int × Int)) (e : Int × Int × Int) : List (Int × Int × Int) := if pushErr es e = 0 then e :: es else []

def PushPost (w : World) (es : List (Int × Int × Int)) (q : Int × Int × Int) (e : Ending) (w' : World) : Prop :=
  ∃ A c, e = .returned (.tuple #[.slice A (pushL es q).length c, .int .i64 (pushErr es q)]) ∧ Row ec w' w'.heap.size A (pushL es q).length (pushL es q) ∧ (pushL es q).length ≤ c ∧ c ≤ maxLen ∧ Below w.heap.size w w'

theorem pushPost_no {w w' : World} {es : List (Int × Int × Int)} {q : Int × Int × Int} {e : Ending} {err : Int} (h : pushErr es q = err) (h0 : err ≠ 0) (he : e = .returned (.tuple #[.slice none 0 0, .int .i64 err])) (hb : Below w.heap.size w w') : PushPost w es q e w' := by
  have hr : pushL es q = [] := by unfold pushL; rw [h, if_neg h0]
  refine ⟨none, 0, ?_, ?_, ?_, Nat.zero_le _, hb⟩
  · rw [hr, h, he]; rfl
  · rw [hr]; exact Row.nil
  · rw [hr]; exact Nat.le_refl _

/-- A slice that a call lays out with one value. -/
theorem accr_new {α : Type} {enc : α → List Value} {k : Nat} (hk : ∀ x, (enc x).length = k) (w : World) (T : TypeId) (x : α) : AccR enc k (w.alloc (.cells (enc x).toArray T)) w.heap.size T (some ⟨w.heap.size, 0, none⟩) 1 [x] := by
  refine ⟨by simp [hk], .inr ⟨w.heap.size, 1, (enc x).toArray, rfl, Nat.le_refl _, heap_alloc_new w _, Nat.le_refl _, by unfold maxLen; omega, by simp [hk], ?_⟩⟩
  rw [List.take_of_length_le (by simp [hk])]; simp

/-- The same, with what comes out in memory of the call's own. -/
def PushPostA (w : World) (es : List (Int × Int × Int)) (q : Int × Int × Int) (e : Ending) (w' : World) : Prop :=
  ∃ A c, e = .returned (.tuple #[.slice A (pushL es q).length c, .int .i64 (pushErr es q)]) ∧ AccE w' w.heap.size A c (pushL es q) ∧ Below w.heap.size w w'
theorem PushPostA.plain {w w' : World} {es : List (Int × Int × Int)} {q : Int × Int × Int} {e : Ending} (h : PushPostA w es q e w') : PushPost w es q e w' := by
  obtain ⟨A, c, h1, h2, h3⟩ := h
  have hrow := h2.row
  have hcap := h2.cap
  exact ⟨A, c, h1, hrow, hcap.1, hcap.2, h3⟩
theorem pushPostA_no {w w' : World} {es : List (Int × Int × Int)} {q : Int × Int × Int} {e : Ending} {err : Int} (h : pushErr es q = err) (h0 : err ≠ 0) (he : e = .returned (.tuple #[.slice none 0 0, .int .i64 err])) (hb : Below w.heap.size w w') : PushPostA w es q e w' := by
  have hr : pushL es q = [] := by unfold pushL; rw [h, if_neg h0]
  refine ⟨none, 0, ?_, ?_, hb⟩
  · rw [hr, h, he]; rfl
  · rw [hr]; exact AccR.nil _ _ _

set_option maxRecDepth 100000 in
set_option maxHeartbeats 400000 in
theorem push_callsA (a : Option Addr) (n c : Nat) (es : List (Int × Int × Int)) (x y z : Int) (w : World) (h : Row ec w w.heap.size a n es) (hn : n ≤ 1099511627776) :
    Calls Try.prog 56 #[.slice a n c, .agg #[.int .i64 x, .int .i64 y, .int .i64 z]] w (PushPostA w es (x, y, z)) := by
  have HR := Lib.hid h
  have HL := Lib.hid h.1
  have HP := Lib.hid (show pushErr es (x, y, z) = if may x y z = true then (if 8 ≤ es.length then 3 else 0) else 2 from rfl)
  have k0 := bel_new (bel_new (Below.refl w.heap.size w) (.cells #[.int .i64 x, .int .i64 y, .int .i64 z] 61)) (.cells #[.int .i64 x, .int .i64 y, .int .i64 z] 61)
  have K0 := Lib.hid k0
  have R0 := (HR.out.below k0).more k0.size
  clear h k0
  go_enter Try.func56, Try.ntmps56
  go_wp2_with fail
  ((with_reducible refine (may_calls x y z _).mono ?_))
  rintro e w1 ⟨rfl, rfl⟩
  cases hmay : may x y z
  · clear R0
    go_wp2
    go_ret2
    exact pushPostA_no (by rw [HP.out, hmay]; rfl) (by omega) rfl K0.out
  · by_cases h8 : 8 ≤ n
    · clear R0
      go_wp2
      go_ret2
      exact pushPostA_no (by rw [HP.out, hmay, HL.out, if_pos rfl, if_pos h8]) (by omega) rfl K0.out
    · generalize hW : ((w.alloc (.cells #[.int .i64 x, .int .i64 y, .int .i64 z] 61)).alloc (.cells #[.int .i64 x, .int .i64 y, .int .i64 z] 61)) = w1 at *
      have c0 : At3 w1 w.heap.size 0 x y z := by rw [← hW]; exact (At3.new w x y z).below (bel_new (Below.refl _ _) _) (by simp)
      obtain ⟨d0, d1, d2⟩ := c0
      have ha : AccE (w1.alloc (.cells (ec (x, y, z)).toArray 61)) w1.heap.size (some ⟨w1.heap.size, 0, none⟩) 1 [(x, y, z)] := accr_new ec_length w1 _ _
      have b2 := bel_new (Below.refl w1.heap.size w1) (.cells (ec (x, y, z)).toArray 61)
      obtain ⟨A3, c3, w3, r3, a3, g3, _⟩ := acce_append ha (cc := c) (R0.below b2) b2.size (by simp; omega) 31
      have b3 : Below w1.heap.size w1 w3 := belr_acc b2 ha g3
      have K3 := Lib.hid (bel_more K0.out (Nat.le_refl _) b3)
      have A3' := Lib.hid a3
      have R3 := Lib.hid r3
      clear hW R0 ha b2 r3 a3 g3 b3
      simp only [List.length_cons, List.length_nil, Nat.zero_add, ec] at R3
      go_wp2_with (at_builtin; refine step_append rfl rfl rfl rfl R3.out ?_)
      go_ret2
      have he : pushErr es (x, y, z) = 0 := by rw [HP.out, hmay, HL.out, if_pos rfl, if_neg h8]
      have hp : pushL es (x, y, z) = (x, y, z) :: es := by unfold pushL; rw [if_pos he]
      have hl : ((x, y, z) :: es).length = 1 + n := by rw [List.length_cons, HL.out]; omega
      refine ⟨A3, c3, ?_, ?_, K3.out⟩
      · rw [he, hp, hl]; rfl
      · rw [hp]; exact A3'.out.lower K0.out.size

theorem push_calls (a : Option Addr) (n c : Nat) (es : List (Int × Int × Int)) (x y z : Int) (w : World) (h : Row ec w w.heap.size a n es) (hn : n ≤ 1099511627776) :
    Calls Try.prog 56 #[.slice a n c, .agg #[.int .i64 x, .int .i64 y, .int .i64 z]] w (PushPost w es (x, y, z)) := (push_callsA a n c es x y z w h hn).mono fun _ _ h => h.plain

theorem pop_none (a : Option Addr) (c : Nat) (w : World) :
    Calls Try.prog 51 #[.slice a 0 c] w fun e w' => e = .returned (.tuple #[.agg #[.int .i64 0, .int .i64 0, .int .i64 0], .slice none 0 0, .int .i64 8]) ∧ Below w.heap.size w w' := by
  go_enter Try.func51, Try.ntmps51
  go_wp2
  refine bodyPost_ret (v := .tuple #[.agg #[.int .i64 0, .int .i64 0, .int .i64 0], .slice none 0 0, .int .i64 8]) (by simp [results, Try.results51, go_sem]) rfl ⟨rfl, ?_⟩
  exact bel_new (Below.refl _ _) _

/-- Three stores into a block of three cells. -/
theorem set3 {w : World} {q : Nat} {T : TypeId} {u0 u1 u2 : Value} (h : w.heap[q]? = some (.cells #[u0, u1, u2] T (0, 0))) (v0 v1 v2 : Value) :
    (((w.setCell ⟨q, 0, none⟩ v0).setCell ⟨q, 1, none⟩ v1).setCell ⟨q, 2, none⟩ v2).heap[q]? = some (.cells #[v0, v1, v2] T (0, 0)) := by
  simp [World.setCell, Array.getElem?_modify, h]
theorem accr_setBelow {α : Type} {enc : α → List Value} {k : Nat} {w : World} {base c : Nat} {T : TypeId} {A : Option Addr} {l : List α} (h : AccR enc k w base T A c l) {p : Addr} (hp : p.block < base) (u : Value) : AccR enc k (w.setCell p u) base T A c l := ownsRow_setCell_below h hp u

def PopPost (w : World) (n : Nat) (es : List (Int × Int × Int)) (x y z : Int) (e : Ending) (w' : World) : Prop :=
  ∃ A c, e = .returned (.tuple #[.agg #[.int .i64 x, .int .i64 y, .int .i64 z], .slice A (n - 1) c, .int .i64 0]) ∧ AccE w' w.heap.size A c (es.drop 1) ∧ (es.drop 1).length = n - 1 ∧ Below w.heap.size w w'

set_option maxHeartbeats 800000 in
theorem pop_some (b o n c : Nat) (es : List (Int × Int × Int)) (x y z : Int) (w : World) (h : Row ec w w.heap.size (some ⟨b, o, none⟩) n es) (hat : At3 w b o x y z) (hb : b < w.heap.size) (h0 : 0 < n) (hn : n ≤ 1099511627776) (hc : n ≤ c) (hc1 : c ≠ 1) :
    Calls Try.prog 51 #[.slice (some ⟨b, o, none⟩) n c] w (PopPost w n es x y z) := by
  have h0' : ((n : Int) == 0) = false := by rw [beq_eq_false_iff_ne]; omega
  have K0 := Lib.hid (bel_new (Below.refl w.heap.size w) (.cells #[.int .i64 0, .int .i64 0, .int .i64 0] 61))
  have Q0 := Lib.hid (heap_alloc_new w (.cells #[.int .i64 0, .int .i64 0, .int .i64 0] 61))
  have AT0 := Lib.hid hat
  have AT := Lib.hid (hat.below K0.out hb)
  have RS := Lib.hid ((h.rest ec_length 1 (by omega)).below K0.out)
  rw [Nat.one_mul] at RS
  clear h hat
  go_enter Try.func51, Try.ntmps51
  go_wp2_with fail
  generalize (w.alloc (.cells #[.int .i64 0, .int .i64 0, .int .i64 0] 61)) = w1 at *
  refine region_seq (fun W => At3 W b o x y z)
    [(0, true), (1, true), (2, true), (3, true), (4, true), (5, false), (6, false), (7, true), (8, true)]
    (by kernel_rfl) (by kernel_rfl) (by kernel_rfl) (by kernel_rfl) (fun _ _ _ _ _ h => h) AT.out ?_
  repeat
    refine seq_pure (v := ?_) rfl (by rfl) (fun W hW => ?_) ?_
    rotate_left
    · obtain ⟨d0, d1, d2⟩ := hW
      go_simp
      try with_reducible rfl
    simp only [Act.put, List.setIfInBounds_toArray, List.set_cons_zero, List.set_cons_succ]
  refine seq_pure (v := .slice (some ⟨b, o + 3, none⟩) (n - 1) (c - 1)) rfl (by rfl) (fun W hW => ?_) ?_
  · clear hW
    have i1 : (1 : Int) ≤ (n : Int) := by omega
    have i2 : (n : Int) ≤ (c : Int) := by omega
    go_simp
  simp only [Act.put, List.setIfInBounds_toArray, List.set_cons_zero, List.set_cons_succ]
  obtain ⟨A2, c2, w2, r2, a2, g2, _⟩ := acce_append (w := w1.drew) (AccR.nil w1.drew w1.heap.size 61) (cc := c - 1) RS.out.drew (Nat.le_refl _) (by simp; omega) 31
  simp only [List.length_nil, Nat.zero_add, List.nil_append] at r2 a2
  have hlt : w.heap.size < w1.heap.size := (Array.getElem?_eq_some_iff.1 Q0.out).1
  have b2 : Below w1.heap.size w1 w2 := below_of_drew (belr_acc (Below.refl _ _) (AccR.nil (enc := ec) (k := 3) w1.drew w1.heap.size 61) g2)
  have q2 : w2.heap[w.heap.size]? = some (.cells #[.int .i64 0, .int .i64 0, .int .i64 0] 61 (0, 0)) := (b2.block _ hlt).trans Q0.out
  have d0 : w2.cell? ⟨w.heap.size, 0, none⟩ = some (.int .i64 0) := cell_of_row _ _ _ _ _ _ q2
  have d1 : w2.cell? ⟨w.heap.size, 1, none⟩ = some (.int .i64 0) := cell_of_row _ _ _ _ _ _ q2
  have d2 : w2.cell? ⟨w.heap.size, 2, none⟩ = some (.int .i64 0) := cell_of_row _ _ _ _ _ _ q2
  have f0 : ∀ i, w2.frozen? ⟨w.heap.size, i, none⟩ = false := fun i => by simp [World.frozen?, q2]
  have K2 := Lib.hid (bel_more K0.out (Nat.le_refl _) b2)
  have R2 := Lib.hid r2
  have A2' := Lib.hid a2
  refine seq_make rfl (by rfl) (fun K hK => ?_)
  refine op_append rfl rfl rfl R2.out ?_
  refine hK _ w2 (fun W => At3 W b o x y z) (fun W h => h) (AT0.out.below K2.out hb) ?_
  clear hK K r2 a2 g2 b2
  simp only [Act.put, List.setIfInBounds_toArray, List.set_cons_zero, List.set_cons_succ]
  refine seq_make rfl (by rfl) (fun K hK => ?_)
  have f1 := f0 0
  have f2 := f0 1
  have f3 := f0 2
  go_simp
  have K5 := Lib.hid (((K2.out.setCell (p := ⟨w.heap.size, 0, none⟩) (Nat.le_refl _) (.int .i64 x)).setCell (p := ⟨w.heap.size, 1, none⟩) (Nat.le_refl _) (.int .i64 y)).setCell (p := ⟨w.heap.size, 2, none⟩) (Nat.le_refl _) (.int .i64 z))
  have A5 := Lib.hid (show AccE (((w2.setCell ⟨w.heap.size, 0, none⟩ (.int .i64 x)).setCell ⟨w.heap.size, 1, none⟩ (.int .i64 y)).setCell ⟨w.heap.size, 2, none⟩ (.int .i64 z)) w1.heap.size A2 c2 (es.drop 1) from accr_setBelow (accr_setBelow (accr_setBelow A2'.out hlt _) hlt _) hlt _)
  have q5 := set3 q2 (.int .i64 x) (.int .i64 y) (.int .i64 z)
  clear d0 d1 d2 f0 f1 f2 f3 q2
  generalize ((w2.setCell ⟨w.heap.size, 0, none⟩ (.int .i64 x)).setCell ⟨w.heap.size, 1, none⟩ (.int .i64 y)).setCell ⟨w.heap.size, 2, none⟩ (.int .i64 z) = w5 at *
  have Q5 := Lib.hid q5
  refine hK _ w5 (fun W => At3 W b o x y z) (fun W h => h) (AT0.out.below K5.out hb) ?_
  clear hK K q5
  repeat
    refine seq_pure (v := ?_) rfl (by rfl) (fun W hW => ?_) ?_
    rotate_left
    · clear hW
      go_simp
      try with_reducible rfl
    simp only [Act.put, List.setIfInBounds_toArray, List.set_cons_zero, List.set_cons_succ]
  refine seq_done ?_
  go_wp2
  have y0 : w5.cell? ⟨w.heap.size, 0, none⟩ = some (.int .i64 x) := cell_of_row _ _ _ _ _ _ Q5.out
  have y1 : w5.cell? ⟨w.heap.size, 1, none⟩ = some (.int .i64 y) := cell_of_row _ _ _ _ _ _ Q5.out
  have y2 : w5.cell? ⟨w.heap.size, 2, none⟩ = some (.int .i64 z) := cell_of_row _ _ _ _ _ _ Q5.out
  refine bodyPost_ret (v := .tuple #[.agg #[.int .i64 x, .int .i64 y, .int .i64 z], .slice A2 (n - 1) c2, .int .i64 0]) (by simp [results, Try.results51, go_sem, y0, y1, y2]) rfl ⟨A2, c2, rfl, A5.out.lower K0.out.size, RS.out.1, K5.out⟩
set_option maxHeartbeats 800000 in
theorem pop_one (b o : Nat) (es : List (Int × Int × Int)) (x y z : Int) (w : World) (h : Row ec w w.heap.size (some ⟨b, o, none⟩) 1 es) (hat : At3 w b o x y z) (hb : b < w.heap.size) :
    Calls Try.prog 51 #[.slice (some ⟨b, o, none⟩) 1 1] w (PopPost w 1 es x y z) := by
  have K0 := Lib.hid (bel_new (Below.refl w.heap.size w) (.cells #[.int .i64 0, .int .i64 0, .int .i64 0] 61))
  have Q0 := Lib.hid (heap_alloc_new w (.cells #[.int .i64 0, .int .i64 0, .int .i64 0] 61))
  have AT0 := Lib.hid hat
  have AT := Lib.hid (hat.below K0.out hb)
  have hd : es.drop 1 = [] := List.eq_nil_of_length_eq_zero (by simp [h.1])
  have RS := Lib.hid (show Row ec (w.alloc (.cells #[.int .i64 0, .int .i64 0, .int .i64 0] 61)) w.heap.size (some ⟨b, o, none⟩) 0 (es.drop 1) by rw [hd]; exact Row.nil)
  clear h hat hd
  go_enter Try.func51, Try.ntmps51
  go_wp2_with fail
  generalize (w.alloc (.cells #[.int .i64 0, .int .i64 0, .int .i64 0] 61)) = w1 at *
  refine region_seq (fun W => At3 W b o x y z)
    [(0, true), (1, true), (2, true), (3, true), (4, true), (5, false), (6, false), (7, true), (8, true)]
    (by kernel_rfl) (by kernel_rfl) (by kernel_rfl) (by kernel_rfl) (fun _ _ _ _ _ h => h) AT.out ?_
  repeat
    refine seq_pure (v := ?_) rfl (by rfl) (fun W hW => ?_) ?_
    rotate_left
    · obtain ⟨d0, d1, d2⟩ := hW
      go_simp
      try with_reducible rfl
    simp only [Act.put, List.setIfInBounds_toArray, List.set_cons_zero, List.set_cons_succ]
  obtain ⟨A2, c2, w2, r2, a2, g2, _⟩ := acce_append (w := w1.drew) (AccR.nil w1.drew w1.heap.size 61) (cc := 0) RS.out.drew (Nat.le_refl _) (by simp) 31
  simp only [List.length_nil, Nat.zero_add, List.nil_append] at r2 a2
  have hlt : w.heap.size < w1.heap.size := (Array.getElem?_eq_some_iff.1 Q0.out).1
  have b2 : Below w1.heap.size w1 w2 := below_of_drew (belr_acc (Below.refl _ _) (AccR.nil (enc := ec) (k := 3) w1.drew w1.heap.size 61) g2)
  have q2 : w2.heap[w.heap.size]? = some (.cells #[.int .i64 0, .int .i64 0, .int .i64 0] 61 (0, 0)) := (b2.block _ hlt).trans Q0.out
  have d0 : w2.cell? ⟨w.heap.size, 0, none⟩ = some (.int .i64 0) := cell_of_row _ _ _ _ _ _ q2
  have d1 : w2.cell? ⟨w.heap.size, 1, none⟩ = some (.int .i64 0) := cell_of_row _ _ _ _ _ _ q2
  have d2 : w2.cell? ⟨w.heap.size, 2, none⟩ = some (.int .i64 0) := cell_of_row _ _ _ _ _ _ q2
  have f0 : ∀ i, w2.frozen? ⟨w.heap.size, i, none⟩ = false := fun i => by simp [World.frozen?, q2]
  have K2 := Lib.hid (bel_more K0.out (Nat.le_refl _) b2)
  have R2 := Lib.hid r2
  have A2' := Lib.hid a2
  refine seq_make rfl (by rfl) (fun K hK => ?_)
  refine op_append rfl rfl rfl R2.out ?_
  refine hK _ w2 (fun W => At3 W b o x y z) (fun W h => h) (AT0.out.below K2.out hb) ?_
  clear hK K r2 a2 g2 b2
  simp only [Act.put, List.setIfInBounds_toArray, List.set_cons_zero, List.set_cons_succ]
  refine seq_make rfl (by rfl) (fun K hK => ?_)
  have f1 := f0 0
  have f2 := f0 1
  have f3 := f0 2
  go_simp
  have K5 := Lib.hid (((K2.out.setCell (p := ⟨w.heap.size, 0, none⟩) (Nat.le_refl _) (.int .i64 x)).setCell (p := ⟨w.heap.size, 1, none⟩) (Nat.le_refl _) (.int .i64 y)).setCell (p := ⟨w.heap.size, 2, none⟩) (Nat.le_refl _) (.int .i64 z))
  have A5 := Lib.hid (show AccE (((w2.setCell ⟨w.heap.size, 0, none⟩ (.int .i64 x)).setCell ⟨w.heap.size, 1, none⟩ (.int .i64 y)).setCell ⟨w.heap.size, 2, none⟩ (.int .i64 z)) w1.heap.size A2 c2 (es.drop 1) from accr_setBelow (accr_setBelow (accr_setBelow A2'.out hlt _) hlt _) hlt _)
  have q5 := set3 q2 (.int .i64 x) (.int .i64 y) (.int .i64 z)
  clear d0 d1 d2 f0 f1 f2 f3 q2
  generalize ((w2.setCell ⟨w.heap.size, 0, none⟩ (.int .i64 x)).setCell ⟨w.heap.size, 1, none⟩ (.int .i64 y)).setCell ⟨w.heap.size, 2, none⟩ (.int .i64 z) = w5 at *
  have Q5 := Lib.hid q5
  refine hK _ w5 (fun W => At3 W b o x y z) (fun W h => h) (AT0.out.below K5.out hb) ?_
  clear hK K q5
  repeat
    refine seq_pure (v := ?_) rfl (by rfl) (fun W hW => ?_) ?_
    rotate_left
    · clear hW
      go_simp
      try with_reducible rfl
    simp only [Act.put, List.setIfInBounds_toArray, List.set_cons_zero, List.set_cons_succ]
  refine seq_done ?_
  go_wp2
  have y0 : w5.cell? ⟨w.heap.size, 0, none⟩ = some (.int .i64 x) := cell_of_row _ _ _ _ _ _ Q5.out
  have y1 : w5.cell? ⟨w.heap.size, 1, none⟩ = some (.int .i64 y) := cell_of_row _ _ _ _ _ _ Q5.out
  have y2 : w5.cell? ⟨w.heap.size, 2, none⟩ = some (.int .i64 z) := cell_of_row _ _ _ _ _ _ Q5.out
  refine bodyPost_ret (v := .tuple #[.agg #[.int .i64 x, .int .i64 y, .int .i64 z], .slice A2 (1 - 1) c2, .int .i64 0]) (by simp [results, Try.results51, go_sem, y0, y1, y2]) rfl ⟨A2, c2, rfl, A5.out.lower K0.out.size, RS.out.1, K5.out⟩

theorem pop_calls (b o n c : Nat) (es : List (Int × Int × Int)) (x y z : Int) (w : World) (h : Row ec w w.heap.size (some ⟨b, o, none⟩) n es) (hat : At3 w b o x y z) (hb : b < w.heap.size) (h0 : 0 < n) (hn : n ≤ 1099511627776) (hc : n ≤ c) :
    Calls Try.prog 51 #[.slice (some ⟨b, o, none⟩) n c] w (PopPost w n es x y z) := by
  by_cases hc1 : c = 1
  · obtain rfl : n = 1 := by omega
    subst hc1
    exact pop_one b o es x y z w h hat hb
  · exact pop_some b o n c es x y z w h hat hb h0 hn hc hc1
end Go.Proofs.Ytkbbnfinmipenaa
