/-
  Contracts of the document's own answers for layer 1: take, Uint, Bytes, Left. Conditions: the bytes of the reader read as a list of at most 4096 bytes, and its place lies in them.
-/
import Derived.Test.YtkjkgjkjjiejaaaRefB
import Derived.Test.YtkjkgjkjjiejaaaOctF
import Derived.Test.YtkjkgjkjjiejaaaSeq
namespace Go.Proofs.Ytkjkgjkjjiejaaa
open Go.RowKit

theorem errOf_keepsC {err n left : Int} {ok : Bool} (h : err ≠ 0) : errOf err ok n left = err := by unfold errOf; rw [if_neg h]

/-- The document's reader, as a value. -/
def rv (a : Option Addr) (n c : Nat) (i : Nat) (err : Int) : Value := .agg #[.slice a n c, .int .i64 (i : Int), .int .i64 err]

def TakePost (w : World) (a : Option Addr) (n c : Nat) (i : Nat) (err : Int) (lst : List UInt8) (e : Ending) (w' : World) : Prop :=
  ∃ A c2, e = .returned (.tuple #[rv a n c i err, .slice A lst.length c2]) ∧ Bts w' w'.heap.size A lst.length lst ∧ Below w.heap.size w w' ∧ ∀ b, blk A = some b → w.heap.size ≤ b

theorem take_err (a : Option Addr) (n c i : Nat) (err k lo hi : Int) (w : World) (he : err ≠ 0) :
    Calls Try.prog 25 #[.agg #[.slice a n c, .int .i64 (i : Int), .int .i64 err], .int .i64 k, .int .i64 lo, .int .i64 hi] w (TakePost w a n c i err []) := by
  have hb : (err != 0) = true := by simpa using he
  clear he
  go_enter Try.func25, Try.ntmps25
  go_wp2
  exact bodyPost_ret (v := .tuple #[rv a n c i err, .slice none 0 0]) (by simp [results, Try.results25, go_sem, rv]) rfl ⟨none, 0, rfl, Bts.nil, ((Below.refl _ _).alloc (Nat.le_refl _) _).alloc (by simp) _, fun _ h => by cases h⟩

theorem take_arg (a : Option Addr) (n c i : Nat) (k lo hi : Int) (w : World) (h : k < lo ∨ hi < k) :
    Calls Try.prog 25 #[.agg #[.slice a n c, .int .i64 (i : Int), .int .i64 0], .int .i64 k, .int .i64 lo, .int .i64 hi] w (TakePost w a n c i 2 []) := by
  by_cases h1 : k < lo
  · clear h
    go_enter Try.func25, Try.ntmps25
    go_wp2
    exact bodyPost_ret (v := .tuple #[rv a n c i 2, .slice none 0 0]) (by simp [results, Try.results25, go_sem, rv]) rfl ⟨none, 0, rfl, Bts.nil, ((Below.refl _ _).alloc (Nat.le_refl _) _).alloc (by simp) _, fun _ h => by cases h⟩
  · have h2 : hi < k := by omega
    clear h
    go_enter Try.func25, Try.ntmps25
    go_wp2
    exact bodyPost_ret (v := .tuple #[rv a n c i 2, .slice none 0 0]) (by simp [results, Try.results25, go_sem, rv]) rfl ⟨none, 0, rfl, Bts.nil, ((Below.refl _ _).alloc (Nat.le_refl _) _).alloc (by simp) _, fun _ h => by cases h⟩

theorem take_short (a : Option Addr) (n c i : Nat) (k lo hi : Int) (w : World) (hn : n ≤ 4096) (hi' : i ≤ n) (h1 : lo ≤ k) (h2 : k ≤ hi) (h3 : (n : Int) - (i : Int) < k) :
    Calls Try.prog 25 #[.agg #[.slice a n c, .int .i64 (i : Int), .int .i64 0], .int .i64 k, .int .i64 lo, .int .i64 hi] w (TakePost w a n c i 4 []) := by
  have h1' : ¬ k < lo := by omega
  have h2' : ¬ hi < k := by omega
  go_enter Try.func25, Try.ntmps25
  go_wp2
  exact bodyPost_ret (v := .tuple #[rv a n c i 4, .slice none 0 0]) (by simp [results, Try.results25, go_sem, rv]) rfl ⟨none, 0, rfl, Bts.nil, ((Below.refl _ _).alloc (Nat.le_refl _) _).alloc (by simp) _, fun _ h => by cases h⟩

theorem Acc.set_ {w : World} {base c : Nat} {A : Option Addr} {l : List UInt8} (h : Acc w base A c l) {p : Addr} (hp : p.block < base) (u : Value) : Acc (w.setCell p u) base A c l := ownsRow_setCell_below h hp u

set_option maxRecDepth 100000 in
set_option maxHeartbeats 1000000 in
theorem take_ok (a : Option Addr) (n c i k : Nat) (l : List UInt8) (lo hi : Int) (w : World) (hB : Bts w w.heap.size a n l) (hn : n ≤ 4096) (h1 : lo ≤ (k : Int)) (h2 : (k : Int) ≤ hi) (h3 : i + k ≤ n) :
    Calls Try.prog 25 #[.agg #[.slice a n c, .int .i64 (i : Int), .int .i64 0], .int .i64 (k : Int), .int .i64 lo, .int .i64 hi] w (TakePost w a n c (i + k) 0 ((l.drop i).take k)) := by
  have h1' : ¬ (k : Int) < lo := by omega
  have h2' : ¬ hi < (k : Int) := by omega
  have h3' : ¬ (n : Int) - (i : Int) < (k : Int) := by omega
  have HB := Lib.hid hB
  have HL := Lib.hid hB.1
  clear hB
  go_enter Try.func25, Try.ntmps25
  go_wp2
  obtain ⟨W0, hW0⟩ : ∃ W0, W0 = (w.alloc (.cells #[.slice a n c, .int .i64 (i : Int), .int .i64 0] 28)).alloc (.cells #[.slice none 0 0, .int .i64 0, .int .i64 0] 28) := ⟨_, rfl⟩
  rw [← hW0]
  have hz : W0.heap.size = w.heap.size + 2 := by rw [hW0]; simp
  have hr0 : W0.heap[w.heap.size]? = some (.cells #[.slice a n c, .int .i64 (i : Int), .int .i64 0] 28 (0, 0)) := by
    rw [hW0, Below.heap_alloc _ _ _ (by simp)]; exact heap_alloc_new w _
  have hr1 : W0.heap[w.heap.size + 1]? = some (.cells #[.slice none 0 0, .int .i64 0, .int .i64 0] 28 (0, 0)) := by
    rw [hW0]
    have := heap_alloc_new (w.alloc (.cells #[.slice a n c, .int .i64 (i : Int), .int .i64 0] 28)) (.cells #[.slice none 0 0, .int .i64 0, .int .i64 0] 28)
    simpa using this
  have hb0 : Below w.heap.size w W0 := by rw [hW0]; exact ((Below.refl _ _).alloc (Nat.le_refl _) _).alloc (by simp) _
  have HZ := Lib.hid hz
  have HR0 := Lib.hid hr0
  have HR1 := Lib.hid hr1
  have HB0 := Lib.hid hb0
  clear hz hr0 hr1 hb0 hW0
  have hrow : ∀ W, Below (w.heap.size + 2) W0 W → W.heap[w.heap.size]? = some (.cells #[.slice a n c, .int .i64 (i : Int), .int .i64 0] 28 (0, 0)) ∧ W.heap[w.heap.size + 1]? = some (.cells #[.slice none 0 0, .int .i64 0, .int .i64 0] 28 (0, 0)) :=
    fun W h => ⟨(h.block _ (by omega)).trans HR0.out, (h.block _ (by omega)).trans HR1.out⟩
  have HROW := Lib.hid hrow
  clear hrow
  go_loopw [10, 11] (fun s t W => ∃ j c2 : Nat, ∃ A : Option Addr, j ≤ k ∧ t = .int .i64 (j : Int) ∧ s = .slice A j c2 ∧ Acc W (w.heap.size + 2) A c2 ((l.drop i).take j) ∧ Below (w.heap.size + 2) W0 W) (fun _ t _ => k - (intOf t).toNat)
  case atStart => exact ⟨0, 0, none, Nat.zero_le _, rfl, rfl, Acc.nil _ _, Below.refl _ _⟩
  case round =>
    obtain ⟨j, c2, A, hj, rfl, rfl, hacc, hbel⟩ := hrel
    have hlen := HL.out
    have htl : ((l.drop i).take j).length = j := by simp; omega
    obtain ⟨q0, q1⟩ := HROW.out wr hbel
    by_cases hlt : j < k
    · have hsrc := HB.out.below (HB0.out.trans (hbel.mono (by omega)))
      obtain ⟨b, o, rfl, hbB, hc⟩ := hsrc.2 (by omega)
      have hcell := hc (i + j) (by omega)
      unfold bv at hcell
      have x0 : wr.cell? ⟨w.heap.size, 0, none⟩ = some (.slice (some ⟨b, o, none⟩) n c) := (cell_of_row wr _ 0 _ _ _ q0).trans rfl
      have x1 : wr.cell? ⟨w.heap.size, 1, none⟩ = some (.int .i64 (i : Int)) := (cell_of_row wr _ 1 _ _ _ q0).trans rfl
      obtain ⟨A', c', W', happ, hacc', hg⟩ := acc_push hacc l[i + j] (by rw [← HZ.out]; exact hbel.size) (by rw [htl]; omega) 22
      rw [htl] at happ
      have hacc2 : Acc W' (w.heap.size + 2) A' c' ((l.drop i).take (j + 1)) := by
        rw [take_snoc (l.drop i) j (by simp; omega), List.getElem_drop]; exact hacc'
      have hbel2 : Below (w.heap.size + 2) W0 W' := hbel.grown hg (by rw [← HZ.out]; exact hbel.size) (fun _ hk => (hacc.ge hk).1)
      have HA2 := Lib.hid hacc2
      have HB2 := Lib.hid hbel2
      have HR := Lib.hid happ
      clear hacc hacc' hacc2 hbel hbel2 hg happ hc hsrc q0 q1
      generalize l[i + j].toNat = X at *
      clear htl hlen
      go_wp2_with (at_builtin; refine step_append rfl rfl rfl rfl HR.out ?_)
      exact ⟨⟨j + 1, c', A', by omega, by go_num, rfl, HA2.out, HB2.out⟩, by simp [intOf]; omega⟩
    · have hjk : j = k := by omega
      subst hjk
      have x0 : wr.cell? ⟨w.heap.size, 0, none⟩ = some (.slice a n c) := (cell_of_row wr _ 0 _ _ _ q0).trans rfl
      have x1 : wr.cell? ⟨w.heap.size, 1, none⟩ = some (.int .i64 (i : Int)) := (cell_of_row wr _ 1 _ _ _ q0).trans rfl
      have x2 : wr.cell? ⟨w.heap.size, 2, none⟩ = some (.int .i64 0) := (cell_of_row wr _ 2 _ _ _ q0).trans rfl
      have f1 : wr.frozen? ⟨w.heap.size, 1, none⟩ = false := by simp [World.frozen?, q0]
      have y0 : wr.cell? ⟨w.heap.size + 1, 0, none⟩ = some (.slice none 0 0) := (cell_of_row wr _ 0 _ _ _ q1).trans rfl
      have y1 : wr.cell? ⟨w.heap.size + 1, 1, none⟩ = some (.int .i64 0) := (cell_of_row wr _ 1 _ _ _ q1).trans rfl
      have y2 : wr.cell? ⟨w.heap.size + 1, 2, none⟩ = some (.int .i64 0) := (cell_of_row wr _ 2 _ _ _ q1).trans rfl
      have g0 : wr.frozen? ⟨w.heap.size + 1, 0, none⟩ = false := by simp [World.frozen?, q1]
      have g1 : wr.frozen? ⟨w.heap.size + 1, 1, none⟩ = false := by simp [World.frozen?, q1]
      have g2 : wr.frozen? ⟨w.heap.size + 1, 2, none⟩ = false := by simp [World.frozen?, q1]
      have HA := Lib.hid hacc
      have HBE := Lib.hid hbel
      have HTL := Lib.hid htl
      clear hacc hbel htl hlen q0 q1
      go_wp2
      have e1 : ((i : Int) + (j : Int)) = ((i + j : Nat) : Int) := by omega
      rw [e1]
      refine bodyPost_ret (v := .tuple #[rv a n c (i + j) 0, .slice A j c2]) (by simp [results, Try.results25, go_sem, rv, y0, y1, y2]) rfl ⟨A, c2, by rw [HTL.out], ?_, ?_, fun b h => by have := (HA.out.ge h).1; omega⟩
      · exact ((((HA.out.set_ (p := ⟨w.heap.size, 1, none⟩) (by show w.heap.size < _; omega) _).set_ (p := ⟨w.heap.size + 1, 0, none⟩) (by show w.heap.size + 1 < _; omega) _).set_ (p := ⟨w.heap.size + 1, 1, none⟩) (by show w.heap.size + 1 < _; omega) _).set_ (p := ⟨w.heap.size + 1, 2, none⟩) (by show w.heap.size + 1 < _; omega) _).bts
      · have hb := HB0.out.trans (HBE.out.mono (by omega))
        exact (((hb.setCell (p := ⟨w.heap.size, 1, none⟩) (by show w.heap.size ≤ w.heap.size; omega) _).setCell (p := ⟨w.heap.size + 1, 0, none⟩) (by show w.heap.size ≤ w.heap.size + 1; omega) _).setCell (p := ⟨w.heap.size + 1, 1, none⟩) (by show w.heap.size ≤ w.heap.size + 1; omega) _).setCell (p := ⟨w.heap.size + 1, 2, none⟩) (by show w.heap.size ≤ w.heap.size + 1; omega) _

/-- What 'take' answers, whatever is asked. -/
def tErr (n i : Nat) (err k lo hi : Int) : Int := errOf err (decide (lo ≤ k) && decide (k ≤ hi)) k ((n : Int) - (i : Int))

theorem take_any (a : Option Addr) (n c i : Nat) (l : List UInt8) (err k lo hi : Int) (w : World) (hB : Bts w w.heap.size a n l) (hn : n ≤ 4096) (hi' : i ≤ n) (h0 : 0 ≤ lo) :
    Calls Try.prog 25 #[.agg #[.slice a n c, .int .i64 (i : Int), .int .i64 err], .int .i64 k, .int .i64 lo, .int .i64 hi] w
      (TakePost w a n c (if tErr n i err k lo hi = 0 then i + k.toNat else i) (tErr n i err k lo hi) (if tErr n i err k lo hi = 0 then (l.drop i).take k.toNat else [])) := by
  by_cases he : err = 0
  · subst he
    by_cases hw : lo ≤ k ∧ k ≤ hi
    · by_cases hs : (n : Int) - (i : Int) < k
      · have hv : tErr n i 0 k lo hi = 4 := by simp [tErr, errOf, hw.1, hw.2, hs]
        rw [hv, if_neg (by decide), if_neg (by decide)]
        exact take_short a n c i k lo hi w hn hi' hw.1 hw.2 hs
      · have hv : tErr n i 0 k lo hi = 0 := by simp [tErr, errOf, hw.1, hw.2]; omega
        rw [hv, if_pos rfl, if_pos rfl]
        have hx := take_ok a n c i k.toNat l lo hi w hB hn (by omega) (by omega) (by omega)
        rwa [Int.toNat_of_nonneg (by omega)] at hx
    · have hv : tErr n i 0 k lo hi = 2 := by
        have : (decide (lo ≤ k) && decide (k ≤ hi)) = false := by
          rw [← Bool.decide_and]; exact decide_eq_false hw
        simp [tErr, errOf, this]
      rw [hv, if_neg (by decide), if_neg (by decide)]
      exact take_arg a n c i k lo hi w (by omega)
  · have hv : tErr n i err k lo hi = err := errOf_keepsC he
    rw [hv, if_neg he, if_neg he]
    exact take_err a n c i err k lo hi w he
end Go.Proofs.Ytkjkgjkjjiejaaa
