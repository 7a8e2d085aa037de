/-
  Contracts of package pool: Out and Copy, and slices of whole numbers that a call itself gathers. Condition: the pool is one that New or Copy made.
-/
import Derived.Test.YtclhpmmdcapboaaPoolA
namespace Go.Proofs.Ytclhpmmdcapboaa
open Go.RowKit Go.Maps

/-- A whole number's one cell. -/
def ei (x : Int) : List Value := [.int .i64 x]
theorem ei_length (x : Int) : (ei x).length = 1 := rfl
theorem ei_one (x : Int) : ∀ u ∈ ei x, u.oneCell' = true := by intro u hu; simp [ei] at hu; subst hu; rfl
theorem ei_flat (l : List Int) : l.flatMap ei = l.map (Value.int .i64) := by
  induction l with
  | nil => rfl
  | cons x l ih => rw [List.flatMap_cons, ih]; rfl
theorem infoInt : (Try.prog.info? 3).map (fun i => (i.zero, i.size, i.bytes)) = some (some (.int .i64 0), 1, 8) := by kernel_rfl

/-- Whole numbers that a call itself gathers. -/
def AccI (w : World) (base : Nat) (A : Option Addr) (c : Nat) (l : List Int) : Prop := AccR ei 1 w base 3 A c l

theorem acci_push {w : World} {base c : Nat} {A : Option Addr} {l : List Int} (h : AccI w base A c l) (x : Int) (hbase : base ≤ w.heap.size) (hlen : l.length ≤ 1099511627776) (ty : TypeId) :
    ∃ A' c' w', (Builtin.append_ #[27, 27] ty #[.slice A l.length c, .slice (some ⟨w.heap.size, 0, none⟩) 1 1]).run Try.prog (w.alloc (.cells #[.int .i64 x] 3)) = .ok (.slice A' (l.length + 1) c') w' ∧
      AccI w' base A' c' (l ++ [x]) ∧ w.grownBy w' (blk A) :=
  accr_push ei_length ei_one (by omega) h x Try.underlying27 infoInt rfl hbase (by omega) (by omega)

def OutPost (w : World) (s : List Int) (e : Ending) (w' : World) : Prop :=
  ∃ A c, e = .returned (.slice A s.length c) ∧ AccI w' w.heap.size A c s ∧ Below w.heap.size w w'

/-- What a sort leaves of such numbers. -/
theorem acci_sorted {w : World} {base c g n : Nat} {os : Array Obj} {l : List Int} (h : AccI w base (some ⟨g, 0, none⟩) c l) :
    AccI (Go.Sort.grow (Go.Sort.putRow (Value.int .i64) (Go.Sort.ahead w n) g 0 (l.mergeSort fun x y => decide (x ≤ y)).toArray) os) base (some ⟨g, 0, none⟩) c (l.mergeSort fun x y => decide (x ≤ y)) := by
  rcases h.2 with ⟨hv, _⟩ | ⟨g', cap, cur, hv, hbase, hb, h1, h2, h3, h4⟩
  · cases hv
  injection hv with e1 e2 e3
  injection e1 with e1
  injection e1 with e1
  subst e1
  subst e3
  have := ownsRow_sortedI (n := n) (os := os) (ss := l) (ts := l.mergeSort fun x y => decide (x ≤ y)) (by simp) hbase hb h1 h2 (by simpa using h3)
  unfold AccI AccR
  rw [ei_flat]
  simpa using this

theorem acci_holds {w : World} {base c g : Nat} {l : List Int} (h : AccI w base (some ⟨g, 0, none⟩) c l) : Go.Sort.Holds (Value.int .i64) w g 0 l.toArray := by
  rcases h.2 with ⟨hv, _⟩ | ⟨g', cap, cur, hv, hbase, hb, h1, h2, h3, h4⟩
  · cases hv
  injection hv with e1 e2 e3
  injection e1 with e1
  injection e1 with e1
  subst e1
  exact holds_of_blockI hb (by rw [ei_flat] at h4; simpa using h4)

section
variable {w : World} {pb mb : Nat} {low next high : Int} {s : List Int}

set_option maxHeartbeats 1600000 in
theorem out_calls (h : Pool w pb mb low next high s) : Calls Try.prog 16 #[.pointer (some ⟨pb, 0, none⟩)] w (OutPost w s) := by
  have c2 := h.c2
  have hsm := h.small
  have hml := h.lt.2
  obtain ⟨D, ho, hh⟩ := h.2.1.own
  have HO := Lib.hid ho
  have HH := Lib.hid hh
  have HR := Lib.hid h.2.1.1
  have HSZ := Lib.hid (size_labels ho h.2.1.1 hh)
  have H := Lib.hid h
  clear h ho hh
  go_enter Try.func16, Try.ntmps16
  go_wp2_with fail
  ((with_reducible refine (made_calls H.out).mono ?_))
  rintro e w' ⟨rfl, rfl⟩
  go_wp2_with (at_range; refine wpList_range_own _ rfl _ 49 rfl 3 56 key_law Try.underlying49 _ mb s.length D rfl HO.out ?_; intro w0 hrg0 hg0 hs0)
  go_frame
  go_loopw [3] (fun a wr => ∃ (left : Lit → Bool) (cnt : Nat) (ss : List Int) (A : Option Addr) (c : Nat), a = .slice A ss.length c ∧ wr.ranges Try.prog 3 (unitElem (H := Unit)) mb w'.heap.size s.length D left cnt ∧ Met D left ss ∧ AccI wr (w'.heap.size + 1) A c ss ∧ Below w'.heap.size w' wr ∧ ss.length + cnt ≤ s.length ∧ w'.heap.size + 1 ≤ wr.heap.size)
    (fun _ wr => wr.rangeLeft mb w'.heap.size)
  case atStart => exact ⟨_, _, [], none, 0, rfl, hrg0, Met.start D, AccR.nil _ _ _, (Below.refl _ _).grown hg0 (Nat.le_refl _) (fun j hj => by cases hj), by simp [HSZ.out], by omega⟩
  case round =>
    obtain ⟨left, cnt, ss, A, c, rfl, hrg, hM, hA, hB, hcn, hsz⟩ := hrel
    have HRG := Lib.hid hrg
    have HM := Lib.hid hM
    have HA := Lib.hid hA
    have HB := Lib.hid hB
    have HSZ2 := Lib.hid hsz
    have HC := Lib.hid hcn
    have HLE := Lib.hid hrg.left_eq
    clear hrg hM hA hB hsz hcn hg0 hs0 hrg0
    go_wp2_with (at_next; refine wpList_next_ranges _ rfl _ rfl 3 key_law unitElem (Value.int .i64) (fun _ : Unit => Value.agg #[]) (fun key kl hk => by obtain ⟨x, hx, _⟩ := Maps.keyOf_int_inv Try.underlying3 hk; exact ⟨x, hx⟩) (fun v y hv => ⟨(), (unitElem_inv hv).1⟩) mb w'.heap.size s.length D left cnt rfl HRG.out ?_ ?_)
    · intro hc0 hl0
      have hsort := HM.out.done hl0 HR.out HH.out
      have HS := Lib.hid hsort
      clear hsort
      rcases Nat.eq_zero_or_pos ss.length with h0 | h0
      · obtain rfl := List.eq_nil_of_length_eq_zero h0
        have hs0 : s = [] := by rw [← HS.out]; simp
        go_wp2_with fail
        ((with_reducible refine (Try.slices_Sort_int_none A c _).mono ?_))
        rintro e w2 ⟨rfl, rfl⟩
        go_wp2
        go_ret
        subst hs0
        exact ⟨A, c, rfl, HA.out.lower (by omega), HB.out⟩
      · obtain ⟨g, rfl, hgl⟩ : ∃ g, A = some ⟨g, 0, none⟩ ∧ g < wr.heap.size := by
          rcases HA.out.2 with ⟨_, h1⟩ | ⟨g, cap, cur, hv, _⟩
          · omega
          · injection hv with e1
            subst e1
            exact ⟨g, rfl, (AccR.ge HA.out rfl).2⟩
        go_wp2_with fail
        ((with_reducible refine (Try.slices_Sort_int g 0 c ss _ (acci_holds HA.out) hgl (by have := HC.out; omega)).mono ?_))
        rintro e w2 ⟨rfl, n2, os2, rfl⟩
        have A2 := Lib.hid (acci_sorted (n := n2) (os := os2) HA.out)
        have hge := (AccR.ge HA.out (x := g) rfl).1
        have B2 := Lib.hid (HB.out.grown (grownBy_sortedI (n := n2) (os := os2) (g := g) (ss.mergeSort fun x y => decide (x ≤ y)).toArray) HB.out.size (fun j hj => by cases hj; omega))
        have hll : ss.length = s.length := by rw [← HS.out]; simp
        rw [HS.out] at A2 B2 ⊢
        generalize Go.Sort.grow (Go.Sort.putRow (Value.int .i64) (Go.Sort.ahead wr n2) g 0 s.toArray) os2 = w2 at *
        rw [hll]
        go_wp2
        go_ret
        exact ⟨_, c, rfl, A2.out.lower (by omega), B2.out⟩
    · intro x u kl yd w2 cnt2 hkey hlk hv hat hrg2 hlt hg2 hs2 hen
      obtain ⟨x', ex, rfl, _⟩ := Maps.keyOf_int_inv Try.underlying3 hkey
      obtain rfl : x = x' := by injection ex
      have hne : ∀ y, blk A = some y → some w'.heap.size ≠ some y := fun y hy e => by have := (AccR.ge HA.out hy).1; injection e with e; omega
      have hA2 : AccI w2 (w'.heap.size + 1) A c ss := HA.out.kept hg2 hne
      have hsz2 : w'.heap.size + 1 ≤ w2.heap.size := by have := HSZ2.out; omega
      obtain ⟨A3, c3, w3, r3, a3, g3⟩ := acci_push hA2 x hsz2 (by have := HC.out; omega) 27
      have hrg3 := hrg2.kept g3 (fun e => by have := (AccR.ge hA2 e.symm).1; omega) (fun e => by have := (AccR.ge hA2 e.symm).1; omega)
      have hB3 := (HB.out.grown hg2 HB.out.size (fun j hj => by cases hj; omega)).grown g3 (Nat.le_trans HB.out.size hg2.size) (fun j hj => by have := (AccR.ge hA2 hj).1; omega)
      have R3 := Lib.hid r3
      have A3' := Lib.hid a3
      have M3 := Lib.hid (HM.out.step hlk hat)
      have RG3 := Lib.hid hrg3
      have B3 := Lib.hid hB3
      have S3 := Lib.hid (Nat.le_trans hsz2 g3.size)
      have LT := Lib.hid hlt
      clear r3 a3 hrg3 hB3 g3 hs2 hg2 hrg2 hat hlk hv hA2 hne hsz2 hkey ex hlt
      go_wp2_with (at_builtin; refine step_append rfl rfl rfl rfl R3.out ?_)
      go_roundw
      case rel => exact ⟨_, cnt2, ss ++ [x], A3, c3, by simp, RG3.out, M3.out, A3'.out, B3.out, by have := LT.out; have := HC.out; simp; omega, S3.out⟩
      case measure => rw [RG3.out.left_eq, HLE.out]; exact LT.out

def CopyPost (w : World) (low next high : Int) (s : List Int) (e : Ending) (w' : World) : Prop :=
  ∃ pb mb, e = .returned (.pointer (some ⟨pb, 0, none⟩)) ∧ Pool w' pb mb low next high s ∧ w.heap.size ≤ pb ∧ w.heap.size ≤ mb ∧ Below w.heap.size w w'

set_option maxHeartbeats 800000 in
theorem copy_calls (h : Pool w pb mb low next high s) : Calls Try.prog 20 #[.pointer (some ⟨pb, 0, none⟩)] w (CopyPost w low next high s) := by
  have hc := show w.cell? ⟨pb, 0, none⟩ = some (.int .i64 next) ∧ w.cell? ⟨pb, 1, none⟩ = some (.int .i64 high) ∧ w.cell? ⟨pb, 2, none⟩ = some (.map (some mb)) from ⟨h.c0, h.c1, h.c2⟩
  obtain ⟨D, ho, hh⟩ := h.2.1.own
  have HO := Lib.hid ho
  have HH := Lib.hid hh
  have HC := Lib.hid hc
  have H := Lib.hid h
  clear h ho hh hc
  go_enter Try.func20, Try.ntmps20
  go_wp2_with fail
  ((with_reducible refine (made_calls H.out).mono ?_))
  rintro e w' ⟨rfl, rfl⟩
  go_wp2_with fail
  refine region_seq (fun W => W.cell? ⟨pb, 0, none⟩ = some (.int .i64 next) ∧ W.cell? ⟨pb, 1, none⟩ = some (.int .i64 high) ∧ W.cell? ⟨pb, 2, none⟩ = some (.map (some mb)))
    [(0, true), (1, true), (2, true), (3, true), (4, true), (5, true), (6, true), (7, true), (8, true), (9, true), (10, true), (11, true), (12, false), (13, true), (14, false), (15, true)]
    (by kernel_rfl) (by kernel_rfl) (by kernel_rfl) (by kernel_rfl) (fun _ _ _ _ _ h => h) HC.out ?_
  repeat
    refine seq_pure (v := ?_) rfl (by rfl) (fun W hW => ?_) ?_
    rotate_left
    · obtain ⟨d0, d1, d2⟩ := hW
      go_simp
      try with_reducible rfl
    simp only [Act.put, List.setIfInBounds_toArray, List.set_cons_zero, List.set_cons_succ]
  refine seq_make rfl (by rfl) (fun K hK => ?_)
  go_simp
  ((with_reducible refine (Try.clone_calls 3 unitElem mb s.length D _ HO.out.drew).mono ?_))
  rintro e w2 ⟨rfl, o2, _, b2⟩
  have B2 := Lib.hid (below_of_drew b2)
  have O2 := Lib.hid o2
  clear b2 o2
  have hz : (w'.drew).heap.size = w'.heap.size := rfl
  rw [hz] at O2 ⊢
  go_simp
  refine hK _ _ (fun W => W.cell? ⟨pb, 0, none⟩ = some (.int .i64 next) ∧ W.cell? ⟨pb, 1, none⟩ = some (.int .i64 high) ∧ W.cell? ⟨pb, 2, none⟩ = some (.map (some mb))) (fun W h => h) ((fun hp : Pool w2 pb mb low next high s => ⟨hp.c0, hp.c1, hp.c2⟩) (H.out.below B2.out)) ?_
  clear hK K
  repeat
    refine seq_pure (v := ?_) rfl (by rfl) (fun W hW => ?_) ?_
    rotate_left
    · clear hW
      go_simp
      try with_reducible rfl
    simp only [Act.put, List.setIfInBounds_toArray, List.set_cons_zero, List.set_cons_succ]
  refine seq_make rfl (by rfl) (fun K hK => ?_)
  go_simp
  have P3 := Lib.hid ((H.out.below B2.out).below (bel_new (Below.refl w2.heap.size w2) (.cells #[.int .i64 next, .int .i64 high, .map (some w'.heap.size)] 51)))
  refine hK _ _ (fun W => W.cell? ⟨pb, 0, none⟩ = some (.int .i64 next) ∧ W.cell? ⟨pb, 1, none⟩ = some (.int .i64 high) ∧ W.cell? ⟨pb, 2, none⟩ = some (.map (some mb))) (fun W h => h) ⟨P3.out.c0, P3.out.c1, P3.out.c2⟩ ?_
  clear hK K
  repeat
    refine seq_pure (v := ?_) rfl (by rfl) (fun W hW => ?_) ?_
    rotate_left
    · clear hW
      go_simp
      try with_reducible rfl
    simp only [Act.put, List.setIfInBounds_toArray, List.set_cons_zero, List.set_cons_succ]
  refine seq_done ?_
  go_wp2
  go_ret
  have hq := heap_alloc_new w2 (.cells #[.int .i64 next, .int .i64 high, .map (some w'.heap.size)] 51)
  have hlt := O2.out.lt
  exact ⟨w2.heap.size, w'.heap.size, rfl, ⟨hq, (Labels.of H.out.2.1.1 O2.out HH.out).same (Below.heap_alloc _ _ _ hlt), H.out.2.2⟩, B2.out.size, Nat.le_refl _, bel_new B2.out _⟩
end
end Go.Proofs.Ytclhpmmdcapboaa
