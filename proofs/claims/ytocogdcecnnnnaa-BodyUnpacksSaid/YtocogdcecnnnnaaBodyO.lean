/-
  Contract of layer 7's alive. No condition.
-/
import Derived.Test.YtocogdcecnnnnaaBodyL
namespace Go.Proofs.Ytocogdcecnnnnaa
open Go.RowKit

theorem PackPost.yes {w w' : World} {x : PIt} {e : Ending} {o : Int × Int × List UInt8} (h : PackPost w x e w') (hp : pack x = some o) :
    ∃ A c, e = .returned (.tuple #[.agg #[.int .i64 o.1, .int .i64 o.2.1, .slice A o.2.2.length c], .int .i64 0]) ∧ Acc w' w.heap.size A c o.2.2 ∧ Below w.heap.size w w' := by
  obtain ⟨hb, ⟨hn, _⟩ | ⟨o', A, c, hp', he, ha⟩⟩ := h
  · rw [hp] at hn; cases hn
  · rw [hp] at hp'
    injection hp' with hp'
    subst hp'
    exact ⟨A, c, he, ha, hb⟩
theorem PackPost.no {w w' : World} {x : PIt} {e : Ending} (h : PackPost w x e w') (hp : pack x = none) :
    e = .returned (.tuple #[.agg #[.int .i64 0, .int .i64 0, .slice none 0 0], .int .i64 2]) ∧ Below w.heap.size w w' := by
  obtain ⟨hb, ⟨_, he⟩ | ⟨o', A, c, hp', _⟩⟩ := h
  · exact ⟨he, hb⟩
  · rw [hp] at hp'; cases hp'
theorem UnpackPost.yes {w w' : World} {o : Int × Int × List UInt8} {e : Ending} {x : PIt} (h : UnpackPost w o e w') (hp : unpack o = some x) :
    ∃ y : It, y.val = x ∧ y.ln = y.l.length ∧ e = .returned (.tuple #[.agg y.cells.toArray, .int .i64 0]) ∧ AccI w' w.heap.size y.la y.lc y.l ∧ Below w.heap.size w w' := by
  obtain ⟨hb, ⟨hn, _⟩ | ⟨y, hp', hl, he, ha⟩⟩ := h
  · rw [hp] at hn; cases hn
  · rw [hp] at hp'
    injection hp' with hp'
    exact ⟨y, hp'.symm, hl, he, ha, hb⟩
theorem UnpackPost.no {w w' : World} {o : Int × Int × List UInt8} {e : Ending} (h : UnpackPost w o e w') (hp : unpack o = none) :
    e = .returned (.tuple #[.agg #[.int .i64 0, .int .i64 0, .int .i64 0, .int .i64 0, .int .u64 0, .slice none 0 0, .int .u64 0, .int .i64 0, .int .i64 0, .int .u32 0, .int .u32 0, .int .u32 0], .int .i64 5]) ∧ Below w.heap.size w w' := by
  obtain ⟨hb, ⟨_, he⟩ | ⟨y, hp', _⟩⟩ := h
  · exact ⟨he, hb⟩
  · rw [hp] at hp'; cases hp'

theorem know_one : pack ⟨1, 3, 258, 1, 0, [], Wnt.zero⟩ = some (1, 7, [10, 0, 0, 3, 0, 0, 1, 2, 10, 0, 0, 1]) := by decide +kernel
theorem know_two : unpack (8, 1, [0, 0, 0, 18]) = some ⟨8, 0, 0, 0, 0, [], Wnt.zero⟩ := by rfl
theorem know_three : pack ⟨3, 16, 0, 0, 0, [], Wnt.zero⟩ = none := by decide +kernel
theorem fine_plain (cl a b c : Int) (w : World) (B : Nat) : Fine w B ⟨cl, a, b, c, 0, none, 0, 0, [], Wnt.zero⟩ := ⟨Row.nil, Nat.zero_le _, by simp, by simp [Wnt.zero], by simp [Wnt.zero], by simp [Wnt.zero]⟩

set_option maxRecDepth 100000 in
set_option maxHeartbeats 1600000 in
theorem alive7_calls (w : World) : Calls Try.prog 8 #[] w (SamePost w true) := by
  have hc1 : Calls Try.prog 9 #[.agg #[.int .i64 1, .int .i64 3, .int .i64 258, .int .i64 1, .int .u64 0, .slice none 0 0, .int .u64 0, .int .i64 0, .int .i64 0, .int .u32 0, .int .u32 0, .int .u32 0]] w (PackPost w ⟨1, 3, 258, 1, 0, [], Wnt.zero⟩) := pack_calls ⟨1, 3, 258, 1, 0, none, 0, 0, [], Wnt.zero⟩ w (fine_plain _ _ _ _ _ _)
  have hc3 : ∀ w : World, Calls Try.prog 9 #[.agg #[.int .i64 3, .int .i64 16, .int .i64 0, .int .i64 0, .int .u64 0, .slice none 0 0, .int .u64 0, .int .i64 0, .int .i64 0, .int .u32 0, .int .u32 0, .int .u32 0]] w (PackPost w ⟨3, 16, 0, 0, 0, [], Wnt.zero⟩) := fun w => pack_calls ⟨3, 16, 0, 0, 0, none, 0, 0, [], Wnt.zero⟩ w (fine_plain _ _ _ _ _ _)
  go_enter Try.func8, Try.ntmps8
  go_wp2_with fail
  ((with_reducible refine hc1.mono ?_))
  intro e W1 hp
  obtain ⟨A, c, rfl, ha, hb⟩ := hp.yes know_one
  clear hp hc1
  have H1 := Lib.hid (Blk.new W1 32 [.int .i64 1, .int .i64 7, .slice A 12 c])
  have A1 := Lib.hid (ha.alloc (.cells (([.int .i64 1, .int .i64 7, .slice A 12 c] : List Value).toArray) 32))
  have B1 := Lib.hid (bel_new hb (.cells (([.int .i64 1, .int .i64 7, .slice A 12 c] : List Value).toArray) 32))
  clear ha hb
  simp only [List.length_cons, List.length_nil]
  go_upto_region 2 with fail
  revert H1 A1 B1
  generalize World.alloc W1 _ = W2
  intro H1 A1 B1
  obtain ⟨q, hq⟩ : ∃ q, q = W1.heap.size := ⟨_, rfl⟩
  rw [← hq] at H1 ⊢
  clear hq
  have o2 : Own (W2.alloc (.cells #[.int .u8 0, .int .u8 0, .int .u8 0, .int .u8 18] 5)) W2.heap.size [0, 0, 0, 18] := heap_alloc_new W2 _
  have hc2 := unpack_calls 8 1 (some ⟨W2.heap.size, 0, none⟩) 4 4 [0, 0, 0, 18] _ (o2.bts (by simp)) (by omega)
  have b2 := bel_new (Below.refl W2.heap.size W2) (.cells #[.int .u8 0, .int .u8 0, .int .u8 0, .int .u8 18] 5)
  have B2 := Lib.hid b2
  clear o2 b2
  go_wp2_with fail
  ((with_reducible refine hc2.mono ?_))
  intro e W3 hp
  obtain ⟨y, hy, hyn, rfl, _, hb⟩ := hp.yes know_two
  clear hp hc2
  have hb2 := bel_more B2.out (by simp) hb
  obtain ⟨ycl, ya, yb, yc, yu, yla, yln, ylc, yl, ybw, ysu, yho, yan, yal, yno⟩ := y
  simp only [It.val, PIt.mk.injEq, Wnt.zero, Wnt.mk.injEq] at hy
  obtain ⟨rfl, rfl, rfl, rfl, rfl, rfl, rfl, rfl, rfl, rfl, rfl, rfl⟩ := hy
  have ecell : (It.mk 8 0 0 0 0 yla yln ylc [] ⟨0, 0, 0, 0, 0, 0⟩).cells = [.int .i64 8, .int .i64 0, .int .i64 0, .int .i64 0, .int .u64 0, .slice yla yln ylc, .int .u64 0, .int .i64 0, .int .i64 0, .int .u32 0, .int .u32 0, .int .u32 0] := rfl
  rw [ecell]
  have H3 := Lib.hid (Blk.new W3 36 [.int .i64 8, .int .i64 0, .int .i64 0, .int .i64 0, .int .u64 0, .slice yla yln ylc, .int .u64 0, .int .i64 0, .int .i64 0, .int .u32 0, .int .u32 0, .int .u32 0])
  have b3 := bel_new hb2 (.cells ([.int .i64 8, .int .i64 0, .int .i64 0, .int .i64 0, .int .u64 0, .slice yla yln ylc, .int .u64 0, .int .i64 0, .int .i64 0, .int .u32 0, .int .u32 0, .int .u32 0] : List Value).toArray 36)
  have B3 := Lib.hid b3
  clear hb hb2 b3 hyn ecell
  go_upto_region 3 with fail
  revert H3 B3
  generalize World.alloc W3 _ = W4
  intro H3 B3
  obtain ⟨q2, hq⟩ : ∃ q, q = W3.heap.size := ⟨_, rfl⟩
  rw [← hq] at H3 ⊢
  clear hq
  go_wp2_with fail
  ((with_reducible refine (hc3 _).mono ?_))
  intro e W5 hp
  obtain ⟨rfl, hb⟩ := hp.no know_three
  clear hp hc3
  have H5 := Lib.hid (((H1.out.below B3.out).below hb).alloc (.cells (([.int .i64 0, .int .i64 0, .slice none 0 0] : List Value).toArray) 32))
  have HY5 := Lib.hid ((H3.out.below hb).alloc (.cells (([.int .i64 0, .int .i64 0, .slice none 0 0] : List Value).toArray) 32))
  have A5 := Lib.hid (((A1.out.bel B3.out).bel hb).alloc (.cells (([.int .i64 0, .int .i64 0, .slice none 0 0] : List Value).toArray) 32))
  have B5 := Lib.hid (bel_new (bel_more (bel_more B1.out (Nat.le_refl _) B3.out) (Nat.le_refl _) hb) (.cells (([.int .i64 0, .int .i64 0, .slice none 0 0] : List Value).toArray) 32))
  clear hb H1 H3 A1 B1 B2 B3
  go_upto_region 4 with fail
  revert H5 HY5 A5 B5
  generalize World.alloc W5 _ = W6
  intro H5 HY5 A5 B5
  have c1 := H5.out.cell 1
  have c2 := H5.out.cell 2
  have d0 := HY5.out.cell 0
  simp only [List.getElem?_cons_zero, List.getElem?_cons_succ] at c1 c2 d0
  have s1 := A5.out.bts.text (P := Try.prog) (c := c) 30 5 9 Try.underlying30 Try.underlying5 Try.underlying9
  simp only [List.length_cons, List.length_nil] at s1
  go_wp2
  go_ret
  exact ⟨rfl, B5.out⟩
end Go.Proofs.Ytocogdcecnnnnaa
