/-
  Contracts of package queue: a queue's items in memory, and items' own Push and Pop. Condition: at most 2^40 items.
-/
import Derived.Test.YtnjgffhhalaknaaQueueB
import Derived.Test.YtnjgffhhalaknaaMapI
namespace Go.Proofs.Ytnjgffhhalaknaa
open Go.RowKit

/-- One more, and where the slice lies then. -/
theorem accr_push_lies {P : Program} {α : Type} {enc : α → List Value} {k : Nat} {w : World} {base c : Nat} {T : TypeId} {A : Option Addr} {l : List α} (hk : ∀ x, (enc x).length = k) (h1 : ∀ x, ∀ u ∈ enc x, u.oneCell' = true) (hk0 : 0 < k) (h : AccR enc k w base T A c l) (x : α)
    {ST ty : TypeId} {z : Value} {bytes : Nat} (ht : P.underlying ST = some (.slice T)) (hinfo : (P.info? T).map (fun i => (i.zero, i.size, i.bytes)) = some (some z, k, bytes)) (hzs : z.cells.size = k)
    (hbase : base ≤ w.heap.size) (hlen : (l.length + 1) * bytes ≤ 140737488355328) (hml : l.length + 1 ≤ 140737488355328) :
    ∃ A' c' w', (Builtin.append_ #[ST, ST] ty #[.slice A l.length c, .slice (some ⟨w.heap.size, 0, none⟩) 1 1]).run P (w.alloc (.cells (enc x).toArray T)) = .ok (.slice A' (l.length + 1) c') w' ∧
      AccR enc k w' base T A' c' (l ++ [x]) ∧ w.grownBy w' (blk A) ∧ (blk A' = blk A ∨ blk A' = some (w.heap.size + 1)) := by
  have hs : Row enc (w.alloc (.cells (enc x).toArray T)) (w.heap.size + 1) (some ⟨w.heap.size, 0, none⟩) 1 [x] := by
    refine ⟨rfl, fun _ => ⟨w.heap.size, 0, rfl, by omega, fun i hi => ?_⟩⟩
    have hi' : i < (enc x).length := by simpa using hi
    rw [cell_of_row _ _ _ _ _ _ (heap_alloc_new w _)]
    simp [hi']
  obtain ⟨A', c', w', r1, r2, r3, r4⟩ := accr_append (P := P) hk h1 hk0 (h.alloc _) (cc := 1) hs (ty := ty) ht hinfo hzs (by simp; omega) hlen hml
  refine ⟨A', c', w', r1, r2, ⟨r3.os, r3.tape, r3.output, Nat.le_trans (by simp) r3.size, fun i hi hne => (r3.block i (by simp; omega) hne).trans (Below.heap_alloc _ _ _ hi)⟩, ?_⟩
  simpa using r4

/-- The items of a queue as they lie in memory: what is pointed to holds a slice of them. -/
structure Hpl (w : World) (base p g c n : Nat) (f : Nat → Itm) : Prop where
  head : Blk w p 56 [.slice (some ⟨g, 0, none⟩) n c]
  row : Irow w base g c n f
  ge : base ≤ p
  ne : p ≠ g
theorem infoItem3 : (Try.prog.info? 25).map (fun i => (i.zero, i.size, i.bytes)) = some (some (.agg #[.int .i64 0, .int .i64 0, .int .i64 0]), 3, 24) := by kernel_rfl
theorem run_typeAssert_item (xT : TypeId) (v : Value) (w : World) : (Instr.typeAssert (.iface 25 v) xT 25 false).run Try.prog w = .ok v w := by
  simp [Instr.typeAssert, run_underlying Try.underlying25, go_sem, Result.andThen]

section
variable {w w' : World} {base p g c n : Nat} {f : Nat → Itm}
theorem Hpl.cell (h : Hpl w base p g c n f) : w.cell? ⟨p, 0, none⟩ = some (.slice (some ⟨g, 0, none⟩) n c) := h.head.cell 0
theorem Hpl.free (h : Hpl w base p g c n f) : w.frozen? ⟨p, 0, none⟩ = false := h.head.free 0
theorem Hpl.bel (h : Hpl w base p g c n f) (hb : Below w.heap.size w w') : Hpl w' base p g c n f := ⟨h.head.below hb, h.row.bel hb, h.ge, h.ne⟩
theorem Hpl.drew (h : Hpl w base p g c n f) : Hpl w.drew base p g c n f := ⟨h.head.drew, h.row.drew, h.ge, h.ne⟩

/-- What items' Push leaves. -/
def IPushPost (w : World) (base p g n : Nat) (f : Nat → Itm) (x : Itm) (e : Ending) (w' : World) : Prop :=
  e = .returned (.tuple #[]) ∧ ∃ g' c', Hpl w' base p g' c' (n + 1) (iupd f n x) ∧ Turn [p, g] w w' ∧ (g' = g ∨ w.heap.size ≤ g')
theorem ipush_calls (h : Hpl w base p g c n f) (x : Itm) (hn : n ≤ 1099511627776) (hb : base ≤ w.heap.size) :
    Calls Try.prog 46 #[.pointer (some ⟨p, 0, none⟩), .iface 25 (.agg (itL x).toArray)] w (IPushPost w base p g n f x) := by
  have H := Lib.hid h
  have HN := Lib.hid hn
  have HB := Lib.hid hb
  have ta := run_typeAssert_item
  obtain ⟨A5, c5, w5, r5, a5, g5, l5⟩ := accr_push_lies (P := Try.prog) itL_length itL_one (by omega) (AccR.drew h.row) x (ty := 56) Try.underlying56 infoItem3 rfl (show base ≤ w.drew.heap.size from hb) (by rw [hls_length]; omega) (by rw [hls_length]; omega)
  rw [hls_length] at r5
  have R5 := Lib.hid (show (Builtin.append_ #[56, 56] 56 #[.slice (some ⟨g, 0, none⟩) n c, .slice (some ⟨w.heap.size, 0, none⟩) 1 1]).run Try.prog (w.alloc (.cells #[.int .i64 x.cost, .int .i64 x.hops, .int .i64 x.node] 25)).drew = .ok (.slice A5 (n + 1) c5) w5 from r5)
  have G5 := Lib.hid (show w.grownBy w5 (some g) from ⟨g5.os, g5.tape, g5.output, g5.size, g5.block⟩)
  have hls1 : hls n f ++ [x] = hls (n + 1) (iupd f n x) := by
    rw [hls_snoc]
    congr 1
    · exact hls_congr (fun k hk => by unfold iupd; rw [if_neg (by omega)])
    · simp [iupd]
  rw [hls1] at a5
  obtain ⟨g', rfl⟩ : ∃ g', A5 = some ⟨g', 0, none⟩ := by
    rcases a5.2 with ⟨_, h0⟩ | ⟨g', cap, cur, hv, _⟩
    · rw [hls_length] at h0; omega
    · injection hv with e; exact ⟨g', e⟩
  have A5 := Lib.hid (show Irow w5 base g' c5 (n + 1) (iupd f n x) from a5)
  have hl5 : g' = g ∨ g' = w.heap.size + 1 := by
    rcases l5 with e | e
    · left; simpa [blk] using e
    · right; simpa [blk] using e
  have L5 := Lib.hid hl5
  have hp5 : Blk w5 p 56 [.slice (some ⟨g, 0, none⟩) n c] := h.head.same (g5.block p h.head.lt (by simp [blk]; exact h.ne))
  have P5 := Lib.hid hp5
  clear h hn hb r5 a5 g5 l5 hls1 hl5 hp5
  have e0 : (Value.agg (itL x).toArray) = .agg #[.int .i64 x.cost, .int .i64 x.hops, .int .i64 x.node] := rfl
  rw [e0]
  clear e0
  go_enter Try.func46, Try.ntmps46
  go_wp2_with fail
  refine region_way (fun _ => True) (.step 0 true (.step 1 true (.step 2 true (.step 4 true (.step 5 true (.both 3 6 (.step 6 false (.step 7 false (.step 8 true (.step 9 false .done)))) (.step 3 false (.step 7 false (.step 8 true (.step 9 false .done))))))))))
    (by kernel_rfl) (by kernel_rfl) (by kernel_rfl) (by kernel_rfl) (fun _ _ _ _ _ h => h) trivial ?_
  repeat
    refine way_pure (v := ?_) rfl (by rfl) (fun W _ => ?_) ?_
    rotate_left
    · go_simp
      try with_reducible rfl
    simp only [Act.put, List.setIfInBounds_toArray, List.set_cons_zero, List.set_cons_succ]
  refine way_both rfl (by rfl) rfl (by rfl) (fun K hK => ?_) (fun K hK => ?_)
  have hc := H.out.cell
  go_simp
  refine hK _ _ (fun _ => True) (fun _ _ => trivial) trivial ?_
  clear hK K hc
  refine way_make rfl (by rfl) (fun K hK => ?_)
  go_simp
  refine hK _ _ (fun _ => True) (fun _ _ => trivial) trivial ?_
  clear hK K
  refine way_make rfl (by rfl) (fun K hK => ?_)
  refine op_append rfl rfl rfl R5.out ?_
  refine hK _ _ (fun _ => True) (fun _ _ => trivial) trivial ?_
  clear hK K
  rotate_left
  go_simp
  refine hK _ _ (fun _ => True) (fun _ _ => trivial) trivial ?_
  clear hK K
  refine way_make rfl (by rfl) (fun K hK => ?_)
  have hc : (w.alloc (.cells #[.int .i64 x.cost, .int .i64 x.hops, .int .i64 x.node] 25)).cell? ⟨p, 0, none⟩ = some (.slice (some ⟨g, 0, none⟩) n c) := (H.out.head.alloc (.cells #[.int .i64 x.cost, .int .i64 x.hops, .int .i64 x.node] 25)).cell 0
  go_simp
  refine hK _ _ (fun _ => True) (fun _ _ => trivial) trivial ?_
  clear hK K hc
  refine way_make rfl (by rfl) (fun K hK => ?_)
  refine op_append rfl rfl rfl R5.out ?_
  refine hK _ _ (fun _ => True) (fun _ _ => trivial) trivial ?_
  clear hK K
  all_goals
    refine way_pure (v := ?_) rfl (by rfl) (fun W _ => ?_) ?_
    rotate_left
    · go_simp
      try with_reducible rfl
    simp only [Act.put, List.setIfInBounds_toArray, List.set_cons_zero, List.set_cons_succ]
    refine way_make rfl (by rfl) (fun K hK => ?_)
    have f5 := P5.out.free 0
    have c5 : w5.cell? ⟨p, 0, none⟩ = some (.slice (some ⟨g, 0, none⟩) n c) := P5.out.cell 0
    go_simp
    refine hK _ _ (fun _ => True) (fun _ _ => trivial) trivial ?_
    clear hK K f5 c5
    refine way_done ?_
    have n5 : g' ≠ p := by
      have h1 := H.out.ne
      have h2 := H.out.head.lt
      have h3 := L5.out
      omega
    have gs : w5.grownBy (w5.setCell ⟨p, 0, none⟩ (.slice (some ⟨g', 0, none⟩) (n + 1) c5)) (some p) := ⟨rfl, rfl, rfl, by simp, fun k _ hk => heap_setCell_other w5 ⟨p, 0, none⟩ k _ (fun e => hk (by simp [e]))⟩
    have d6 := Lib.hid (show Blk (w5.setCell ⟨p, 0, none⟩ (.slice (some ⟨g', 0, none⟩) (n + 1) c5)) p 56 [.slice (some ⟨g', 0, none⟩) (n + 1) c5] from P5.out.set 0 (.slice (some ⟨g', 0, none⟩) (n + 1) c5))
    have r6 := Lib.hid (show Irow (w5.setCell ⟨p, 0, none⟩ (.slice (some ⟨g', 0, none⟩) (n + 1) c5)) base g' c5 (n + 1) (iupd f n x) from AccR.kept A5.out gs (fun y hy e => n5 (by simp [blk] at hy; injection e with e; omega)))
    have t6 := Lib.hid ((Turn.of_grown G5.out (S := [p, g]) (by simp)).trans (Turn.of_grown gs (S := [p, g]) (by simp)))
    generalize w5.setCell ⟨p, 0, none⟩ (.slice (some ⟨g', 0, none⟩) (n + 1) c5) = w6 at *
    clear gs
    go_wp2
    go_end0
    exact ⟨rfl, g', c5, ⟨d6.out, r6.out, H.out.ge, fun e => n5 e.symm⟩, t6.out, by have := L5.out; omega⟩

/-- What items' Pop leaves. -/
def IPopPost (w : World) (base p g c n : Nat) (f : Nat → Itm) (e : Ending) (w' : World) : Prop :=
  e = .returned (.iface 25 (.agg (itL (f n)).toArray)) ∧ Hpl w' base p g c n f ∧ Turn [p, g] w w'
theorem ipop_calls (h : Hpl w base p g c (n + 1) f) (hn : n ≤ 1099511627776) :
    Calls Try.prog 45 #[.pointer (some ⟨p, 0, none⟩)] w (IPopPost w base p g c n f) := by
  have H := Lib.hid h
  obtain ⟨m, hm⟩ : ∃ m, m = n + 1 := ⟨_, rfl⟩
  have hc : w.cell? ⟨p, 0, none⟩ = some (.slice (some ⟨g, 0, none⟩) m c) := by rw [hm]; exact h.cell
  have hr := h.row.range (i := n) (by omega)
  have c0 : w.cell? ⟨g, n * 3, none⟩ = some (.int .i64 (f n).cost) := hr 0 _ rfl
  have c1 : w.cell? ⟨g, n * 3 + 1, none⟩ = some (.int .i64 (f n).hops) := hr 1 _ rfl
  have c2 : w.cell? ⟨g, n * 3 + 2, none⟩ = some (.int .i64 (f n).node) := hr 2 _ rfl
  have hcap := h.row.cap
  have hl := h.head.lt
  have hg := h.row.lt.2
  have hf := h.free
  have x1 : (m : Int) - 1 = (n : Int) := by omega
  have x2 : (n : Int) < (m : Int) := by omega
  have x3 : n ≤ c := by omega
  have HM := Lib.hid hm
  have e0 : (Value.agg (itL (f n)).toArray) = .agg #[.int .i64 (f n).cost, .int .i64 (f n).hops, .int .i64 (f n).node] := rfl
  unfold IPopPost
  rw [e0]
  clear h hr hm hcap e0
  go_enter Try.func45, Try.ntmps45
  go_wp2_with fail
  have gs : w.grownBy (w.setCell ⟨p, 0, none⟩ (.slice (some ⟨g, 0, none⟩) n c)) (some p) := ⟨rfl, rfl, rfl, by simp, fun k _ hk => heap_setCell_other w ⟨p, 0, none⟩ k _ (fun e => hk (by simp [e]))⟩
  have hd := (H.out.head.set 0 (.slice (some ⟨g, 0, none⟩) n c)).alloc (.cells #[.int .i64 (f n).cost, .int .i64 (f n).hops, .int .i64 (f n).node] 25)
  have hr := (AccR.kept H.out.row.pop gs (fun y hy e => H.out.ne (by simp [blk] at hy; injection e with e; omega))).alloc (.cells #[.int .i64 (f n).cost, .int .i64 (f n).hops, .int .i64 (f n).node] 25)
  have ht := (Turn.of_grown gs (S := [p, g]) (by simp)).trans (Turn.of_below (bel_new (Below.refl _ _) (.cells #[.int .i64 (f n).cost, .int .i64 (f n).hops, .int .i64 (f n).node] 25)))
  go_ret
  exact ⟨rfl, ⟨hd, hr, H.out.ge, H.out.ne⟩, ht⟩
end
end Go.Proofs.Ytnjgffhhalaknaa
