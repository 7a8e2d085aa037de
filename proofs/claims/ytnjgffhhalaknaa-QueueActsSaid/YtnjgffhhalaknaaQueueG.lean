/-
  Contracts of package queue: New, Push, Pop, Len. Condition: none (a queue holds at most 1024 items).
-/
import Derived.Test.YtnjgffhhalaknaaQueueF
namespace Go.Proofs.Ytnjgffhhalaknaa
open Go.RowKit

/-- A queue as it lies in memory, and the items that it has, in order. -/
structure Qe (w : World) (base q p g : Nat) (l : List Itm) : Prop where
  head : Blk w q 50 [.pointer (some ⟨p, 0, none⟩)]
  items : ∃ c f, Hpl w base p g c l.length f ∧ QHp l.length f l
  qp : q ≠ p
  qg : q ≠ g
  qb : base ≤ q
  small : l.length ≤ 1024
section
variable {w w' : World} {base q p g : Nat} {l : List Itm}
theorem Qe.lt (h : Qe w base q p g l) : q < w.heap.size ∧ p < w.heap.size ∧ g < w.heap.size := by
  obtain ⟨c, f, h1, _⟩ := h.items
  exact ⟨h.head.lt, h1.head.lt, h1.row.lt.2⟩
theorem Qe.lo (h : Qe w base q p g l) : base ≤ q ∧ base ≤ p ∧ base ≤ g := by
  obtain ⟨c, f, h1, _⟩ := h.items
  exact ⟨h.qb, h1.ge, h1.row.lt.1⟩
theorem Qe.bel (h : Qe w base q p g l) (hb : Below w.heap.size w w') : Qe w' base q p g l := by
  obtain ⟨c, f, h1, h2⟩ := h.items
  exact ⟨h.head.below hb, ⟨c, f, h1.bel hb, h2⟩, h.qp, h.qg, h.qb, h.small⟩
theorem Qe.drewN (h : Qe w base q p g l) (m : Nat) : Qe (w.drewN m) base q p g l := h.bel (bel_drewN (Below.refl _ _) m)

theorem new10_calls (w : World) : Calls Try.prog 12 #[] w fun e w' => ∃ q p g, e = .returned (.pointer (some ⟨q, 0, none⟩)) ∧ Below w.heap.size w w' ∧ Qe w' w.heap.size q p g [] := by
  go_enter Try.func12, Try.ntmps12
  go_wp2
  go_ret
  refine ⟨w.heap.size + 1 + 1, w.heap.size + 1, w.heap.size, rfl, bel_new (bel_new (bel_new (Below.refl _ _) _) _) _, ?_⟩
  have r1 : Irow (w.alloc (.cells #[] 25)) w.heap.size w.heap.size 0 0 (fun _ => ⟨0, 0, 0⟩) := World.ownsRow_lit w #[] 0 (Nat.le_refl _) (Nat.zero_le _) rfl
  have b1 := Blk.new (w.alloc (.cells #[] 25)) 56 [.slice (some ⟨w.heap.size, 0, none⟩) 0 0]
  have b2 := Blk.new ((w.alloc (.cells #[] 25)).alloc (.cells #[.slice (some ⟨w.heap.size, 0, none⟩) 0 0] 56)) 50 [.pointer (some ⟨w.heap.size + 1, 0, none⟩)]
  have e1 : (w.alloc (.cells #[] 25)).heap.size = w.heap.size + 1 := by simp
  have e2 : ((w.alloc (.cells #[] 25)).alloc (.cells #[.slice (some ⟨w.heap.size, 0, none⟩) 0 0] 56)).heap.size = w.heap.size + 1 + 1 := by simp
  rw [e1] at b1
  rw [e2] at b2
  exact ⟨b2, ⟨0, fun _ => ⟨0, 0, 0⟩, ⟨b1.alloc _, AccR.alloc (AccR.alloc r1 _) _, by omega, by omega⟩, qhp_nil _⟩, by omega, by omega, by omega, by simp⟩

theorem made_nil (w : World) : Calls Try.prog 21 #[.pointer none] w fun e w' => e = .returned (.bool false) ∧ w' = w := by
  go_enter Try.func21, Try.ntmps21
  go_wp2
  go_ret
  exact ⟨rfl, rfl⟩
theorem made_zero10 (q : Nat) (w : World) (h : w.cell? ⟨q, 0, none⟩ = some (.pointer none)) : Calls Try.prog 21 #[.pointer (some ⟨q, 0, none⟩)] w fun e w' => e = .returned (.bool false) ∧ w' = w := by
  go_enter Try.func21, Try.ntmps21
  go_wp2
  go_ret
  exact ⟨rfl, rfl⟩
theorem made_yes (q p : Nat) (w : World) (h : w.cell? ⟨q, 0, none⟩ = some (.pointer (some ⟨p, 0, none⟩))) : Calls Try.prog 21 #[.pointer (some ⟨q, 0, none⟩)] w fun e w' => e = .returned (.bool true) ∧ w' = w := by
  go_enter Try.func21, Try.ntmps21
  go_wp2
  go_ret
  exact ⟨rfl, rfl⟩
theorem qlen_calls (h : Qe w base q p g l) : Calls Try.prog 18 #[.pointer (some ⟨q, 0, none⟩)] w fun e w' => e = .returned (.int .i64 (l.length : Int)) ∧ w' = w := by
  obtain ⟨c, f, h1, _⟩ := h.items
  have hq : w.cell? ⟨q, 0, none⟩ = some (.pointer (some ⟨p, 0, none⟩)) := h.head.cell 0
  have hm := made_yes q p w hq
  have hp := h1.cell
  have hl := fun w => ilen_calls (some ⟨g, 0, none⟩) l.length c w
  generalize l.length = n at *
  go_enter Try.func18, Try.ntmps18
  go_wp2_with fail
  ((with_reducible refine hm.mono ?_))
  rintro e w1 ⟨rfl, rfl⟩
  go_wp2_with fail
  ((with_reducible refine (hl _).mono ?_))
  rintro e w2 ⟨rfl, rfl⟩
  go_wp2
  go_ret
  exact ⟨rfl, rfl⟩

theorem qhp_iupd {n : Nat} {f : Nat → Itm} (h : QHp n f l) (x : Itm) : QHp n (iupd f n x) l := by
  have e : ∀ k, k < n → iupd f n x k = f k := fun k hk => by unfold iupd; rw [if_neg (by omega)]
  refine ⟨fun k k0 kn => ?_, ?_, h.order⟩
  · have hpk := par_lt k0
    rw [e k kn, e (par k) (by omega)]
    exact h.heap k k0 kn
  · rw [hls_congr e]; exact h.same
theorem Qe.cellq (h : Qe w base q p g l) : w.cell? ⟨q, 0, none⟩ = some (.pointer (some ⟨p, 0, none⟩)) := h.head.cell 0
/-- What Push answers, and leaves. -/
def QPushPost (w : World) (base q p g : Nat) (l : List Itm) (x : Itm) (e : Ending) (w' : World) : Prop :=
  e = .returned (.int .i64 (if 1024 ≤ l.length then 7 else 0)) ∧ ∃ g', Qe w' base q p g' (if 1024 ≤ l.length then l else insQ x l) ∧ Turn [p, g] w w' ∧ (g' = g ∨ w.heap.size ≤ g')
set_option maxRecDepth 100000 in
set_option maxHeartbeats 1600000 in
theorem qpush_calls (h : Qe w base q p g l) (x : Itm) (hb : base ≤ w.heap.size) :
    Calls Try.prog 17 #[.pointer (some ⟨q, 0, none⟩), .agg (itL x).toArray] w (QPushPost w base q p g l x) := by
  have H := Lib.hid h
  have HB := Lib.hid hb
  have HX := Lib.hid (show (Value.agg (itL x).toArray) = .agg #[.int .i64 x.cost, .int .i64 x.hops, .int .i64 x.node] from rfl)
  rw [HX.out]
  have hm := fun w h => made_yes q p w h
  have HM := Lib.hid hm
  have hsm := h.small
  clear h hb hm
  go_enter Try.func17, Try.ntmps17
  go_wp2_with fail
  have h1 := H.out.bel (bel_new (Below.refl _ _) (.cells #[.int .i64 x.cost, .int .i64 x.hops, .int .i64 x.node] 25))
  have b1 := Blk.new w 25 [.int .i64 x.cost, .int .i64 x.hops, .int .i64 x.node]
  have t1 : Turn [p, g] w (w.alloc (.cells #[.int .i64 x.cost, .int .i64 x.hops, .int .i64 x.node] 25)) := Turn.of_below (bel_new (Below.refl _ _) _)
  generalize w.alloc (.cells #[.int .i64 x.cost, .int .i64 x.hops, .int .i64 x.node] 25) = w1 at *
  have H1 := Lib.hid h1
  have B1 := Lib.hid b1
  have T1 := Lib.hid t1
  clear h1 b1 t1
  have hmm := HM.out w1 H1.out.cellq
  ((with_reducible refine hmm.mono ?_))
  rintro e w2 ⟨rfl, rfl⟩
  clear hmm
  have hl := qlen_calls H1.out
  go_wp2_with fail
  ((with_reducible refine hl.mono ?_))
  rintro e w2 ⟨rfl, rfl⟩
  clear hl
  by_cases hf : 1024 ≤ l.length
  · have gb : (1024 : Int) ≤ (l.length : Int) := by omega
    have HF := Lib.hid hf
    clear hf hsm
    generalize hn : l.length = n at gb ⊢
    have HL := Lib.hid hn
    clear hn
    go_wp2
    go_ret
    unfold QPushPost
    rw [if_pos HF.out]
    exact ⟨rfl, g, by rw [if_pos HF.out]; exact H1.out, T1.out, .inl rfl⟩
  · have gb : ¬ (1024 : Int) ≤ (l.length : Int) := by omega
    have HF := Lib.hid hf
    clear hf hsm
    generalize hn : l.length = n at gb ⊢
    have HL := Lib.hid hn
    clear hn
    go_wp2_with fail
    refine region_seq (fun W => Blk W q 50 [.pointer (some ⟨p, 0, none⟩)] ∧ Blk W w.heap.size 25 [.int .i64 x.cost, .int .i64 x.hops, .int .i64 x.node]) [(0, true), (1, true), (2, true), (3, true), (5, true), (4, true), (6, true), (7, false)]
      (by kernel_rfl) (by kernel_rfl) (by kernel_rfl) (by kernel_rfl) (fun _ _ _ _ _ h => h) ⟨H1.out.head, B1.out⟩ ?_
    repeat
      refine seq_pure (v := ?_) rfl (by rfl) (fun W hW => ?_) ?_
      rotate_left
      · have t0 : W.cell? ⟨q, 0, none⟩ = some (.pointer (some ⟨p, 0, none⟩)) := hW.1.cell 0
        have s0 : W.cell? ⟨w.heap.size, 0, none⟩ = some (.int .i64 x.cost) := hW.2.cell 0
        have s1 : W.cell? ⟨w.heap.size, 1, none⟩ = some (.int .i64 x.hops) := hW.2.cell 1
        have s2 : W.cell? ⟨w.heap.size, 2, none⟩ = some (.int .i64 x.node) := hW.2.cell 2
        clear hW
        go_simp
        try with_reducible rfl
      simp only [Act.put, List.setIfInBounds_toArray, List.set_cons_zero, List.set_cons_succ]
    refine seq_make rfl (by rfl) (fun K hK => ?_)
    go_simp
    obtain ⟨c, f, hi, hq⟩ := H1.out.items
    rw [HL.out] at hi hq
    have hcp := hpush_calls hi.drew hq.heap x (by have := HL.out; have := HF.out; omega) (show base ≤ w2.drew.heap.size from Nat.le_trans HB.out T1.out.size)
    rw [HX.out] at hcp
    unfold hpv HPushPost at hcp
    ((with_reducible refine hcp.mono ?_))
    rintro e w3 ⟨rfl, g3, c3, f3, h3, hp3, hs3, t3, l3⟩
    have q3 : Qe w3 base q p g3 (insQ x l) := by
      have hlt := H1.out.lt
      refine ⟨H1.out.head.same (t3.block q hlt.1 (by simp; exact ⟨H1.out.qp, H1.out.qg⟩)), ⟨c3, f3, ?_⟩, H1.out.qp, ?_, H1.out.qb, ?_⟩
      · rw [insQ_length, HL.out]
        exact ⟨h3, (qhp_iupd hq x).push (by simp [iupd]) hp3 hs3⟩
      · have h5 : w2.drew.heap.size = w2.heap.size := rfl
        have := H1.out.qg
        omega
      · rw [insQ_length]
        have := HF.out
        omega
    have Q3 := Lib.hid q3
    have T3 := Lib.hid (T1.out.trans (show Turn [p, g] w2 w3 from ⟨t3.os, t3.tape, t3.output, t3.size, t3.block⟩))
    have L3 := Lib.hid (show g3 = g ∨ w.heap.size ≤ g3 by
      have h5 : w2.drew.heap.size = w2.heap.size := rfl
      have := T1.out.size
      omega)
    have b3 : Blk w3 w.heap.size 25 [.int .i64 x.cost, .int .i64 x.hops, .int .i64 x.node] := B1.out.same (t3.block _ B1.out.lt (by have h6 := H.out.lt; simp; omega))
    have B3 := Lib.hid b3
    clear hcp hi hq h3 hp3 hs3 t3 l3 q3 b3
    go_simp
    refine hK _ _ (fun W => Blk W q 50 [.pointer (some ⟨p, 0, none⟩)] ∧ Blk W w.heap.size 25 [.int .i64 x.cost, .int .i64 x.hops, .int .i64 x.node]) (fun W h => h) ⟨Q3.out.head, B3.out⟩ ?_
    clear hK K
    refine seq_done ?_
    go_wp2
    go_ret
    unfold QPushPost
    rw [if_neg HF.out]
    exact ⟨rfl, g3, by rw [if_neg HF.out]; exact Q3.out, T3.out, L3.out⟩
end
end Go.Proofs.Ytnjgffhhalaknaa
