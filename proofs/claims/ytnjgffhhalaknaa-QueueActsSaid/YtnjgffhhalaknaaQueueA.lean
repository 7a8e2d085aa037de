/-
  Contracts of package queue: Less; items as cells. No condition.
-/
import Derived.Test.YtnjgffhhalaknaaHeapO
import Derived.Test.YtnjgffhhalaknaaCmpI
import Derived.Test.YtnjgffhhalaknaaStepS
namespace Go.Proofs.Ytnjgffhhalaknaa
open Go.RowKit

/-- The cells of an item. -/
def itL (x : Itm) : List Value := [.int .i64 x.cost, .int .i64 x.hops, .int .i64 x.node]
theorem itL_length (x : Itm) : (itL x).length = 3 := rfl
theorem itL_one (x : Itm) : ∀ u ∈ itL x, u.oneCell' = true := by intro u hu; simp [itL] at hu; rcases hu with rfl | rfl | rfl <;> rfl
/-- The first of three that is not nought. -/
def or3 (a b c : Int) : Int := if a = 0 then (if b = 0 then c else b) else a
theorem or3_lt (x y : Itm) : decide (or3 (cmpI x.cost y.cost) (cmpI x.hops y.hops) (cmpI x.node y.node) < 0) = decide (iLt x y) := by
  have h : ∀ a b : Int, (a < b ∧ cmpI a b = -1) ∨ (b < a ∧ cmpI a b = 1) ∨ (a = b ∧ cmpI a b = 0) := by
    intro a b
    unfold cmpI
    split
    · exact .inl ⟨by assumption, rfl⟩
    · split
      · exact .inr (.inl ⟨by assumption, rfl⟩)
      · exact .inr (.inr ⟨by omega, rfl⟩)
  unfold or3 iLt
  rcases h x.cost y.cost with ⟨h1, e1⟩ | ⟨h1, e1⟩ | ⟨h1, e1⟩ <;> rcases h x.hops y.hops with ⟨h2, e2⟩ | ⟨h2, e2⟩ | ⟨h2, e2⟩ <;> rcases h x.node y.node with ⟨h3, e3⟩ | ⟨h3, e3⟩ | ⟨h3, e3⟩ <;>
    rw [e1, e2, e3] <;> refine decide_eq_decide.2 ?_ <;> simp <;> omega

theorem or_calls (a b c : Int) (g : Nat) (w : World) (h0 : w.cell? ⟨g, 0, none⟩ = some (.int .i64 a)) (h1 : w.cell? ⟨g, 1, none⟩ = some (.int .i64 b)) (h2 : w.cell? ⟨g, 2, none⟩ = some (.int .i64 c)) :
    Calls Try.prog 19 #[.slice (some ⟨g, 0, none⟩) 3 3] w fun e w' => e = .returned (.int .i64 (or3 a b c)) ∧ w' = w := by
  go_enter Try.func19, Try.ntmps19
  go_wp2_with fail
  go_loopw [8] (fun t wr => ∃ i : Nat, i ≤ 3 ∧ t = .int .i64 (i : Int) ∧ wr = w ∧ (0 < i → a = 0) ∧ (1 < i → b = 0) ∧ (2 < i → c = 0)) (fun t wr => 3 - (intOf t).toNat)
  case atStart => exact ⟨0, by omega, rfl, rfl, by omega, by omega, by omega⟩
  case round =>
    obtain ⟨i, hi, rfl, rfl, z0, z1, z2⟩ := hrel
    by_cases i0 : i = 0
    · subst i0
      by_cases ha : a = 0
      · subst ha
        go_wp2_with fail
        go_roundw
        case rel => exact ⟨1, by omega, rfl, by simp, by simp, by simp, by simp⟩
        case measure => simp [intOf]
      · have e : or3 a b c = a := by simp [or3, ha]
        have HE := Lib.hid e
        clear e
        go_wp2
        go_ret
        exact ⟨by rw [HE.out]; rfl, rfl⟩
    by_cases i1 : i = 1
    · subst i1
      have ha := z0 (by omega)
      subst ha
      by_cases hb : b = 0
      · subst hb
        go_wp2_with fail
        go_roundw
        case rel => exact ⟨2, by omega, rfl, by simp, by simp, by simp, by simp⟩
        case measure => simp [intOf]
      · have e : or3 0 b c = b := by simp [or3, hb]
        have HE := Lib.hid e
        clear e
        go_wp2
        go_ret
        exact ⟨by rw [HE.out]; rfl, rfl⟩
    by_cases i2 : i = 2
    · subst i2
      have ha := z0 (by omega)
      subst ha
      have hb := z1 (by omega)
      subst hb
      by_cases hc : c = 0
      · subst hc
        go_wp2_with fail
        go_roundw
        case rel => exact ⟨3, by omega, rfl, by simp, by simp, by simp, by simp⟩
        case measure => simp [intOf]
      · have e : or3 0 0 c = c := by simp [or3]
        have HE := Lib.hid e
        clear e
        go_wp2
        go_ret
        exact ⟨by rw [HE.out]; rfl, rfl⟩
    · obtain rfl : i = 3 := by omega
      have ha := z0 (by omega)
      subst ha
      have hb := z1 (by omega)
      subst hb
      have hc := z2 (by omega)
      subst hc
      go_wp2
      go_ret
      exact ⟨rfl, rfl⟩

/-- What Less answers. -/
def LessPost (x y : Itm) (w : World) (e : Ending) (w' : World) : Prop := e = .returned (.bool (decide (iLt x y))) ∧ Below w.heap.size w w'
theorem less_calls (x y : Itm) (w : World) : Calls Try.prog 8 #[.agg (itL x).toArray, .agg (itL y).toArray] w (LessPost x y w) := by
  have hd := or3_lt x y
  unfold LessPost
  rw [← hd]
  clear hd
  obtain ⟨x0, x1, x2⟩ := x
  obtain ⟨y0, y1, y2⟩ := y
  unfold itL
  have c0 := fun w => compare_calls x0 y0 w
  have c1 := fun w => compare_calls x1 y1 w
  have c2 := fun w => compare_calls x2 y2 w
  simp only
  generalize cmpI x0 y0 = k0 at *
  generalize cmpI x1 y1 = k1 at *
  generalize cmpI x2 y2 = k2 at *
  have H0 := Lib.hid c0
  have H1 := Lib.hid c1
  have H2 := Lib.hid c2
  clear c0 c1 c2
  go_enter Try.func8, Try.ntmps8
  go_wp2_with fail
  have bl : Below w.heap.size w ((w.alloc (.cells #[.int .i64 x0, .int .i64 x1, .int .i64 x2] 25)).alloc (.cells #[.int .i64 y0, .int .i64 y1, .int .i64 y2] 25)) := bel_new (bel_new (Below.refl _ _) _) _
  have b1 : Blk ((w.alloc (.cells #[.int .i64 x0, .int .i64 x1, .int .i64 x2] 25)).alloc (.cells #[.int .i64 y0, .int .i64 y1, .int .i64 y2] 25)) w.heap.size 25 [.int .i64 x0, .int .i64 x1, .int .i64 x2] := (Blk.new w _ _).alloc _
  have b2 : Blk ((w.alloc (.cells #[.int .i64 x0, .int .i64 x1, .int .i64 x2] 25)).alloc (.cells #[.int .i64 y0, .int .i64 y1, .int .i64 y2] 25)) (w.heap.size + 1) 25 [.int .i64 y0, .int .i64 y1, .int .i64 y2] := by
    have := Blk.new (w.alloc (.cells #[.int .i64 x0, .int .i64 x1, .int .i64 x2] 25)) 25 [.int .i64 y0, .int .i64 y1, .int .i64 y2]
    simpa using this
  generalize (w.alloc (.cells #[.int .i64 x0, .int .i64 x1, .int .i64 x2] 25)).alloc (.cells #[.int .i64 y0, .int .i64 y1, .int .i64 y2] 25) = w1 at *
  have HL := Lib.hid bl
  have HB := Lib.hid (And.intro b1 b2)
  clear bl b1 b2
  refine region_seq (fun W => Blk W w.heap.size 25 [.int .i64 x0, .int .i64 x1, .int .i64 x2] ∧ Blk W (w.heap.size + 1) 25 [.int .i64 y0, .int .i64 y1, .int .i64 y2]) [(0, true), (1, true), (2, true), (3, true), (5, true), (6, true), (7, true), (8, true), (10, true), (11, true), (12, true), (13, true), (4, false), (9, false), (14, false), (15, false), (16, false), (17, true), (18, true)]
    (by kernel_rfl) (by kernel_rfl) (by kernel_rfl) (by kernel_rfl) (fun _ _ _ _ _ h => h) HB.out ?_
  repeat
    refine seq_pure (v := ?_) rfl (by rfl) (fun W hW => ?_) ?_
    rotate_left
    · have t0 := hW.1.cell 0
      have t1 := hW.1.cell 1
      have t2 := hW.1.cell 2
      have s0 := hW.2.cell 0
      have s1 := hW.2.cell 1
      have s2 := hW.2.cell 2
      clear hW
      go_simp
      try with_reducible rfl
    simp only [Act.put, List.setIfInBounds_toArray, List.set_cons_zero, List.set_cons_succ]
  refine seq_make rfl (by rfl) (fun K hK => ?_)
  go_simp
  ((with_reducible refine (H0.out _).mono ?_))
  rintro e w2 ⟨rfl, rfl⟩
  go_simp
  refine hK _ _ (fun W => Blk W w.heap.size 25 [.int .i64 x0, .int .i64 x1, .int .i64 x2] ∧ Blk W (w.heap.size + 1) 25 [.int .i64 y0, .int .i64 y1, .int .i64 y2]) (fun W h => h) HB.out ?_
  clear hK K
  refine seq_make rfl (by rfl) (fun K hK => ?_)
  go_simp
  ((with_reducible refine (H1.out _).mono ?_))
  rintro e w2 ⟨rfl, rfl⟩
  go_simp
  refine hK _ _ (fun W => Blk W w.heap.size 25 [.int .i64 x0, .int .i64 x1, .int .i64 x2] ∧ Blk W (w.heap.size + 1) 25 [.int .i64 y0, .int .i64 y1, .int .i64 y2]) (fun W h => h) HB.out ?_
  clear hK K
  refine seq_make rfl (by rfl) (fun K hK => ?_)
  go_simp
  ((with_reducible refine (H2.out _).mono ?_))
  rintro e w2 ⟨rfl, rfl⟩
  go_simp
  refine hK _ _ (fun W => Blk W w.heap.size 25 [.int .i64 x0, .int .i64 x1, .int .i64 x2] ∧ Blk W (w.heap.size + 1) 25 [.int .i64 y0, .int .i64 y1, .int .i64 y2]) (fun W h => h) HB.out ?_
  clear hK K
  refine seq_make rfl (by rfl) (fun K hK => ?_)
  go_simp
  have b3 : Blk (w1.alloc (.cells #[.int .i64 k0, .int .i64 k1, .int .i64 k2] 3)).drew w1.heap.size 3 [.int .i64 k0, .int .i64 k1, .int .i64 k2] := (Blk.new w1 _ [.int .i64 k0, .int .i64 k1, .int .i64 k2]).drew
  have l3 : Below w.heap.size w (w1.alloc (.cells #[.int .i64 k0, .int .i64 k1, .int .i64 k2] 3)).drew := (bel_new HL.out _).drew
  have hs : (w1.alloc (.cells #[.int .i64 k0, .int .i64 k1, .int .i64 k2] 3)).drew.heap.size = w1.heap.size + 1 := by simp
  have h3 : Blk (w1.alloc (.cells #[.int .i64 k0, .int .i64 k1, .int .i64 k2] 3)).drew w.heap.size 25 [.int .i64 x0, .int .i64 x1, .int .i64 x2] ∧ Blk (w1.alloc (.cells #[.int .i64 k0, .int .i64 k1, .int .i64 k2] 3)).drew (w.heap.size + 1) 25 [.int .i64 y0, .int .i64 y1, .int .i64 y2] := ⟨HB.out.1.alloc _, HB.out.2.alloc _⟩
  generalize (w1.alloc (.cells #[.int .i64 k0, .int .i64 k1, .int .i64 k2] 3)).drew = w3 at *
  refine hK _ _ (fun W => Blk W w.heap.size 25 [.int .i64 x0, .int .i64 x1, .int .i64 x2] ∧ Blk W (w.heap.size + 1) 25 [.int .i64 y0, .int .i64 y1, .int .i64 y2]) (fun W h => h) h3 ?_
  have H3 := Lib.hid h3
  have k0' : w3.cell? ⟨w1.heap.size, 0, none⟩ = some (.int .i64 k0) := b3.cell 0
  have k1' : w3.cell? ⟨w1.heap.size, 1, none⟩ = some (.int .i64 k1) := b3.cell 1
  have k2' : w3.cell? ⟨w1.heap.size, 2, none⟩ = some (.int .i64 k2) := b3.cell 2
  have HK := Lib.hid (or_calls k0 k1 k2 w1.heap.size w3 k0' k1' k2')
  clear hK K h3 hs k0' k1' k2' b3
  refine seq_make rfl (by rfl) (fun K hK => ?_)
  go_simp
  ((with_reducible refine HK.out.mono ?_))
  rintro e w4 ⟨rfl, rfl⟩
  go_simp
  refine hK _ _ (fun W => Blk W w.heap.size 25 [.int .i64 x0, .int .i64 x1, .int .i64 x2] ∧ Blk W (w.heap.size + 1) 25 [.int .i64 y0, .int .i64 y1, .int .i64 y2]) (fun W h => h) H3.out ?_
  clear hK K
  repeat
    refine seq_pure (v := ?_) rfl (by rfl) (fun W hW => ?_) ?_
    rotate_left
    · clear hW
      go_simp
      try with_reducible rfl
    simp only [Act.put, List.setIfInBounds_toArray, List.set_cons_zero, List.set_cons_succ]
  refine seq_done ?_
  have L3 := Lib.hid l3
  clear l3
  go_wp2
  go_ret
  exact ⟨rfl, L3.out⟩
end Go.Proofs.Ytnjgffhhalaknaa
