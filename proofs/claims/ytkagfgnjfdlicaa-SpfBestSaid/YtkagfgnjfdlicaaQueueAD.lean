/-
  Contracts of package queue: Less; items as cells. No condition.
  Contracts of package queue: what items' own methods do, but for Push. Condition: the places are there.
  Contracts of package queue: a queue's items in memory, and items' own Push and Pop. Condition: at most 2^40 items.
  Contracts of package queue: the library's heap over a queue's items: up and down. Condition: at most 2^40 items.
-/
import Derived.Test.YtkagfgnjfdlicaaHeapMO
import Derived.Test.YtkagfgnjfdlicaaCmpI
import Derived.Test.YtkagfgnjfdlicaaStepS
import Derived.WalkSmall
import Derived.Test.YtkagfgnjfdlicaaMapI
namespace Go.Proofs.Ytkagfgnjfdlicaa
set_option maxRecDepth 100000
open Go.RowKit

/-- The cells of an item. -/
def itL (x : Itm) : List Value := [.int .i64 x.cost, .int .i64 x.hops, .int .i64 x.node]
theorem itL_length (x : Itm) : (itL x).length = 3 := rfl
theorem itL_one (x : Itm) : ∀ u ∈ itL x, u.oneCell' = true := by intro u hu; simp [itL] at hu; rcases hu with rfl | rfl | rfl <;> rfl
/-- The first of three that is not nought. -/
def or3 (a b c : Int) : Int := if a = 0 then (if b = 0 then c else b) else a
theorem or3_lt (x y : Itm) : decide (or3 (cmpI x.cost y.cost) (cmpI x.hops y.hops) (cmpI x.node y.node) < 0) = decide (iLt x y) := by
  have h : ∀ a b : Int, (a < b ∧ cmpI a b = -1) ∨ (b < a ∧ cmpI a b = 1) ∨ (a = b ∧ cmpI a b = 0) := by
    intro a b
    unfold cmpI
    split
    · exact .inl ⟨by assumption, rfl⟩
    · split
      · exact .inr (.inl ⟨by assumption, rfl⟩)
      · exact .inr (.inr ⟨by omega, rfl⟩)
  unfold or3 iLt
  rcases h x.cost y.cost with ⟨h1, e1⟩ | ⟨h1, e1⟩ | ⟨h1, e1⟩ <;> rcases h x.hops y.hops with ⟨h2, e2⟩ | ⟨h2, e2⟩ | ⟨h2, e2⟩ <;> rcases h x.node y.node with ⟨h3, e3⟩ | ⟨h3, e3⟩ | ⟨h3, e3⟩ <;>
    rw [e1, e2, e3] <;> refine decide_eq_decide.2 ?_ <;> simp <;> omega

theorem or_calls (a b c : Int) (g : Nat) (w : World) (h0 : w.cell? ⟨g, 0, none⟩ = some (.int .i64 a)) (h1 : w.cell? ⟨g, 1, none⟩ = some (.int .i64 b)) (h2 : w.cell? ⟨g, 2, none⟩ = some (.int .i64 c)) :
    Calls Try.prog 20 #[.slice (some ⟨g, 0, none⟩) 3 3] w fun e w' => e = .returned (.int .i64 (or3 a b c)) ∧ w' = w := by
  go_enter Try.func20, Try.ntmps20
  go_wp2_with fail
  go_loopw [8] (fun t wr => ∃ i : Nat, i ≤ 3 ∧ t = .int .i64 (i : Int) ∧ wr = w ∧ (0 < i → a = 0) ∧ (1 < i → b = 0) ∧ (2 < i → c = 0)) (fun t wr => 3 - (intOf t).toNat)
  case atStart => exact ⟨0, by omega, rfl, rfl, by omega, by omega, by omega⟩
  case round =>
    obtain ⟨i, hi, rfl, rfl, z0, z1, z2⟩ := hrel
    by_cases i0 : i = 0
    · subst i0
      by_cases ha : a = 0
      · subst ha
        go_wp2_with fail
        go_roundw
        case rel => exact ⟨1, by omega, rfl, by simp, by simp, by simp, by simp⟩
        case measure => simp [intOf]
      · have e : or3 a b c = a := by simp [or3, ha]
        have HE := Lib.hid e
        clear e
        go_wp2
        go_ret
        exact ⟨by rw [HE.out]; rfl, rfl⟩
    by_cases i1 : i = 1
    · subst i1
      have ha := z0 (by omega)
      subst ha
      by_cases hb : b = 0
      · subst hb
        go_wp2_with fail
        go_roundw
        case rel => exact ⟨2, by omega, rfl, by simp, by simp, by simp, by simp⟩
        case measure => simp [intOf]
      · have e : or3 0 b c = b := by simp [or3, hb]
        have HE := Lib.hid e
        clear e
        go_wp2
        go_ret
        exact ⟨by rw [HE.out]; rfl, rfl⟩
    by_cases i2 : i = 2
    · subst i2
      have ha := z0 (by omega)
      subst ha
      have hb := z1 (by omega)
      subst hb
      by_cases hc : c = 0
      · subst hc
        go_wp2_with fail
        go_roundw
        case rel => exact ⟨3, by omega, rfl, by simp, by simp, by simp, by simp⟩
        case measure => simp [intOf]
      · have e : or3 0 0 c = c := by simp [or3]
        have HE := Lib.hid e
        clear e
        go_wp2
        go_ret
        exact ⟨by rw [HE.out]; rfl, rfl⟩
    · obtain rfl : i = 3 := by omega
      have ha := z0 (by omega)
      subst ha
      have hb := z1 (by omega)
      subst hb
      have hc := z2 (by omega)
      subst hc
      go_wp2
      go_ret
      exact ⟨rfl, rfl⟩

/-- What Less answers. -/
def LessPost (x y : Itm) (w : World) (e : Ending) (w' : World) : Prop := e = .returned (.bool (decide (iLt x y))) ∧ Below w.heap.size w w'
theorem less_calls (x y : Itm) (w : World) : Calls Try.prog 81 #[.agg (itL x).toArray, .agg (itL y).toArray] w (LessPost x y w) := by
  have hd := or3_lt x y
  unfold LessPost
  rw [← hd]
  clear hd
  obtain ⟨x0, x1, x2⟩ := x
  obtain ⟨y0, y1, y2⟩ := y
  unfold itL
  have c0 := fun w => compare_calls x0 y0 w
  have c1 := fun w => compare_calls x1 y1 w
  have c2 := fun w => compare_calls x2 y2 w
  simp only
  generalize cmpI x0 y0 = k0 at *
  generalize cmpI x1 y1 = k1 at *
  generalize cmpI x2 y2 = k2 at *
  have H0 := Lib.hid c0
  have H1 := Lib.hid c1
  have H2 := Lib.hid c2
  clear c0 c1 c2
  go_enter Try.func81, Try.ntmps81
  go_wp2_with fail
  have bl : Below w.heap.size w ((w.alloc (.cells #[.int .i64 x0, .int .i64 x1, .int .i64 x2] 67)).alloc (.cells #[.int .i64 y0, .int .i64 y1, .int .i64 y2] 67)) := bel_new (bel_new (Below.refl _ _) _) _
  have b1 : Blk ((w.alloc (.cells #[.int .i64 x0, .int .i64 x1, .int .i64 x2] 67)).alloc (.cells #[.int .i64 y0, .int .i64 y1, .int .i64 y2] 67)) w.heap.size 67 [.int .i64 x0, .int .i64 x1, .int .i64 x2] := (Blk.new w _ _).alloc _
  have b2 : Blk ((w.alloc (.cells #[.int .i64 x0, .int .i64 x1, .int .i64 x2] 67)).alloc (.cells #[.int .i64 y0, .int .i64 y1, .int .i64 y2] 67)) (w.heap.size + 1) 67 [.int .i64 y0, .int .i64 y1, .int .i64 y2] := by
    have := Blk.new (w.alloc (.cells #[.int .i64 x0, .int .i64 x1, .int .i64 x2] 67)) 67 [.int .i64 y0, .int .i64 y1, .int .i64 y2]
    simpa using this
  generalize (w.alloc (.cells #[.int .i64 x0, .int .i64 x1, .int .i64 x2] 67)).alloc (.cells #[.int .i64 y0, .int .i64 y1, .int .i64 y2] 67) = w1 at *
  have HL := Lib.hid bl
  have HB := Lib.hid (And.intro b1 b2)
  clear bl b1 b2
  refine region_seq (fun W => Blk W w.heap.size 67 [.int .i64 x0, .int .i64 x1, .int .i64 x2] ∧ Blk W (w.heap.size + 1) 67 [.int .i64 y0, .int .i64 y1, .int .i64 y2]) [(0, true), (1, true), (2, true), (3, true), (5, true), (6, true), (7, true), (8, true), (10, true), (11, true), (12, true), (13, true), (4, false), (9, false), (14, false), (15, false), (16, false), (17, true), (18, true)]
    (by kernel_rfl) (by kernel_rfl) (by kernel_rfl) (by kernel_rfl) (fun _ _ _ _ _ h => h) HB.out ?_
  repeat
    refine seq_pure (v := ?_) rfl (by rfl) (fun W hW => ?_) ?_
    rotate_left
    · have t0 := hW.1.cell 0
      have t1 := hW.1.cell 1
      have t2 := hW.1.cell 2
      have s0 := hW.2.cell 0
      have s1 := hW.2.cell 1
      have s2 := hW.2.cell 2
      clear hW
      go_simp
      try with_reducible rfl
    simp only [Act.put, List.setIfInBounds_toArray, List.set_cons_zero, List.set_cons_succ]
  refine seq_make rfl (by rfl) (fun K hK => ?_)
  go_simp
  ((with_reducible refine (H0.out _).mono ?_))
  rintro e w2 ⟨rfl, rfl⟩
  go_simp
  refine hK _ _ (fun W => Blk W w.heap.size 67 [.int .i64 x0, .int .i64 x1, .int .i64 x2] ∧ Blk W (w.heap.size + 1) 67 [.int .i64 y0, .int .i64 y1, .int .i64 y2]) (fun W h => h) HB.out ?_
  clear hK K
  refine seq_make rfl (by rfl) (fun K hK => ?_)
  go_simp
  ((with_reducible refine (H1.out _).mono ?_))
  rintro e w2 ⟨rfl, rfl⟩
  go_simp
  refine hK _ _ (fun W => Blk W w.heap.size 67 [.int .i64 x0, .int .i64 x1, .int .i64 x2] ∧ Blk W (w.heap.size + 1) 67 [.int .i64 y0, .int .i64 y1, .int .i64 y2]) (fun W h => h) HB.out ?_
  clear hK K
  refine seq_make rfl (by rfl) (fun K hK => ?_)
  go_simp
  ((with_reducible refine (H2.out _).mono ?_))
  rintro e w2 ⟨rfl, rfl⟩
  go_simp
  refine hK _ _ (fun W => Blk W w.heap.size 67 [.int .i64 x0, .int .i64 x1, .int .i64 x2] ∧ Blk W (w.heap.size + 1) 67 [.int .i64 y0, .int .i64 y1, .int .i64 y2]) (fun W h => h) HB.out ?_
  clear hK K
  refine seq_make rfl (by rfl) (fun K hK => ?_)
  go_simp
  have b3 : Blk (w1.alloc (.cells #[.int .i64 k0, .int .i64 k1, .int .i64 k2] 3)).drew w1.heap.size 3 [.int .i64 k0, .int .i64 k1, .int .i64 k2] := (Blk.new w1 _ [.int .i64 k0, .int .i64 k1, .int .i64 k2]).drew
  have l3 : Below w.heap.size w (w1.alloc (.cells #[.int .i64 k0, .int .i64 k1, .int .i64 k2] 3)).drew := (bel_new HL.out _).drew
  have hs : (w1.alloc (.cells #[.int .i64 k0, .int .i64 k1, .int .i64 k2] 3)).drew.heap.size = w1.heap.size + 1 := by simp
  have h3 : Blk (w1.alloc (.cells #[.int .i64 k0, .int .i64 k1, .int .i64 k2] 3)).drew w.heap.size 67 [.int .i64 x0, .int .i64 x1, .int .i64 x2] ∧ Blk (w1.alloc (.cells #[.int .i64 k0, .int .i64 k1, .int .i64 k2] 3)).drew (w.heap.size + 1) 67 [.int .i64 y0, .int .i64 y1, .int .i64 y2] := ⟨HB.out.1.alloc _, HB.out.2.alloc _⟩
  generalize (w1.alloc (.cells #[.int .i64 k0, .int .i64 k1, .int .i64 k2] 3)).drew = w3 at *
  refine hK _ _ (fun W => Blk W w.heap.size 67 [.int .i64 x0, .int .i64 x1, .int .i64 x2] ∧ Blk W (w.heap.size + 1) 67 [.int .i64 y0, .int .i64 y1, .int .i64 y2]) (fun W h => h) h3 ?_
  have H3 := Lib.hid h3
  have k0' : w3.cell? ⟨w1.heap.size, 0, none⟩ = some (.int .i64 k0) := b3.cell 0
  have k1' : w3.cell? ⟨w1.heap.size, 1, none⟩ = some (.int .i64 k1) := b3.cell 1
  have k2' : w3.cell? ⟨w1.heap.size, 2, none⟩ = some (.int .i64 k2) := b3.cell 2
  have HK := Lib.hid (or_calls k0 k1 k2 w1.heap.size w3 k0' k1' k2')
  clear hK K h3 hs k0' k1' k2' b3
  refine seq_make rfl (by rfl) (fun K hK => ?_)
  go_simp
  ((with_reducible refine HK.out.mono ?_))
  rintro e w4 ⟨rfl, rfl⟩
  go_simp
  refine hK _ _ (fun W => Blk W w.heap.size 67 [.int .i64 x0, .int .i64 x1, .int .i64 x2] ∧ Blk W (w.heap.size + 1) 67 [.int .i64 y0, .int .i64 y1, .int .i64 y2]) (fun W h => h) H3.out ?_
  clear hK K
  repeat
    refine seq_pure (v := ?_) rfl (by rfl) (fun W hW => ?_) ?_
    rotate_left
    · clear hW
      go_simp
      try with_reducible rfl
    simp only [Act.put, List.setIfInBounds_toArray, List.set_cons_zero, List.set_cons_succ]
  refine seq_done ?_
  have L3 := Lib.hid l3
  clear l3
  go_wp2
  go_ret
  exact ⟨rfl, L3.out⟩
end Go.Proofs.Ytkagfgnjfdlicaa

namespace Go.Proofs.Ytkagfgnjfdlicaa
set_option maxRecDepth 100000
open Go.RowKit

def iupd (f : Nat → Itm) (i : Nat) (x : Itm) : Nat → Itm := fun k => if k = i then x else f k
theorem hsw_iupd (f : Nat → Itm) (p q : Nat) : hsw f p q = iupd (iupd f p (f q)) q (f p) := rfl
theorem hls_set (n : Nat) (f : Nat → Itm) (i : Nat) (x : Itm) (hi : i < n) : hls n (iupd f i x) = (hls n f).set i x := by
  apply List.ext_getElem?
  intro k
  rcases Nat.lt_or_ge k n with hk | hk
  · rw [hls_get _ _ _ hk, List.getElem?_set]
    unfold iupd
    by_cases h : i = k
    · subst h; simp [hls_length, hi]
    · rw [if_neg (fun e => h e.symm), if_neg h, hls_get _ _ _ hk]
  · rw [List.getElem?_eq_none (by rw [hls_length]; exact hk), List.getElem?_eq_none (by simp [hls_length]; exact hk)]
theorem flat_set3 (a b c : Int) : ∀ (L : List Itm) (i : Nat), (((L.flatMap itL).set (i * 3) (.int .i64 a)).set (i * 3 + 1) (.int .i64 b)).set (i * 3 + 2) (.int .i64 c) = (L.set i ⟨a, b, c⟩).flatMap itL
  | [], i => by simp
  | y :: L, 0 => by simp [itL]
  | y :: L, i + 1 => by
    have e : (i + 1) * 3 = i * 3 + 3 := by omega
    rw [e, List.set_cons_succ, List.flatMap_cons, List.flatMap_cons, ← flat_set3 a b c L i]
    simp [itL]

/-- A row of items in a block, by its places. -/
def Irow (w : World) (base g c n : Nat) (f : Nat → Itm) : Prop := AccR itL 3 w base 67 (some ⟨g, 0, none⟩) c (hls n f)
section
variable {w w' : World} {base g c n : Nat} {f : Nat → Itm}
theorem Irow.range (h : Irow w base g c n f) {i : Nat} (hi : i < n) : w.rangeAt g (i * 3) (itL (f i)) := by
  intro j v hv
  have hj : j < 3 := by have := (List.getElem?_eq_some_iff.1 hv).1; simpa [itL] using this
  have h1 := World.ownsRow.cellAt h (i * 3 + j) (by rw [hls_length]; omega)
  have h2 := flat_get itL_length (hls n f) i (by rw [hls_length]; exact hi) j hj
  rw [hls_get' n f i] at h2
  rw [h1, h2]; exact hv
theorem Irow.there (h : Irow w base g c n f) {i : Nat} (hi : i < n) : w.there g (i * 3) 3 := fun j hj => by
  refine ⟨?_, World.ownsRow.frozenAt h _⟩
  have h1 : (itL (f i))[j]? = some ((itL (f i))[j]'(by simp [itL]; omega)) := List.getElem?_eq_getElem _
  rw [h.range hi j _ h1]; rfl
theorem Irow.store (h : Irow w base g c n f) {i : Nat} (hi : i < n) (x : Itm) : Irow (w.setCells g (i * 3) (itL x)) base g c n (iupd f i x) ∧ w.grownBy (w.setCells g (i * 3) (itL x)) (some g) := by
  have s1 := World.ownsRow.stored h (i * 3) (.int .i64 x.cost)
  have s2 := World.ownsRow.stored s1.1 (i * 3 + 1) (.int .i64 x.hops)
  have s3 := World.ownsRow.stored s2.1 (i * 3 + 2) (.int .i64 x.node)
  have e : w.setCells g (i * 3) (itL x) = (((w.setCell ⟨g, i * 3, none⟩ (.int .i64 x.cost)).setCell ⟨g, i * 3 + 1, none⟩ (.int .i64 x.hops)).setCell ⟨g, i * 3 + 2, none⟩ (.int .i64 x.node)) := rfl
  rw [e]
  refine ⟨?_, (s1.2.trans s2.2).trans s3.2⟩
  have t := s3.1
  rw [flat_set3, ← hls_set n f i x hi] at t
  unfold Irow AccR
  have hl : (hls n (iupd f i x)).length = (hls n f).length := by rw [hls_length, hls_length]
  rw [hl]
  exact t
theorem Irow.swap (h : Irow w base g c n f) {i j : Nat} (hi : i < n) (hj : j < n) : Irow ((w.setCells g (i * 3) (itL (f j))).setCells g (j * 3) (itL (f i))) base g c n (hsw f i j) ∧ w.grownBy ((w.setCells g (i * 3) (itL (f j))).setCells g (j * 3) (itL (f i))) (some g) := by
  have h1 := h.store hi (f j)
  have h2 := h1.1.store hj (f i)
  exact ⟨h2.1, h1.2.trans h2.2⟩
theorem Irow.pop (h : Irow w base g c (n + 1) f) : Irow w base g c n f := by
  unfold Irow AccR at h ⊢
  rw [hls_length] at h ⊢
  rw [hls_snoc, List.flatMap_append] at h
  exact ownsRow_pop (by rw [flat_length itL_length, hls_length]) h
theorem Irow.cap (h : Irow w base g c n f) : n ≤ c ∧ c ≤ maxLen := by have := AccR.cap h; rwa [hls_length] at this
theorem Irow.lt (h : Irow w base g c n f) : base ≤ g ∧ g < w.heap.size := AccR.ge h rfl
theorem Irow.bel (h : Irow w base g c n f) (hb : Below w.heap.size w w') : Irow w' base g c n f := AccR.bel h hb
theorem Irow.drew (h : Irow w base g c n f) : Irow w.drew base g c n f := h
end
theorem infoItem : (Try.prog.info? 67).map (·.size) = some 3 := by kernel_rfl

section
variable {w : World} {base g c n : Nat} {f : Nat → Itm}
theorem seq_load_at {P : Program} {ops : Array Oper} {Q : Exit → Act → World → Prop} {S : World → Prop} {i : Nat} {r : List (Nat × Bool)} {a : Act} {w : World} {o : Oper} {x : Operand} {ty : TypeId} {g k : Nat} {vs : List Value} {d : TypeDesc}
    (ho : ops.toList[i]? = some o) (hw : Region.wanted o (yielded ops a.tmps) = true) (hop : o.op = .load ty x) (hx : a.eval x = .pointer (some ⟨g, k, none⟩)) (hb : ∀ W, S W → W.rangeAt g k vs) (hu : P.underlying ty = some d) (hd : d.isRow = true) (hi : (P.info? ty).map (·.size) = some vs.length)
    (h : wpSeq P ops Q S r (a.put o.dst (.agg vs.toArray)) w) : wpSeq P ops Q S ((i, true) :: r) a w :=
  ⟨o, _, by rw [← Array.getElem?_toList]; exact ho, yieldsIf_load_mid hw ty x hop g k hx vs d hb hu hd hi, h⟩

theorem ilen_calls (A : Option Addr) (n c : Nat) (w : World) : Calls Try.prog 49 #[.slice A n c] w fun e w' => e = .returned (.int .i64 (n : Int)) ∧ w' = w := by
  go_enter Try.func49, Try.ntmps49
  go_wp2
  go_ret
  exact ⟨rfl, rfl⟩

theorem iless_calls (h : Irow w base g c n f) (i j : Nat) (hi : i < n) (hj : j < n) :
    Calls Try.prog 77 #[.slice (some ⟨g, 0, none⟩) n c, .int .i64 (i : Int), .int .i64 (j : Int)] w (LessPost (f i) (f j) w) := by
  have H := Lib.hid h
  have i1 : (i : Int) < (n : Int) := by omega
  have j1 : (j : Int) < (n : Int) := by omega
  have HI := Lib.hid hi
  have HJ := Lib.hid hj
  clear h hi hj
  go_enter Try.func77, Try.ntmps77
  go_wp2_with fail
  refine region_seq (fun W => Below w.heap.size w W) [(0, true), (1, true), (2, true), (3, true), (4, true), (5, true), (6, true), (7, true), (8, false), (9, true)]
    (by kernel_rfl) (by kernel_rfl) (by kernel_rfl) (by kernel_rfl) (fun _ _ _ _ _ h => h) (Below.refl _ _).drew ?_
  repeat first
    | refine seq_load_at rfl (by rfl) rfl rfl (fun W hW => (H.out.bel hW).range HI.out) Try.underlying67 rfl infoItem ?_
      simp only [Act.put, List.setIfInBounds_toArray, List.set_cons_zero, List.set_cons_succ]
    | refine seq_load_at rfl (by rfl) rfl rfl (fun W hW => (H.out.bel hW).range HJ.out) Try.underlying67 rfl infoItem ?_
      simp only [Act.put, List.setIfInBounds_toArray, List.set_cons_zero, List.set_cons_succ]
    | refine seq_pure (v := ?_) rfl (by rfl) (fun W hW => ?_) ?_
      rotate_left
      · clear hW
        go_simp
        with_reducible rfl
      simp only [Act.put, List.setIfInBounds_toArray, List.set_cons_zero, List.set_cons_succ]
  refine seq_make rfl (by rfl) (fun K hK => ?_)
  go_simp
  have hc := less_calls (f i) (f j) w.drew
  unfold LessPost at hc
  ((with_reducible refine hc.mono ?_))
  rintro e w1 ⟨rfl, hb⟩
  have HB := Lib.hid (show Below w.heap.size w w1 from ⟨hb.os, hb.tape, hb.output, hb.size, hb.block⟩)
  clear hb hc
  go_simp
  refine hK _ _ (fun W => Below w.heap.size w W) (fun W h => h) HB.out ?_
  clear hK K
  refine seq_pure (v := ?_) rfl (by rfl) (fun W hW => ?_) ?_
  rotate_left
  · clear hW
    go_simp
    with_reducible rfl
  simp only [Act.put, List.setIfInBounds_toArray, List.set_cons_zero, List.set_cons_succ]
  refine seq_done ?_
  go_wp2
  go_ret
  exact ⟨rfl, HB.out⟩
/-- What Swap leaves. -/
def SwapPost (w : World) (base g c n : Nat) (f : Nat → Itm) (e : Ending) (w' : World) : Prop :=
  e = .returned (.tuple #[]) ∧ Irow w' base g c n f ∧ w.grownBy w' (some g)
theorem iswap_calls (h : Irow w base g c n f) (i j : Nat) (hi : i < n) (hj : j < n) :
    Calls Try.prog 80 #[.slice (some ⟨g, 0, none⟩) n c, .int .i64 (i : Int), .int .i64 (j : Int)] w (SwapPost w base g c n (hsw f i j)) := by
  have H := Lib.hid h
  have i1 : (i : Int) < (n : Int) := by omega
  have j1 : (j : Int) < (n : Int) := by omega
  have HI := Lib.hid hi
  have HJ := Lib.hid hj
  clear h hi hj
  go_enter Try.func80, Try.ntmps80
  go_wp2_with fail
  refine region_way (fun _ => True) (.step 0 true (.step 1 true (.step 2 true (.step 3 true (.step 4 true (.step 5 true (.step 6 true (.step 8 true (.step 9 true (.step 10 true (.both 7 11 (.step 11 false (.step 12 true (.step 13 false (.step 14 true (.step 15 false .done))))) (.step 7 false (.step 12 true (.step 13 false (.step 14 true (.step 15 false .done))))))))))))))))
    (by kernel_rfl) (by kernel_rfl) (by kernel_rfl) (by kernel_rfl) (fun _ _ _ _ _ h => h) trivial ?_
  repeat
    refine way_pure (v := ?_) rfl (by rfl) (fun W _ => ?_) ?_
    rotate_left
    · go_simp
      with_reducible rfl
    simp only [Act.put, List.setIfInBounds_toArray, List.set_cons_zero, List.set_cons_succ]
  refine way_both rfl (by rfl) rfl (by rfl) (fun K hK => ?_) (fun K hK => ?_)
  all_goals
    first
      | refine wp_load_mid _ _ rfl g _ rfl (itL (f i)) _ (H.out.drew.range HI.out) Try.underlying67 rfl infoItem ?_
      | refine wp_load_mid _ _ rfl g _ rfl (itL (f j)) _ (H.out.drew.range HJ.out) Try.underlying67 rfl infoItem ?_
    refine hK _ _ (fun _ => True) (fun _ _ => trivial) trivial ?_
    clear hK K
    refine way_make rfl (by rfl) (fun K hK => ?_)
    first
      | refine wp_load_mid _ _ rfl g _ rfl (itL (f i)) _ (H.out.drew.range HI.out) Try.underlying67 rfl infoItem ?_
      | refine wp_load_mid _ _ rfl g _ rfl (itL (f j)) _ (H.out.drew.range HJ.out) Try.underlying67 rfl infoItem ?_
    refine hK _ _ (fun _ => True) (fun _ _ => trivial) trivial ?_
    clear hK K
    refine way_pure (v := ?_) rfl (by rfl) (fun W _ => ?_) ?_
    rotate_left
    · go_simp
      with_reducible rfl
    simp only [Act.put, List.setIfInBounds_toArray, List.set_cons_zero, List.set_cons_succ]
    refine way_make rfl (by rfl) (fun K hK => ?_)
    refine wp_store_mid _ _ _ rfl g (i * 3) (itL (f j)).toArray rfl rfl (H.out.drew.there HI.out) infoItem (all_oneCell_toArray (itL_one _)) ?_
    refine hK _ _ (fun _ => True) (fun _ _ => trivial) trivial ?_
    clear hK K
    refine way_pure (v := ?_) rfl (by rfl) (fun W _ => ?_) ?_
    rotate_left
    · go_simp
      with_reducible rfl
    simp only [Act.put, List.setIfInBounds_toArray, List.set_cons_zero, List.set_cons_succ]
    refine way_make rfl (by rfl) (fun K hK => ?_)
    refine wp_store_mid _ _ _ rfl g (j * 3) (itL (f i)).toArray rfl rfl ((H.out.drew.store HI.out (f j)).1.there HJ.out) infoItem (all_oneCell_toArray (itL_one _)) ?_
    refine hK _ _ (fun _ => True) (fun _ _ => trivial) trivial ?_
    clear hK K
    refine way_done ?_
    have HS := Lib.hid (H.out.drew.swap HI.out HJ.out)
    generalize (w.drew.setCells g (i * 3) (itL (f j))).setCells g (j * 3) (itL (f i)) = w2 at *
    go_wp2
    go_end0
    exact ⟨rfl, HS.out.1, ⟨HS.out.2.os, HS.out.2.tape, HS.out.2.output, HS.out.2.size, HS.out.2.block⟩⟩
end
end Go.Proofs.Ytkagfgnjfdlicaa

namespace Go.Proofs.Ytkagfgnjfdlicaa
set_option maxRecDepth 100000
open Go.RowKit

/-- One more, and where the slice lies then. -/
theorem accr_push_lies {P : Program} {α : Type} {enc : α → List Value} {k : Nat} {w : World} {base c : Nat} {T : TypeId} {A : Option Addr} {l : List α} (hk : ∀ x, (enc x).length = k) (h1 : ∀ x, ∀ u ∈ enc x, u.oneCell' = true) (hk0 : 0 < k) (h : AccR enc k w base T A c l) (x : α)
    {ST ty : TypeId} {z : Value} {bytes : Nat} (ht : P.underlying ST = some (.slice T)) (hinfo : (P.info? T).map (fun i => (i.zero, i.size, i.bytes)) = some (some z, k, bytes)) (hzs : z.cells.size = k)
    (hbase : base ≤ w.heap.size) (hlen : (l.length + 1) * bytes ≤ 140737488355328) (hml : l.length + 1 ≤ 140737488355328) :
    ∃ A' c' w', (Builtin.append_ #[ST, ST] ty #[.slice A l.length c, .slice (some ⟨w.heap.size, 0, none⟩) 1 1]).run P (w.alloc (.cells (enc x).toArray T)) = .ok (.slice A' (l.length + 1) c') w' ∧
      AccR enc k w' base T A' c' (l ++ [x]) ∧ w.grownBy w' (blk A) ∧ (blk A' = blk A ∨ blk A' = some (w.heap.size + 1)) := by
  have hs : Row enc (w.alloc (.cells (enc x).toArray T)) (w.heap.size + 1) (some ⟨w.heap.size, 0, none⟩) 1 [x] := by
    refine ⟨rfl, fun _ => ⟨w.heap.size, 0, rfl, by omega, fun i hi => ?_⟩⟩
    have hi' : i < (enc x).length := by simpa using hi
    rw [cell_of_row _ _ _ _ _ _ (heap_alloc_new w _)]
    simp [hi']
  obtain ⟨A', c', w', r1, r2, r3, r4⟩ := accr_append (P := P) hk h1 hk0 (h.alloc _) (cc := 1) hs (ty := ty) ht hinfo hzs (by simp; omega) hlen hml
  refine ⟨A', c', w', r1, r2, ⟨r3.os, r3.tape, r3.output, Nat.le_trans (by simp) r3.size, fun i hi hne => (r3.block i (by simp; omega) hne).trans (Below.heap_alloc _ _ _ hi)⟩, ?_⟩
  simpa using r4

/-- The items of a queue as they lie in memory: what is pointed to holds a slice of them. -/
structure Hpl (w : World) (base p g c n : Nat) (f : Nat → Itm) : Prop where
  head : Blk w p 97 [.slice (some ⟨g, 0, none⟩) n c]
  row : Irow w base g c n f
  ge : base ≤ p
  ne : p ≠ g
theorem infoItem3 : (Try.prog.info? 67).map (fun i => (i.zero, i.size, i.bytes)) = some (some (.agg #[.int .i64 0, .int .i64 0, .int .i64 0]), 3, 24) := by kernel_rfl
theorem run_typeAssert_item (xT : TypeId) (v : Value) (w : World) : (Instr.typeAssert (.iface 67 v) xT 67 false).run Try.prog w = .ok v w := by
  simp [Instr.typeAssert, run_underlying Try.underlying67, go_sem, Result.andThen]

section
variable {w w' : World} {base p g c n : Nat} {f : Nat → Itm}
theorem Hpl.cell (h : Hpl w base p g c n f) : w.cell? ⟨p, 0, none⟩ = some (.slice (some ⟨g, 0, none⟩) n c) := h.head.cell 0
theorem Hpl.free (h : Hpl w base p g c n f) : w.frozen? ⟨p, 0, none⟩ = false := h.head.free 0
theorem Hpl.bel (h : Hpl w base p g c n f) (hb : Below w.heap.size w w') : Hpl w' base p g c n f := ⟨h.head.below hb, h.row.bel hb, h.ge, h.ne⟩
theorem Hpl.drew (h : Hpl w base p g c n f) : Hpl w.drew base p g c n f := ⟨h.head.drew, h.row.drew, h.ge, h.ne⟩

/-- What items' Push leaves. -/
def IPushPost (w : World) (base p g n : Nat) (f : Nat → Itm) (x : Itm) (e : Ending) (w' : World) : Prop :=
  e = .returned (.tuple #[]) ∧ ∃ g' c', Hpl w' base p g' c' (n + 1) (iupd f n x) ∧ Turn [p, g] w w' ∧ (g' = g ∨ w.heap.size ≤ g')
theorem ipush_calls (h : Hpl w base p g c n f) (x : Itm) (hn : n ≤ 1099511627776) (hb : base ≤ w.heap.size) :
    Calls Try.prog 79 #[.pointer (some ⟨p, 0, none⟩), .iface 67 (.agg (itL x).toArray)] w (IPushPost w base p g n f x) := by
  have H := Lib.hid h
  have HN := Lib.hid hn
  have HB := Lib.hid hb
  have ta := run_typeAssert_item
  obtain ⟨A5, c5, w5, r5, a5, g5, l5⟩ := accr_push_lies (P := Try.prog) itL_length itL_one (by omega) (AccR.drew h.row) x (ty := 97) Try.underlying97 infoItem3 rfl (show base ≤ w.drew.heap.size from hb) (by rw [hls_length]; omega) (by rw [hls_length]; omega)
  rw [hls_length] at r5
  have R5 := Lib.hid (show (Builtin.append_ #[97, 97] 97 #[.slice (some ⟨g, 0, none⟩) n c, .slice (some ⟨w.heap.size, 0, none⟩) 1 1]).run Try.prog (w.alloc (.cells #[.int .i64 x.cost, .int .i64 x.hops, .int .i64 x.node] 67)).drew = .ok (.slice A5 (n + 1) c5) w5 from r5)
  have G5 := Lib.hid (show w.grownBy w5 (some g) from ⟨g5.os, g5.tape, g5.output, g5.size, g5.block⟩)
  have hls1 : hls n f ++ [x] = hls (n + 1) (iupd f n x) := by
    rw [hls_snoc]
    congr 1
    · exact hls_congr (fun k hk => by unfold iupd; rw [if_neg (by omega)])
    · simp [iupd]
  rw [hls1] at a5
  obtain ⟨g', rfl⟩ : ∃ g', A5 = some ⟨g', 0, none⟩ := by
    rcases a5.2 with ⟨_, h0⟩ | ⟨g', cap, cur, hv, _⟩
    · rw [hls_length] at h0; omega
    · injection hv with e; exact ⟨g', e⟩
  have A5 := Lib.hid (show Irow w5 base g' c5 (n + 1) (iupd f n x) from a5)
  have hl5 : g' = g ∨ g' = w.heap.size + 1 := by
    rcases l5 with e | e
    · left; simpa [blk] using e
    · right; simpa [blk] using e
  have L5 := Lib.hid hl5
  have hp5 : Blk w5 p 97 [.slice (some ⟨g, 0, none⟩) n c] := h.head.same (g5.block p h.head.lt (by simp [blk]; exact h.ne))
  have P5 := Lib.hid hp5
  clear h hn hb r5 a5 g5 l5 hls1 hl5 hp5
  have e0 : (Value.agg (itL x).toArray) = .agg #[.int .i64 x.cost, .int .i64 x.hops, .int .i64 x.node] := rfl
  rw [e0]
  clear e0
  go_enter Try.func79, Try.ntmps79
  go_wp2_with fail
  refine region_way (fun _ => True) (.step 0 true (.step 1 true (.step 2 true (.step 4 true (.step 5 true (.both 3 6 (.step 6 false (.step 7 false (.step 8 true (.step 9 false .done)))) (.step 3 false (.step 7 false (.step 8 true (.step 9 false .done))))))))))
    (by kernel_rfl) (by kernel_rfl) (by kernel_rfl) (by kernel_rfl) (fun _ _ _ _ _ h => h) trivial ?_
  repeat
    refine way_pure (v := ?_) rfl (by rfl) (fun W _ => ?_) ?_
    rotate_left
    · go_simp
      try with_reducible rfl
    simp only [Act.put, List.setIfInBounds_toArray, List.set_cons_zero, List.set_cons_succ]
  refine way_both rfl (by rfl) rfl (by rfl) (fun K hK => ?_) (fun K hK => ?_)
  have hc := H.out.cell
  go_simp
  refine hK _ _ (fun _ => True) (fun _ _ => trivial) trivial ?_
  clear hK K hc
  refine way_make rfl (by rfl) (fun K hK => ?_)
  go_simp
  refine hK _ _ (fun _ => True) (fun _ _ => trivial) trivial ?_
  clear hK K
  refine way_make rfl (by rfl) (fun K hK => ?_)
  refine op_append rfl rfl rfl R5.out ?_
  refine hK _ _ (fun _ => True) (fun _ _ => trivial) trivial ?_
  clear hK K
  rotate_left
  go_simp
  refine hK _ _ (fun _ => True) (fun _ _ => trivial) trivial ?_
  clear hK K
  refine way_make rfl (by rfl) (fun K hK => ?_)
  have hc : (w.alloc (.cells #[.int .i64 x.cost, .int .i64 x.hops, .int .i64 x.node] 67)).cell? ⟨p, 0, none⟩ = some (.slice (some ⟨g, 0, none⟩) n c) := (H.out.head.alloc (.cells #[.int .i64 x.cost, .int .i64 x.hops, .int .i64 x.node] 67)).cell 0
  go_simp
  refine hK _ _ (fun _ => True) (fun _ _ => trivial) trivial ?_
  clear hK K hc
  refine way_make rfl (by rfl) (fun K hK => ?_)
  refine op_append rfl rfl rfl R5.out ?_
  refine hK _ _ (fun _ => True) (fun _ _ => trivial) trivial ?_
  clear hK K
  all_goals
    refine way_pure (v := ?_) rfl (by rfl) (fun W _ => ?_) ?_
    rotate_left
    · go_simp
      try with_reducible rfl
    simp only [Act.put, List.setIfInBounds_toArray, List.set_cons_zero, List.set_cons_succ]
    refine way_make rfl (by rfl) (fun K hK => ?_)
    have f5 := P5.out.free 0
    have c5 : w5.cell? ⟨p, 0, none⟩ = some (.slice (some ⟨g, 0, none⟩) n c) := P5.out.cell 0
    go_simp
    refine hK _ _ (fun _ => True) (fun _ _ => trivial) trivial ?_
    clear hK K f5 c5
    refine way_done ?_
    have n5 : g' ≠ p := by
      have h1 := H.out.ne
      have h2 := H.out.head.lt
      have h3 := L5.out
      omega
    have gs : w5.grownBy (w5.setCell ⟨p, 0, none⟩ (.slice (some ⟨g', 0, none⟩) (n + 1) c5)) (some p) := ⟨rfl, rfl, rfl, by simp, fun k _ hk => heap_setCell_other w5 ⟨p, 0, none⟩ k _ (fun e => hk (by simp [e]))⟩
    have d6 := Lib.hid (show Blk (w5.setCell ⟨p, 0, none⟩ (.slice (some ⟨g', 0, none⟩) (n + 1) c5)) p 97 [.slice (some ⟨g', 0, none⟩) (n + 1) c5] from P5.out.set 0 (.slice (some ⟨g', 0, none⟩) (n + 1) c5))
    have r6 := Lib.hid (show Irow (w5.setCell ⟨p, 0, none⟩ (.slice (some ⟨g', 0, none⟩) (n + 1) c5)) base g' c5 (n + 1) (iupd f n x) from AccR.kept A5.out gs (fun y hy e => n5 (by simp [blk] at hy; injection e with e; omega)))
    have t6 := Lib.hid ((Turn.of_grown G5.out (S := [p, g]) (by simp)).trans (Turn.of_grown gs (S := [p, g]) (by simp)))
    generalize w5.setCell ⟨p, 0, none⟩ (.slice (some ⟨g', 0, none⟩) (n + 1) c5) = w6 at *
    clear gs
    go_wp2
    go_end0
    exact ⟨rfl, g', c5, ⟨d6.out, r6.out, H.out.ge, fun e => n5 e.symm⟩, t6.out, by have := L5.out; omega⟩

/-- What items' Pop leaves. -/
def IPopPost (w : World) (base p g c n : Nat) (f : Nat → Itm) (e : Ending) (w' : World) : Prop :=
  e = .returned (.iface 67 (.agg (itL (f n)).toArray)) ∧ Hpl w' base p g c n f ∧ Turn [p, g] w w'
theorem ipop_calls (h : Hpl w base p g c (n + 1) f) (hn : n ≤ 1099511627776) :
    Calls Try.prog 78 #[.pointer (some ⟨p, 0, none⟩)] w (IPopPost w base p g c n f) := by
  have H := Lib.hid h
  obtain ⟨m, hm⟩ : ∃ m, m = n + 1 := ⟨_, rfl⟩
  have hc : w.cell? ⟨p, 0, none⟩ = some (.slice (some ⟨g, 0, none⟩) m c) := by rw [hm]; exact h.cell
  have hr := h.row.range (i := n) (by omega)
  have c0 : w.cell? ⟨g, n * 3, none⟩ = some (.int .i64 (f n).cost) := hr 0 _ rfl
  have c1 : w.cell? ⟨g, n * 3 + 1, none⟩ = some (.int .i64 (f n).hops) := hr 1 _ rfl
  have c2 : w.cell? ⟨g, n * 3 + 2, none⟩ = some (.int .i64 (f n).node) := hr 2 _ rfl
  have hcap := h.row.cap
  have hl := h.head.lt
  have hg := h.row.lt.2
  have hf := h.free
  have x1 : (m : Int) - 1 = (n : Int) := by omega
  have x2 : (n : Int) < (m : Int) := by omega
  have x3 : n ≤ c := by omega
  have HM := Lib.hid hm
  have e0 : (Value.agg (itL (f n)).toArray) = .agg #[.int .i64 (f n).cost, .int .i64 (f n).hops, .int .i64 (f n).node] := rfl
  unfold IPopPost
  rw [e0]
  clear h hr hm hcap e0
  go_enter Try.func78, Try.ntmps78
  go_wp2_with fail
  have gs : w.grownBy (w.setCell ⟨p, 0, none⟩ (.slice (some ⟨g, 0, none⟩) n c)) (some p) := ⟨rfl, rfl, rfl, by simp, fun k _ hk => heap_setCell_other w ⟨p, 0, none⟩ k _ (fun e => hk (by simp [e]))⟩
  have hd := (H.out.head.set 0 (.slice (some ⟨g, 0, none⟩) n c)).alloc (.cells #[.int .i64 (f n).cost, .int .i64 (f n).hops, .int .i64 (f n).node] 67)
  have hr := (AccR.kept H.out.row.pop gs (fun y hy e => H.out.ne (by simp [blk] at hy; injection e with e; omega))).alloc (.cells #[.int .i64 (f n).cost, .int .i64 (f n).hops, .int .i64 (f n).node] 67)
  have ht := (Turn.of_grown gs (S := [p, g]) (by simp)).trans (Turn.of_below (bel_new (Below.refl _ _) (.cells #[.int .i64 (f n).cost, .int .i64 (f n).hops, .int .i64 (f n).node] 67)))
  go_ret
  exact ⟨rfl, ⟨hd, hr, H.out.ge, H.out.ne⟩, ht⟩
end
end Go.Proofs.Ytkagfgnjfdlicaa

namespace Go.Proofs.Ytkagfgnjfdlicaa
set_option maxRecDepth 100000
open Go.RowKit

/-- A method of a pointer's that is the pointed value's: the value is read. -/
theorem wrap_some (t : TypeId) (a : Addr) (s m : ByteArray) : Builtin.ssaWrapNilChk_ #[t] t #[.pointer (some a), .string s, .string m] = pure (.pointer (some a)) := rfl
theorem meth_val {P : Program} {w : World} (k : Nat) (T el : TypeId) (nm : String) (F : FuncId) (a : Addr) (v : Value) (hm : (P.info? T).map (fun i => (i.methods.find? (·.name == nm)).map (fun m => (m.path, m.func))) = some (some (#[], some (F, false)))) (hu : P.underlying T = some (.pointer el))
    (hl : (loadVar el a).run P w = .ok v w) : (method (k + 1) T (.pointer (some a)) nm).run P w = .ok (F, v) w := by
  obtain ⟨i, hi, hf⟩ := Option.map_eq_some_iff.1 hm
  obtain ⟨m, hf, he⟩ := Option.map_eq_some_iff.1 hf
  injection he with h1 h2
  simp [method, typeInfo, hi, hf, h1, h2, follow, receiverAt, run_underlying hu, Place.get, wrap_some, strVal, asAddr, hl]
theorem load_items {w : World} {a : Addr} {v : Value} (h : w.cell? a = some v) : (loadVar 97 a).run Try.prog w = .ok v w := by
  simp [loadVar, isAgg, run_underlying Try.underlying97, h, go_sem]
theorem meth_len {w : World} (k : Nat) {a : Addr} {v : Value} (h : w.cell? a = some v) : (method (k + 1) 86 (.pointer (some a)) "Len").run Try.prog w = .ok (49, v) w :=
  meth_val k _ 97 _ _ a v (by kernel_rfl) Try.underlying86 (load_items h)
theorem meth_less {w : World} (k : Nat) {a : Addr} {v : Value} (h : w.cell? a = some v) : (method (k + 1) 86 (.pointer (some a)) "Less").run Try.prog w = .ok (77, v) w :=
  meth_val k _ 97 _ _ a v (by kernel_rfl) Try.underlying86 (load_items h)
theorem meth_swap {w : World} (k : Nat) {a : Addr} {v : Value} (h : w.cell? a = some v) : (method (k + 1) 86 (.pointer (some a)) "Swap").run Try.prog w = .ok (80, v) w :=
  meth_val k _ 97 _ _ a v (by kernel_rfl) Try.underlying86 (load_items h)
theorem meth_push (k : Nat) (a : Addr) (w : World) : (method (k + 1) 86 (.pointer (some a)) "Push").run Try.prog w = .ok (79, .pointer (some a)) w := by kernel_rfl
theorem meth_pop (k : Nat) (a : Addr) (w : World) : (method (k + 1) 86 (.pointer (some a)) "Pop").run Try.prog w = .ok (78, .pointer (some a)) w := by kernel_rfl

/-- A queue's items as the library's heap takes them. -/
def hpv (p : Nat) : Value := .iface 86 (.pointer (some ⟨p, 0, none⟩))
/-- What up leaves. -/
def UpPost (w : World) (base p g c n : Nat) (f : Nat → Itm) (e : Ending) (w' : World) : Prop :=
  e = .returned (.tuple #[]) ∧ ∃ f', Hpl w' base p g c n f' ∧ Hp iLe n f' ∧ (hls n f').Perm (hls n f) ∧ Turn [p, g] w w'
section
variable {w w' : World} {base p g c n : Nat} {f : Nat → Itm}
theorem Hpl.swap (h : Hpl w base p g c n f) {f' : Nat → Itm} (hr : Irow w' base g c n f') (hg : w.grownBy w' (some g)) : Hpl w' base p g c n f' :=
  ⟨h.head.same (hg.block p h.head.lt (by simp; exact h.ne)), hr, h.ge, h.ne⟩

set_option maxHeartbeats 1600000 in
theorem up_calls (h : Hpl w base p g c n f) (j : Nat) (hj : j < n) (hU : HUp iLe n f j) (hn : n ≤ 1099511627776) :
    Calls Try.prog 55 #[hpv p, .int .i64 (j : Int)] w (UpPost w base p g c n f) := by
  have H := Lib.hid h
  have HU := Lib.hid hU
  have HN := Lib.hid hn
  unfold hpv
  clear h hU hn
  go_enter Try.func55, Try.ntmps55
  go_wp2_with fail
  go_loopw [1] (fun t wr => ∃ (j : Nat) (f1 : Nat → Itm), j < n ∧ t = .int .i64 (j : Int) ∧ Hpl wr base p g c n f1 ∧ HUp iLe n f1 j ∧ (hls n f1).Perm (hls n f) ∧ Turn [p, g] w wr) (fun t wr => (intOf t).toNat)
  case atStart => exact ⟨j, f, hj, rfl, H.out, HU.out, List.Perm.refl _, Turn.refl _ _⟩
  case round =>
    obtain ⟨k, f1, hk, rfl, h1, hU1, hP1, hT1⟩ := hrel
    have H1 := Lib.hid h1
    have U1 := Lib.hid hU1
    have P1 := Lib.hid hP1
    have T1 := Lib.hid hT1
    have HK := Lib.hid hk
    clear h1 hU1 hP1 hT1 hk
    by_cases k0 : k = 0
    · subst k0
      go_wp2
      go_end0
      exact ⟨rfl, f1, H1.out, up_stop U1.out (.inl rfl), P1.out, T1.out⟩
    · obtain ⟨i, hi⟩ : ∃ i, i = par k := ⟨_, rfl⟩
      have hik : i < k := by rw [hi]; exact par_lt (by omega)
      have x0 : k < 1099511627776 := by have := HK.out; have := HN.out; omega
      have hin : i < n := by have := HK.out; omega
      have hq : ((k : Int) - 1).tdiv 2 = (i : Int) := by
        rw [Int.tdiv_eq_ediv_of_nonneg (by omega), hi]
        unfold par
        omega
      have hne : ¬ (i : Int) = (k : Int) := by omega
      have hml := fun m => meth_less (w := wr) m H1.out.cell
      have hcl := iless_calls H1.out.row k i HK.out hin
      have HI := Lib.hid hi
      unfold LessPost at hcl
      clear hi
      go_wp2_with fail
      ((with_reducible refine hcl.mono ?_))
      rintro e w2 ⟨rfl, hb⟩
      have HB := Lib.hid hb
      have H2 := Lib.hid (H1.out.bel hb)
      have T2 := Lib.hid (T1.out.trans (Turn.of_below hb))
      clear hcl hml hb hq
      by_cases hlt : iLt (f1 k) (f1 i)
      · have hms := fun m => meth_swap (w := w2) m H2.out.cell
        have hcs := iswap_calls H2.out.row i k hin HK.out
        unfold SwapPost at hcs
        have HL := Lib.hid hlt
        have hd : decide (iLt (f1 k) (f1 i)) = true := by simpa using hlt
        rw [hd]
        clear hlt hd
        go_wp2_with fail
        ((with_reducible refine hcs.mono ?_))
        rintro e w3 ⟨rfl, hr, hg⟩
        have H3 := Lib.hid (H2.out.swap hr hg)
        have T3 := Lib.hid (T2.out.trans (Turn.of_grown hg (S := [p, g]) (by simp)))
        clear hcs hms hr hg
        go_wp2_with fail
        go_roundw
        case rel =>
          refine ⟨i, hsw f1 i k, hin, rfl, H3.out, ?_, (hls_perm n f1 i k hin HK.out).trans P1.out, T3.out⟩
          rw [HI.out]
          refine up_step iLe_trans U1.out (by omega) HK.out ?_
          rw [← HI.out]
          exact iLe_of_lt HL.out
        case measure => simp [intOf]; omega
      · have HL := Lib.hid hlt
        have hd : decide (iLt (f1 k) (f1 i)) = false := by simpa using hlt
        rw [hd]
        clear hlt hd
        go_wp2
        go_end0
        exact ⟨rfl, f1, H2.out, up_stop U1.out (.inr (by rw [← HI.out]; exact HL.out)), P1.out, T2.out⟩
end
end Go.Proofs.Ytkagfgnjfdlicaa
