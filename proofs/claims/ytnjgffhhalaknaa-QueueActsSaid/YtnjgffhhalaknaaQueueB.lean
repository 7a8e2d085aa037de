/-
  Contracts of package queue: what items' own methods do, but for Push. Condition: the places are there.
-/
import Derived.Test.YtnjgffhhalaknaaQueueA
import Derived.WalkSmall
namespace Go.Proofs.Ytnjgffhhalaknaa
open Go.RowKit

def iupd (f : Nat → Itm) (i : Nat) (x : Itm) : Nat → Itm := fun k => if k = i then x else f k
theorem hsw_iupd (f : Nat → Itm) (p q : Nat) : hsw f p q = iupd (iupd f p (f q)) q (f p) := rfl
theorem hls_set (n : Nat) (f : Nat → Itm) (i : Nat) (x : Itm) (hi : i < n) : hls n (iupd f i x) = (hls n f).set i x := by
  apply List.ext_getElem?
  intro k
  rcases Nat.lt_or_ge k n with hk | hk
  · rw [hls_get _ _ _ hk, List.getElem?_set]
    unfold iupd
    by_cases h : i = k
    · subst h; simp [hls_length, hi]
    · rw [if_neg (fun e => h e.symm), if_neg h, hls_get _ _ _ hk]
  · rw [List.getElem?_eq_none (by rw [hls_length]; exact hk), List.getElem?_eq_none (by simp [hls_length]; exact hk)]
theorem flat_set3 (a b c : Int) : ∀ (L : List Itm) (i : Nat), (((L.flatMap itL).set (i * 3) (.int .i64 a)).set (i * 3 + 1) (.int .i64 b)).set (i * 3 + 2) (.int .i64 c) = (L.set i ⟨a, b, c⟩).flatMap itL
  | [], i => by simp
  | y :: L, 0 => by simp [itL]
  | y :: L, i + 1 => by
    have e : (i + 1) * 3 = i * 3 + 3 := by omega
    rw [e, List.set_cons_succ, List.flatMap_cons, List.flatMap_cons, ← flat_set3 a b c L i]
    simp [itL]

/-- A row of items in a block, by its places. -/
def Irow (w : World) (base g c n : Nat) (f : Nat → Itm) : Prop := AccR itL 3 w base 25 (some ⟨g, 0, none⟩) c (hls n f)
section
variable {w w' : World} {base g c n : Nat} {f : Nat → Itm}
theorem Irow.range (h : Irow w base g c n f) {i : Nat} (hi : i < n) : w.rangeAt g (i * 3) (itL (f i)) := by
  intro j v hv
  have hj : j < 3 := by have := (List.getElem?_eq_some_iff.1 hv).1; simpa [itL] using this
  have h1 := World.ownsRow.cellAt h (i * 3 + j) (by rw [hls_length]; omega)
  have h2 := flat_get itL_length (hls n f) i (by rw [hls_length]; exact hi) j hj
  rw [hls_get' n f i] at h2
  rw [h1, h2]; exact hv
theorem Irow.there (h : Irow w base g c n f) {i : Nat} (hi : i < n) : w.there g (i * 3) 3 := fun j hj => by
  refine ⟨?_, World.ownsRow.frozenAt h _⟩
  have h1 : (itL (f i))[j]? = some ((itL (f i))[j]'(by simp [itL]; omega)) := List.getElem?_eq_getElem _
  rw [h.range hi j _ h1]; rfl
theorem Irow.store (h : Irow w base g c n f) {i : Nat} (hi : i < n) (x : Itm) : Irow (w.setCells g (i * 3) (itL x)) base g c n (iupd f i x) ∧ w.grownBy (w.setCells g (i * 3) (itL x)) (some g) := by
  have s1 := World.ownsRow.stored h (i * 3) (.int .i64 x.cost)
  have s2 := World.ownsRow.stored s1.1 (i * 3 + 1) (.int .i64 x.hops)
  have s3 := World.ownsRow.stored s2.1 (i * 3 + 2) (.int .i64 x.node)
  have e : w.setCells g (i * 3) (itL x) = (((w.setCell ⟨g, i * 3, none⟩ (.int .i64 x.cost)).setCell ⟨g, i * 3 + 1, none⟩ (.int .i64 x.hops)).setCell ⟨g, i * 3 + 2, none⟩ (.int .i64 x.node)) := rfl
  rw [e]
  refine ⟨?_, (s1.2.trans s2.2).trans s3.2⟩
  have t := s3.1
  rw [flat_set3, ← hls_set n f i x hi] at t
  unfold Irow AccR
  have hl : (hls n (iupd f i x)).length = (hls n f).length := by rw [hls_length, hls_length]
  rw [hl]
  exact t
theorem Irow.swap (h : Irow w base g c n f) {i j : Nat} (hi : i < n) (hj : j < n) : Irow ((w.setCells g (i * 3) (itL (f j))).setCells g (j * 3) (itL (f i))) base g c n (hsw f i j) ∧ w.grownBy ((w.setCells g (i * 3) (itL (f j))).setCells g (j * 3) (itL (f i))) (some g) := by
  have h1 := h.store hi (f j)
  have h2 := h1.1.store hj (f i)
  exact ⟨h2.1, h1.2.trans h2.2⟩
theorem Irow.pop (h : Irow w base g c (n + 1) f) : Irow w base g c n f := by
  unfold Irow AccR at h ⊢
  rw [hls_length] at h ⊢
  rw [hls_snoc, List.flatMap_append] at h
  exact ownsRow_pop (by rw [flat_length itL_length, hls_length]) h
theorem Irow.cap (h : Irow w base g c n f) : n ≤ c ∧ c ≤ maxLen := by have := AccR.cap h; rwa [hls_length] at this
theorem Irow.lt (h : Irow w base g c n f) : base ≤ g ∧ g < w.heap.size := AccR.ge h rfl
theorem Irow.bel (h : Irow w base g c n f) (hb : Below w.heap.size w w') : Irow w' base g c n f := AccR.bel h hb
theorem Irow.drew (h : Irow w base g c n f) : Irow w.drew base g c n f := h
end
theorem infoItem : (Try.prog.info? 25).map (·.size) = some 3 := by kernel_rfl

section
variable {w : World} {base g c n : Nat} {f : Nat → Itm}
theorem seq_load_at {P : Program} {ops : Array Oper} {Q : Exit → Act → World → Prop} {S : World → Prop} {i : Nat} {r : List (Nat × Bool)} {a : Act} {w : World} {o : Oper} {x : Operand} {ty : TypeId} {g k : Nat} {vs : List Value} {d : TypeDesc}
    (ho : ops.toList[i]? = some o) (hw : Region.wanted o (yielded ops a.tmps) = true) (hop : o.op = .load ty x) (hx : a.eval x = .pointer (some ⟨g, k, none⟩)) (hb : ∀ W, S W → W.rangeAt g k vs) (hu : P.underlying ty = some d) (hd : d.isRow = true) (hi : (P.info? ty).map (·.size) = some vs.length)
    (h : wpSeq P ops Q S r (a.put o.dst (.agg vs.toArray)) w) : wpSeq P ops Q S ((i, true) :: r) a w :=
  ⟨o, _, by rw [← Array.getElem?_toList]; exact ho, yieldsIf_load_mid hw ty x hop g k hx vs d hb hu hd hi, h⟩

theorem ilen_calls (A : Option Addr) (n c : Nat) (w : World) : Calls Try.prog 24 #[.slice A n c] w fun e w' => e = .returned (.int .i64 (n : Int)) ∧ w' = w := by
  go_enter Try.func24, Try.ntmps24
  go_wp2
  go_ret
  exact ⟨rfl, rfl⟩

theorem iless_calls (h : Irow w base g c n f) (i j : Nat) (hi : i < n) (hj : j < n) :
    Calls Try.prog 44 #[.slice (some ⟨g, 0, none⟩) n c, .int .i64 (i : Int), .int .i64 (j : Int)] w (LessPost (f i) (f j) w) := by
  have H := Lib.hid h
  have i1 : (i : Int) < (n : Int) := by omega
  have j1 : (j : Int) < (n : Int) := by omega
  have HI := Lib.hid hi
  have HJ := Lib.hid hj
  clear h hi hj
  go_enter Try.func44, Try.ntmps44
  go_wp2_with fail
  refine region_seq (fun W => Below w.heap.size w W) [(0, true), (1, true), (2, true), (3, true), (4, true), (5, true), (6, true), (7, true), (8, false), (9, true)]
    (by kernel_rfl) (by kernel_rfl) (by kernel_rfl) (by kernel_rfl) (fun _ _ _ _ _ h => h) (Below.refl _ _).drew ?_
  repeat first
    | refine seq_load_at rfl (by rfl) rfl rfl (fun W hW => (H.out.bel hW).range HI.out) Try.underlying25 rfl infoItem ?_
      simp only [Act.put, List.setIfInBounds_toArray, List.set_cons_zero, List.set_cons_succ]
    | refine seq_load_at rfl (by rfl) rfl rfl (fun W hW => (H.out.bel hW).range HJ.out) Try.underlying25 rfl infoItem ?_
      simp only [Act.put, List.setIfInBounds_toArray, List.set_cons_zero, List.set_cons_succ]
    | refine seq_pure (v := ?_) rfl (by rfl) (fun W hW => ?_) ?_
      rotate_left
      · clear hW
        go_simp
        with_reducible rfl
      simp only [Act.put, List.setIfInBounds_toArray, List.set_cons_zero, List.set_cons_succ]
  refine seq_make rfl (by rfl) (fun K hK => ?_)
  go_simp
  have hc := less_calls (f i) (f j) w.drew
  unfold LessPost at hc
  ((with_reducible refine hc.mono ?_))
  rintro e w1 ⟨rfl, hb⟩
  have HB := Lib.hid (show Below w.heap.size w w1 from ⟨hb.os, hb.tape, hb.output, hb.size, hb.block⟩)
  clear hb hc
  go_simp
  refine hK _ _ (fun W => Below w.heap.size w W) (fun W h => h) HB.out ?_
  clear hK K
  refine seq_pure (v := ?_) rfl (by rfl) (fun W hW => ?_) ?_
  rotate_left
  · clear hW
    go_simp
    with_reducible rfl
  simp only [Act.put, List.setIfInBounds_toArray, List.set_cons_zero, List.set_cons_succ]
  refine seq_done ?_
  go_wp2
  go_ret
  exact ⟨rfl, HB.out⟩
/-- What Swap leaves. -/
def SwapPost (w : World) (base g c n : Nat) (f : Nat → Itm) (e : Ending) (w' : World) : Prop :=
  e = .returned (.tuple #[]) ∧ Irow w' base g c n f ∧ w.grownBy w' (some g)
theorem iswap_calls (h : Irow w base g c n f) (i j : Nat) (hi : i < n) (hj : j < n) :
    Calls Try.prog 47 #[.slice (some ⟨g, 0, none⟩) n c, .int .i64 (i : Int), .int .i64 (j : Int)] w (SwapPost w base g c n (hsw f i j)) := by
  have H := Lib.hid h
  have i1 : (i : Int) < (n : Int) := by omega
  have j1 : (j : Int) < (n : Int) := by omega
  have HI := Lib.hid hi
  have HJ := Lib.hid hj
  clear h hi hj
  go_enter Try.func47, Try.ntmps47
  go_wp2_with fail
  refine region_way (fun _ => True) (.step 0 true (.step 1 true (.step 2 true (.step 3 true (.step 4 true (.step 5 true (.step 6 true (.step 8 true (.step 9 true (.step 10 true (.both 7 11 (.step 11 false (.step 12 true (.step 13 false (.step 14 true (.step 15 false .done))))) (.step 7 false (.step 12 true (.step 13 false (.step 14 true (.step 15 false .done))))))))))))))))
    (by kernel_rfl) (by kernel_rfl) (by kernel_rfl) (by kernel_rfl) (fun _ _ _ _ _ h => h) trivial ?_
  repeat
    refine way_pure (v := ?_) rfl (by rfl) (fun W _ => ?_) ?_
    rotate_left
    · go_simp
      with_reducible rfl
    simp only [Act.put, List.setIfInBounds_toArray, List.set_cons_zero, List.set_cons_succ]
  refine way_both rfl (by rfl) rfl (by rfl) (fun K hK => ?_) (fun K hK => ?_)
  all_goals
    first
      | refine wp_load_mid _ _ rfl g _ rfl (itL (f i)) _ (H.out.drew.range HI.out) Try.underlying25 rfl infoItem ?_
      | refine wp_load_mid _ _ rfl g _ rfl (itL (f j)) _ (H.out.drew.range HJ.out) Try.underlying25 rfl infoItem ?_
    refine hK _ _ (fun _ => True) (fun _ _ => trivial) trivial ?_
    clear hK K
    refine way_make rfl (by rfl) (fun K hK => ?_)
    first
      | refine wp_load_mid _ _ rfl g _ rfl (itL (f i)) _ (H.out.drew.range HI.out) Try.underlying25 rfl infoItem ?_
      | refine wp_load_mid _ _ rfl g _ rfl (itL (f j)) _ (H.out.drew.range HJ.out) Try.underlying25 rfl infoItem ?_
    refine hK _ _ (fun _ => True) (fun _ _ => trivial) trivial ?_
    clear hK K
    refine way_pure (v := ?_) rfl (by rfl) (fun W _ => ?_) ?_
    rotate_left
    · go_simp
      with_reducible rfl
    simp only [Act.put, List.setIfInBounds_toArray, List.set_cons_zero, List.set_cons_succ]
    refine way_make rfl (by rfl) (fun K hK => ?_)
    refine wp_store_mid _ _ _ rfl g (i * 3) (itL (f j)).toArray rfl rfl (H.out.drew.there HI.out) infoItem (all_oneCell_toArray (itL_one _)) ?_
    refine hK _ _ (fun _ => True) (fun _ _ => trivial) trivial ?_
    clear hK K
    refine way_pure (v := ?_) rfl (by rfl) (fun W _ => ?_) ?_
    rotate_left
    · go_simp
      with_reducible rfl
    simp only [Act.put, List.setIfInBounds_toArray, List.set_cons_zero, List.set_cons_succ]
    refine way_make rfl (by rfl) (fun K hK => ?_)
    refine wp_store_mid _ _ _ rfl g (j * 3) (itL (f i)).toArray rfl rfl ((H.out.drew.store HI.out (f j)).1.there HJ.out) infoItem (all_oneCell_toArray (itL_one _)) ?_
    refine hK _ _ (fun _ => True) (fun _ _ => trivial) trivial ?_
    clear hK K
    refine way_done ?_
    have HS := Lib.hid (H.out.drew.swap HI.out HJ.out)
    generalize (w.drew.setCells g (i * 3) (itL (f j))).setCells g (j * 3) (itL (f i)) = w2 at *
    go_wp2
    go_end0
    exact ⟨rfl, HS.out.1, ⟨HS.out.2.os, HS.out.2.tape, HS.out.2.output, HS.out.2.size, HS.out.2.block⟩⟩
end
end Go.Proofs.Ytnjgffhhalaknaa
