/-
  The document's routes (viaductref11): Better. Condition: the lists read as whole numbers, at most 2^40 of them.
  The document's routes (viaductref11): further. Condition: the list reads as whole numbers, at most 2^30 of them; costs of at most 2^40.
  The document's routes (viaductref11): ways as they lie in memory. No condition.
  The document's routes (viaductref11): All. Condition: the links read as links, at most 2^30 of them.
  The document's routes (viaductref11): Best. Condition: the links read as links, at most 2^30 of them.
-/
import Derived.Test.YtjflbfianncpfaaSpfMO
import Derived.Test.YtjflbfianncpfaaGraphDL
import Derived.Deep.CutBlock
namespace Go.Proofs.Ytjflbfianncpfaa
set_option maxRecDepth 100000
open Go.RowKit

theorem lxl_at : ∀ (i : Nat) {r s : List Int} {x y : Int}, r.take i = s.take i → r[i]? = some x → s[i]? = some y → x ≠ y → (lxl r s ↔ x < y)
  | 0, [], _, _, _, _, h, _, _ => by simp at h
  | 0, _ :: _, [], _, _, _, _, h, _ => by simp at h
  | 0, u :: r, v :: s, x, y, _, h1, h2, hne => by
    simp at h1 h2
    subst h1
    subst h2
    unfold lxl
    constructor
    · rintro (h | ⟨h, _⟩)
      · exact h
      · exact absurd h hne
    · exact fun h => .inl h
  | i + 1, [], _, _, _, _, h, _, _ => by simp at h
  | i + 1, _ :: _, [], _, _, _, _, h, _ => by simp at h
  | i + 1, u :: r, v :: s, x, y, ht, h1, h2, hne => by
    simp at ht h1 h2
    obtain ⟨rfl, ht⟩ := ht
    have ih := lxl_at i ht h1 h2 hne
    unfold lxl
    rw [ih]
    constructor
    · rintro (h | ⟨_, h⟩)
      · omega
      · exact h
    · exact fun h => .inr ⟨rfl, h⟩

def BetPost (p q : Int × List Int) (w : World) (e : Ending) (w' : World) : Prop := e = .returned (.bool (decide (bet p q))) ∧ ∃ k, w' = w.drewN k
set_option maxHeartbeats 1600000 in
theorem rbetter_calls (c o : Int) (a b : Option Addr) (n m ca cb B B' : Nat) (r s : List Int) (w : World) (h : Row ei w B a n r) (k : Row ei w B' b m s) (hn : n ≤ 1099511627776) (hm : m ≤ 1099511627776) :
    Calls Try.prog 17 #[.int .i64 c, .slice a n ca, .int .i64 o, .slice b m cb] w (BetPost (c, r) (o, s) w) := by
  have hr := h.1
  have hs := k.1
  have HA := Lib.hid h
  have HB := Lib.hid k
  have HRL := Lib.hid hr
  have HSL := Lib.hid hs
  by_cases hc : c = o
  case neg =>
    have hd : decide (bet (c, r) (o, s)) = decide (c < o) := decide_eq_decide.2 (by
      unfold bet
      simp only
      constructor
      · rintro (h | ⟨h, _⟩)
        · exact h
        · exact absurd h hc
      · exact fun h => .inl h)
    unfold BetPost
    rw [hd]
    clear h k hr hs hd
    go_enter Try.func17, Try.ntmps17
    go_wp2
    go_ret
    exact ⟨rfl, 0, rfl⟩
  subst hc
  by_cases hnm : n = m
  case neg =>
    have hd : decide (bet (c, r) (c, s)) = decide (n < m) := decide_eq_decide.2 (by
      unfold bet
      simp only
      constructor
      · rintro (h | ⟨_, h | ⟨h, _⟩⟩) <;> omega
      · exact fun h => .inr ⟨by first | rfl | trivial, .inl (by omega)⟩)
    have hne : ¬ (n : Int) = (m : Int) := by omega
    unfold BetPost
    rw [hd]
    clear h k hr hs hd
    go_enter Try.func17, Try.ntmps17
    go_wp2
    go_ret
    exact ⟨by simp, 0, rfl⟩
  subst hnm
  clear h k hr hs
  go_enter Try.func17, Try.ntmps17
  go_wp2_with fail
  go_loopw [9] (fun t wr => ∃ i j : Nat, i ≤ n ∧ t = .int .i64 (i : Int) ∧ r.take i = s.take i ∧ wr = w.drewN j) (fun t wr => n - (intOf t).toNat)
  case atStart => exact ⟨0, 0, Nat.zero_le _, rfl, by simp, by first | rfl | trivial⟩
  case round =>
    obtain ⟨i, j, hi, rfl, ht, rfl⟩ := hrel
    have HT := Lib.hid ht
    clear ht
    by_cases hlt : i < n
    · obtain ⟨b1, o1, rfl, _, hc1⟩ := row_int HA.out (by omega)
      obtain ⟨b2, o2, rfl, _, hc2⟩ := row_int HB.out (by omega)
      have l1 : i < r.length := by rw [HRL.out]; exact hlt
      have l2 : i < s.length := by rw [HSL.out]; exact hlt
      have d1 := hc1 i l1
      have d2 := hc2 i l2
      have g1 : r[i]? = some r[i] := List.getElem?_eq_getElem l1
      have g2 : s[i]? = some s[i] := List.getElem?_eq_getElem l2
      generalize r[i] = x at d1 g1
      generalize s[i] = y at d2 g2
      have D := Lib.hid (show ∀ W : World, (∃ q, W = w.drewN q) → W.cell? ⟨b1, o1 + i, none⟩ = some (.int .i64 x) ∧ W.cell? ⟨b2, o2 + i, none⟩ = some (.int .i64 y) from by rintro W ⟨q, rfl⟩; exact ⟨d1, d2⟩)
      have G := Lib.hid (And.intro g1 g2)
      have i1 : (i : Int) < (n : Int) := by omega
      clear hc1 hc2 l1 l2 d1 d2 g1 g2
      by_cases hxy : x = y
      · subst hxy
        go_wp2_with fail
        refine region_seq (fun W => ∃ q, W = w.drewN q) [(0, true), (1, true), (2, true), (3, true), (4, true), (5, true), (6, true), (7, true), (8, true)]
          (by kernel_rfl) (by kernel_rfl) (by kernel_rfl) (by kernel_rfl) (fun _ _ _ _ _ h => h) ⟨j + 1, rfl⟩ ?_
        repeat
          refine seq_pure (v := ?_) rfl (by rfl) (fun W hW => ?_) ?_
          rotate_left
          · have e1 := (D.out W hW).1
            have e2 := (D.out W hW).2
            clear hW
            go_simp
            with_reducible rfl
          simp only [Act.put, List.setIfInBounds_toArray, List.set_cons_zero, List.set_cons_succ]
        refine seq_done ?_
        go_wp2_with fail
        go_roundw
        case rel =>
          refine ⟨i + 1, j + 1, by omega, rfl, ?_, rfl⟩
          rw [List.take_add_one, List.take_add_one, HT.out, G.out.1, G.out.2]
        case measure => simp [intOf]; omega
      · have hd : decide (bet (c, r) (c, s)) = decide (x < y) := decide_eq_decide.2 (by
          have := lxl_at i HT.out G.out.1 G.out.2 hxy
          have h1 := HRL.out
          have h2 := HSL.out
          unfold bet
          simp only
          rw [this]
          constructor
          · rintro (h | ⟨_, h | ⟨_, h⟩⟩)
            · omega
            · omega
            · exact h
          · exact fun h => .inr ⟨by first | rfl | trivial, .inr ⟨by omega, h⟩⟩)
        have HD := Lib.hid hd
        clear hd
        go_wp2_with fail
        refine region_seq (fun W => ∃ q, W = w.drewN q) [(0, true), (1, true), (2, true), (3, true), (4, true), (5, true), (6, true), (7, true), (8, true)]
          (by kernel_rfl) (by kernel_rfl) (by kernel_rfl) (by kernel_rfl) (fun _ _ _ _ _ h => h) ⟨j + 1, rfl⟩ ?_
        repeat
          refine seq_pure (v := ?_) rfl (by rfl) (fun W hW => ?_) ?_
          rotate_left
          · have e1 := (D.out W hW).1
            have e2 := (D.out W hW).2
            clear hW
            go_simp
            with_reducible rfl
          simp only [Act.put, List.setIfInBounds_toArray, List.set_cons_zero, List.set_cons_succ]
        refine seq_done ?_
        go_wp2_with fail
        refine region_seq (fun W => ∃ q, W = w.drewN q) [(0, true), (1, true), (2, true), (3, true), (4, true), (5, true), (6, true), (7, true), (8, true), (9, true)]
          (by kernel_rfl) (by kernel_rfl) (by kernel_rfl) (by kernel_rfl) (fun _ _ _ _ _ h => h) ⟨j + 2, rfl⟩ ?_
        repeat
          refine seq_pure (v := ?_) rfl (by rfl) (fun W hW => ?_) ?_
          rotate_left
          · have e1 := (D.out W hW).1
            have e2 := (D.out W hW).2
            clear hW
            go_simp
            with_reducible rfl
          simp only [Act.put, List.setIfInBounds_toArray, List.set_cons_zero, List.set_cons_succ]
        refine seq_done ?_
        go_wp2
        go_ret
        refine ⟨?_, j + 2, rfl⟩
        rw [HD.out]; rfl
    · obtain rfl : i = n := by omega
      have i1 : ¬ (i : Int) < (i : Int) := by omega
      have hd : decide (bet (c, r) (c, s)) = false := by
        have e : r = s := by
          have := HT.out
          rwa [List.take_of_length_le (by rw [HRL.out]; exact Nat.le_refl _), List.take_of_length_le (by rw [HSL.out]; exact Nat.le_refl _)] at this
        rw [e]
        simpa using bet_irrefl (c, s)
      have HD := Lib.hid hd
      clear hd
      go_wp2
      go_ret
      refine ⟨?_, j, rfl⟩
      rw [HD.out]; rfl
end Go.Proofs.Ytjflbfianncpfaa

namespace Go.Proofs.Ytjflbfianncpfaa
set_option maxRecDepth 100000
open Go.RowKit

theorem put2 {w : World} {q : Nat} {T : TypeId} {u0 u1 : Value} (h : Blk w q T [u0, u1]) (v0 v1 : Value) : Blk ((w.setCell ⟨q, 0, none⟩ v0).setCell ⟨q, 1, none⟩ v1) q T [v0, v1] ∧ w.grownBy ((w.setCell ⟨q, 0, none⟩ v0).setCell ⟨q, 1, none⟩ v1) (some q) := by
  have g : ∀ (w : World) (i : Nat) (v : Value), w.grownBy (w.setCell ⟨q, i, none⟩ v) (some q) := fun w i v => ⟨rfl, rfl, rfl, by simp, fun k _ hk => heap_setCell_other w ⟨q, i, none⟩ k _ (fun e => hk (by simp [e]))⟩
  exact ⟨(h.set 0 v0).set 1 v1, (g _ _ _).trans (g _ _ _)⟩
theorem infoWay : (Try.prog.info? 71).map (·.size) = some 2 := by kernel_rfl
/-- A way with a node behind it. -/
def FurPost (w : World) (r : List Int) (c t m : Int) (e : Ending) (w' : World) : Prop :=
  Below w.heap.size w w' ∧ ∃ A c', e = .returned (.agg #[.slice A (r.length + 1) c', .int .i64 (c + m)]) ∧ AccI w' w.heap.size A c' (r ++ [t])
end Go.Proofs.Ytjflbfianncpfaa

namespace Go.Proofs.Ytjflbfianncpfaa
set_option maxRecDepth 100000
open Go.RowKit

/-- A way's cells. -/
structure Wc where
  a : Option Addr
  n : Nat
  c : Nat
  cost : Int
def wenc (x : Wc) : List Value := [.slice x.a x.n x.c, .int .i64 x.cost]
theorem wenc_length (x : Wc) : (wenc x).length = 2 := rfl
theorem wenc_one (x : Wc) : ∀ u ∈ wenc x, u.oneCell' = true := by intro u hu; simp [wenc] at hu; rcases hu with rfl | rfl <;> rfl
theorem infoWay3 : (Try.prog.info? 71).map (fun i => (i.zero, i.size, i.bytes)) = some (some (.agg #[.slice none 0 0, .int .i64 0]), 2, 32) := by kernel_rfl
/-- What a way tells. -/
def WayOk (W : World) (B g : Nat) (x : Wc) : Option (Int × List Int) → Prop
  | none => x.n = 0 ∧ x.cost = -1
  | some (c, r) => x.cost = c ∧ 0 ≤ c ∧ x.n = r.length ∧ Row ei W W.heap.size x.a x.n r ∧ ∀ b o, x.a = some ⟨b, o, none⟩ → b ≠ g ∧ B ≤ b
/-- Ways in a block, and what they tell. -/
structure Wys (w W : World) (g c : Nat) (S : List (Option (Int × List Int))) (xs : List Wc) : Prop where
  row : AccR wenc 2 W w.heap.size 71 (some ⟨g, 0, none⟩) c xs
  len : xs.length = S.length
  ok : ∀ (i : Nat) (x : Wc) (p : Option (Int × List Int)), xs[i]? = some x → S[i]? = some p → WayOk W w.heap.size g x p
  bel : Below w.heap.size w W
section
variable {w W W' : World} {g c : Nat} {S : List (Option (Int × List Int))} {xs : List Wc}
theorem WayOk.below {B : Nat} {x : Wc} {p : Option (Int × List Int)} (h : WayOk W B g x p) (hb : Below W.heap.size W W') : WayOk W' B g x p := by
  cases p with
  | none => exact h
  | some q => exact ⟨h.1, h.2.1, h.2.2.1, (h.2.2.2.1.below hb).more hb.size, h.2.2.2.2⟩
theorem Wys.below (h : Wys w W g c S xs) (hb : Below W.heap.size W W') : Wys w W' g c S xs :=
  ⟨h.row.bel hb, h.len, fun i x p h1 h2 => (h.ok i x p h1 h2).below hb, h.bel.trans (hb.mono h.bel.size)⟩
theorem Wys.lt (h : Wys w W g c S xs) : w.heap.size ≤ g ∧ g < W.heap.size := AccR.ge h.row rfl
theorem Wys.range (h : Wys w W g c S xs) {i : Nat} {x : Wc} (hi : xs[i]? = some x) : W.rangeAt g (i * 2) (wenc x) := by
  have hlt : i < xs.length := (List.getElem?_eq_some_iff.1 hi).1
  intro j v hv
  have hj : j < 2 := by have := (List.getElem?_eq_some_iff.1 hv).1; simpa [wenc] using this
  have h1 := World.ownsRow.cellAt h.row (i * 2 + j) (by omega)
  have h2 := flat_get wenc_length xs i hlt j hj
  have h3 : xs[i] = x := by rw [List.getElem?_eq_getElem hlt] at hi; injection hi
  rw [h3] at h2
  rw [h1, h2]; exact hv
theorem Wys.free (h : Wys w W g c S xs) (j : Nat) : W.frozen? ⟨g, j, none⟩ = false := World.ownsRow.frozenAt h.row j
theorem flat_set2 (a : Value) (b : Value) (y : Wc) (hy : wenc y = [a, b]) : ∀ (L : List Wc) (i : Nat), ((L.flatMap wenc).set (i * 2) a).set (i * 2 + 1) b = (L.set i y).flatMap wenc
  | [], i => by simp
  | x :: L, 0 => by simp [hy]; simp [wenc]
  | x :: L, i + 1 => by
    have e : (i + 1) * 2 = i * 2 + 2 := by omega
    rw [e, List.set_cons_succ, List.flatMap_cons, List.flatMap_cons, ← flat_set2 a b y hy L i]
    simp [wenc]
/-- A way is laid over another one. -/
theorem Wys.store (h : Wys w W g c S xs) {i : Nat} (y : Wc) (q : Option (Int × List Int)) (hq : WayOk W w.heap.size g y q) :
    Wys w ((W.setCell ⟨g, i * 2, none⟩ (.slice y.a y.n y.c)).setCell ⟨g, i * 2 + 1, none⟩ (.int .i64 y.cost)) g c (S.set i q) (xs.set i y) := by
  have s1 := World.ownsRow.stored h.row (i * 2) (.slice y.a y.n y.c)
  have s2 := World.ownsRow.stored s1.1 (i * 2 + 1) (.int .i64 y.cost)
  have hg := s1.2.trans s2.2
  have t := s2.1
  rw [flat_set2 _ _ y rfl] at t
  have hgb : Below w.heap.size w ((W.setCell ⟨g, i * 2, none⟩ (.slice y.a y.n y.c)).setCell ⟨g, i * 2 + 1, none⟩ (.int .i64 y.cost)) := h.bel.grown hg h.bel.size (fun k hk => by injection hk with hk; have := h.lt; omega)
  have keep : ∀ (x : Wc) (p : Option (Int × List Int)), WayOk W w.heap.size g x p → WayOk ((W.setCell ⟨g, i * 2, none⟩ (.slice y.a y.n y.c)).setCell ⟨g, i * 2 + 1, none⟩ (.int .i64 y.cost)) w.heap.size g x p := by
    intro x p hp
    cases p with
    | none => exact hp
    | some q =>
      refine ⟨hp.1, hp.2.1, hp.2.2.1, ?_, hp.2.2.2.2⟩
      have hr := hp.2.2.2.1
      refine ⟨hr.1, fun hn => ?_⟩
      obtain ⟨b, o, e, hb, hc⟩ := hr.2 hn
      have hne := (hp.2.2.2.2 b o e).1
      exact ⟨b, o, e, Nat.lt_of_lt_of_le hb hg.size, fun k hk => (World.cell?_of_block (w := W) (hg.block b hb (by simp; exact hne))).trans (hc k hk)⟩
  refine ⟨?_, by rw [List.length_set, List.length_set]; exact h.len, fun k x p hx hp => ?_, hgb⟩
  · unfold AccR
    rw [List.length_set]
    exact t
  · rw [List.getElem?_set] at hx hp
    by_cases hk : i = k
    · subst hk
      have hlen := h.len
      by_cases hl : i < xs.length
      · rw [if_pos rfl, if_pos hl] at hx
        rw [if_pos rfl, if_pos (by omega)] at hp
        injection hx with hx
        injection hp with hp
        subst hx
        subst hp
        exact keep y q hq
      · rw [if_pos rfl, if_neg hl] at hx; cases hx
    · rw [if_neg hk] at hx hp
      exact keep x p (h.ok k x p hx hp)
/-- A block of another type is another block. -/
theorem accr_ne {α : Type} {enc : α → List Value} {k base q : Nat} {T T' : TypeId} {A : Option Addr} {cc : Nat} {l : List α} {vs : List Value} (h : AccR enc k W base T A cc l) (hb : Blk W q T' vs) (hne : T ≠ T') : ∀ x, blk A = some x → x ≠ q := by
  intro x hx e
  subst e
  rcases h.2 with ⟨hv, _⟩ | ⟨g', cap, cur, hv, _, hh, _⟩
  · injection hv with e1 _ _
    subst e1
    simp [blk] at hx
  · injection hv with e1 _ _
    subst e1
    simp [blk] at hx
    subst hx
    unfold Blk at hb
    rw [hb] at hh
    injection hh with hh
    injection hh with _ hh _
    exact hne hh.symm
end
end Go.Proofs.Ytjflbfianncpfaa

namespace Go.Proofs.Ytjflbfianncpfaa
set_option maxRecDepth 100000
open Go.RowKit

theorem net_of_chk {n : Int} {L : List Lk} (h : chk n L = 0) : 1 ≤ n ∧ n ≤ 16 ∧ L.length ≤ 64 ∧ NetOk n L := by
  unfold chk at h
  split at h
  · split at h
    · omega
    · split at h
      · rename_i h1 h2 h3
        refine ⟨h1.1, h1.2, by omega, fun z hz => ?_⟩
        simp only [netB, Bool.and_eq_true, List.all_eq_true] at h3
        have := h3.1 z hz
        simp only [vld, gwn, Bool.and_eq_true, decide_eq_true_eq] at this
        omega
      · omega
  · omega
/-- An operation behind a guard that does not hold is not carried out. -/
theorem seq_unmakeS {P : Program} {ops : Array Oper} {Q : Exit → Act → World → Prop} {S : World → Prop} {i : Nat} {r : List (Nat × Bool)} {a : Act} {w : World} {o : Oper} (ho : ops.toList[i]? = some o) (hw : Region.wanted o (yielded ops a.tmps) = false) (hS : S w)
    (h : wpSeq P ops Q S r (a.put o.dst undef) w) : wpSeq P ops Q S ((i, false) :: r) a w := by
  refine wpOp_step (o := o) (by rw [← Array.getElem?_toList]; exact ho) (fun K hK => ?_)
  rw [if_neg (by rw [hw]; exact Bool.false_ne_true)]
  exact hK _ _ ⟨S, fun _ h => h, hS, h⟩
theorem fold_take {L : List Lk} {u : Nat} (hu : u < L.length) (S : List (Option (Int × List Int))) : (L.take (u + 1)).foldl rlx S = rlx ((L.take u).foldl rlx S) L[u] := by
  rw [List.take_succ_eq_append_getElem hu, List.foldl_append]; rfl
theorem rlx_none {S : List (Option (Int × List Int))} {z : Lk} (h : sat S z.f = none) : rlx S z = S := by unfold rlx; rw [h]
theorem rlx_in {S : List (Option (Int × List Int))} {z : Lk} {c : Int} {r : List Int} (h : sat S z.f = some (c, r)) (ht : z.t ∈ r) : rlx S z = S := by unfold rlx; rw [h]; simp [ht]
theorem rlx_set {S : List (Option (Int × List Int))} {z : Lk} {c : Int} {r : List Int} (h : sat S z.f = some (c, r)) (ht : z.t ∉ r) (hb : ∀ q, sat S z.t = some q → bet (c + z.m, r ++ [z.t]) q) : rlx S z = S.set z.t.toNat (some (c + z.m, r ++ [z.t])) := by
  unfold rlx
  rw [h]
  simp only [ht, if_false]
  cases h2 : sat S z.t with
  | none => rfl
  | some q => simp only [hb q h2, if_true]
theorem rlx_not {S : List (Option (Int × List Int))} {z : Lk} {c : Int} {r : List Int} {q : Int × List Int} (h : sat S z.f = some (c, r)) (ht : z.t ∉ r) (h2 : sat S z.t = some q) (hb : ¬ bet (c + z.m, r ++ [z.t]) q) : rlx S z = S := by
  unfold rlx
  rw [h]
  simp only [ht, if_false]
  rw [h2]
  simp [hb]
theorem sat_get {S : List (Option (Int × List Int))} {i : Nat} (h : i < S.length) : S[i]? = some (sat S (i : Int)) := by
  simp [sat, List.getD_eq_getElem?_getD, h]
/-- What the document's All answers. -/
def RAllPost (w : World) (n : Int) (L : List Lk) (a : Int) (e : Ending) (w' : World) : Prop :=
  Below w.heap.size w w' ∧ ((¬ (chk n L = 0 ∧ 0 ≤ a ∧ a < n) ∧ e = .returned (.tuple #[.slice none 0 0, .int .i64 2])) ∨
    (chk n L = 0 ∧ 0 ≤ a ∧ a < n ∧ ∃ g c S xs, e = .returned (.tuple #[.slice (some ⟨g, 0, none⟩) xs.length c, .int .i64 0]) ∧ Wys w w' g c S xs ∧ AllW n L a S))

end Go.Proofs.Ytjflbfianncpfaa

namespace Go.Proofs.Ytjflbfianncpfaa
set_option maxRecDepth 100000
open Go.RowKit

/-- What the document's Best answers. -/
def RBestPost (w : World) (n : Int) (L : List Lk) (a b : Int) (e : Ending) (w' : World) : Prop :=
  Below w.heap.size w w' ∧ ((¬ (chk n L = 0 ∧ 0 ≤ a ∧ a < n ∧ 0 ≤ b ∧ b < n ∧ b ≠ a) ∧ e = .returned (.tuple #[.agg #[.slice none 0 0, .int .i64 0], .int .i64 2])) ∨
    (chk n L = 0 ∧ 0 ≤ a ∧ a < n ∧ 0 ≤ b ∧ b < n ∧ b ≠ a ∧ (∀ c r, ¬ Wy L a b c r) ∧ e = .returned (.tuple #[.agg #[.slice none 0 0, .int .i64 0], .int .i64 8])) ∨
    (chk n L = 0 ∧ 0 ≤ a ∧ a < n ∧ 0 ≤ b ∧ b < n ∧ b ≠ a ∧ ∃ A c' c r, BestW L a b c r ∧ e = .returned (.tuple #[.agg #[.slice A r.length c', .int .i64 c], .int .i64 0]) ∧ Row ei w' w'.heap.size A r.length r))

end Go.Proofs.Ytjflbfianncpfaa
