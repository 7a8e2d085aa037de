/-
  The document's routes (viaductref11): Best. Condition: the links read as links, at most 2^30 of them.
-/
import Derived.Test.YtkagfgnjfdlicaaSpfA
namespace Go.Proofs.Ytkagfgnjfdlicaa
set_option maxRecDepth 100000
open Go.RowKit

/-- What the document's Best answers. -/
def RBestPost (w : World) (n : Int) (L : List Lk) (a b : Int) (e : Ending) (w' : World) : Prop :=
  Below w.heap.size w w' ∧ ((¬ (chk n L = 0 ∧ 0 ≤ a ∧ a < n ∧ 0 ≤ b ∧ b < n ∧ b ≠ a) ∧ e = .returned (.tuple #[.agg #[.slice none 0 0, .int .i64 0], .int .i64 2])) ∨
    (chk n L = 0 ∧ 0 ≤ a ∧ a < n ∧ 0 ≤ b ∧ b < n ∧ b ≠ a ∧ (∀ c r, ¬ Wy L a b c r) ∧ e = .returned (.tuple #[.agg #[.slice none 0 0, .int .i64 0], .int .i64 8])) ∨
    (chk n L = 0 ∧ 0 ≤ a ∧ a < n ∧ 0 ≤ b ∧ b < n ∧ b ≠ a ∧ ∃ A c' c r, BestW L a b c r ∧ e = .returned (.tuple #[.agg #[.slice A r.length c', .int .i64 c], .int .i64 0]) ∧ Row ei w' w'.heap.size A r.length r))

set_option maxRecDepth 100000 in
set_option maxHeartbeats 1600000 in
theorem rbest_calls (n : Int) (p : Option Addr) (m cl : Nat) (L : List Lk) (a b : Int) (w : World) (h : Row lkc w w.heap.size p m L) (hm : m ≤ 1073741824) :
    Calls Try.prog 16 #[.int .i64 n, .slice p m cl, .int .i64 a, .int .i64 b] w (RBestPost w n L a b) := by
  have HR := Lib.hid h
  clear h
  go_enter Try.func16, Try.ntmps16
  go_wp2_with fail
  have hb1 : Below w.heap.size w (w.alloc (.cells #[.slice none 0 0, .int .i64 0] 37)) := bel_new (Below.refl _ _) _
  have hz1 : Blk (w.alloc (.cells #[.slice none 0 0, .int .i64 0] 37)) w.heap.size 37 [.slice none 0 0, .int .i64 0] := Blk.new w _ _
  generalize w.alloc (.cells #[.slice none 0 0, .int .i64 0] 37) = w1 at hb1 hz1 ⊢
  have hall := rall_calls n p m cl L a w1 ((HR.out.below hb1).more hb1.size) hm
  have B1 := Lib.hid hb1
  have Z1 := Lib.hid hz1
  clear hb1 hz1
  ((with_reducible refine hall.mono ?_))
  rintro e w2 ⟨hb2, hcase⟩
  have B2 := Lib.hid (B1.out.trans (hb2.mono B1.out.size))
  have Z2 := Lib.hid (Z1.out.below hb2)
  clear hb2 hall
  have f0 := Z2.out.free 0
  have f1 := Z2.out.free 1
  have e0 : w2.cell? ⟨w.heap.size, 0, none⟩ = some (.slice none 0 0) := Z2.out.cell 0
  have e1 : w2.cell? ⟨w.heap.size, 1, none⟩ = some (.int .i64 0) := Z2.out.cell 1
  rcases hcase with ⟨hno, rfl⟩ | ⟨hc, ha0, han, g, c, S, xs, rfl, hW, hA⟩
  · have HNO := Lib.hid hno
    clear hno
    go_wp2_with fail
    have hp := put2 Z2.out (.slice none 0 0) (.int .i64 0)
    clear f0 f1 e0 e1
    generalize (w2.setCell ⟨w.heap.size, 0, none⟩ (.slice none 0 0)).setCell ⟨w.heap.size, 1, none⟩ (.int .i64 0) = w3 at hp ⊢
    obtain ⟨hp1, hp2⟩ := hp
    refine bodyPost_ret (v := .tuple #[.agg #[.slice none 0 0, .int .i64 0], .int .i64 2]) (results_two8 rfl _ rfl hp1 Try.underlying37 rfl infoWay rfl) rfl ?_
    exact ⟨B2.out.grown hp2 B2.out.size (fun k hk => by injection hk with hk; omega), .inl ⟨fun hq => HNO.out ⟨hq.1, hq.2.1, hq.2.2.1⟩, rfl⟩⟩
  · have HG := Lib.hid (And.intro hc (And.intro ha0 han))
    have HW := Lib.hid hW
    have HA := Lib.hid hA
    have hnet := net_of_chk hc
    have HNET := Lib.hid hnet
    clear hc hW hA hnet
    obtain ⟨N, hN⟩ : ∃ N, N = xs.length := ⟨_, rfl⟩
    rw [← hN]
    have hNn : (N : Int) = n := by rw [hN, HW.out.len]; exact HA.out.len
    have HN := Lib.hid hNn
    have HN2 := Lib.hid hN
    clear hN hNn
    by_cases hbad : ¬ (0 ≤ b ∧ b < n ∧ b ≠ a)
    · have HBAD := Lib.hid hbad
      by_cases b0 : b < 0
      · clear hbad
        go_wp2_with fail
        have hp := put2 Z2.out (.slice none 0 0) (.int .i64 0)
        clear f0 f1 e0 e1
        generalize (w2.setCell ⟨w.heap.size, 0, none⟩ (.slice none 0 0)).setCell ⟨w.heap.size, 1, none⟩ (.int .i64 0) = w3 at hp ⊢
        obtain ⟨hp1, hp2⟩ := hp
        refine bodyPost_ret (v := .tuple #[.agg #[.slice none 0 0, .int .i64 0], .int .i64 2]) (results_two8 rfl _ rfl hp1 Try.underlying37 rfl infoWay rfl) rfl ?_
        exact ⟨B2.out.grown hp2 B2.out.size (fun k hk => by injection hk with hk; omega), .inl ⟨fun hq => HBAD.out ⟨hq.2.2.2.1, hq.2.2.2.2.1, hq.2.2.2.2.2⟩, rfl⟩⟩
      · by_cases b1 : n ≤ b
        · clear hbad
          go_wp2_with fail
          have hp := put2 Z2.out (.slice none 0 0) (.int .i64 0)
          clear f0 f1 e0 e1
          generalize (w2.setCell ⟨w.heap.size, 0, none⟩ (.slice none 0 0)).setCell ⟨w.heap.size, 1, none⟩ (.int .i64 0) = w3 at hp ⊢
          obtain ⟨hp1, hp2⟩ := hp
          refine bodyPost_ret (v := .tuple #[.agg #[.slice none 0 0, .int .i64 0], .int .i64 2]) (results_two8 rfl _ rfl hp1 Try.underlying37 rfl infoWay rfl) rfl ?_
          exact ⟨B2.out.grown hp2 B2.out.size (fun k hk => by injection hk with hk; omega), .inl ⟨fun hq => HBAD.out ⟨hq.2.2.2.1, hq.2.2.2.2.1, hq.2.2.2.2.2⟩, rfl⟩⟩
        · have b2 : b = a := by
            apply Classical.byContradiction
            intro hne
            exact hbad ⟨by omega, by omega, hne⟩
          subst b2
          clear hbad
          go_wp2_with fail
          have hp := put2 Z2.out (.slice none 0 0) (.int .i64 0)
          clear f0 f1 e0 e1
          generalize (w2.setCell ⟨w.heap.size, 0, none⟩ (.slice none 0 0)).setCell ⟨w.heap.size, 1, none⟩ (.int .i64 0) = w3 at hp ⊢
          obtain ⟨hp1, hp2⟩ := hp
          refine bodyPost_ret (v := .tuple #[.agg #[.slice none 0 0, .int .i64 0], .int .i64 2]) (results_two8 rfl _ rfl hp1 Try.underlying37 rfl infoWay rfl) rfl ?_
          exact ⟨B2.out.grown hp2 B2.out.size (fun k hk => by injection hk with hk; omega), .inl ⟨fun hq => HBAD.out ⟨hq.2.2.2.1, hq.2.2.2.2.1, hq.2.2.2.2.2⟩, rfl⟩⟩
    · have hgood : 0 ≤ b ∧ b < n ∧ b ≠ a := Classical.not_not.1 hbad
      obtain ⟨q0, q1, q2⟩ := hgood
      obtain ⟨bN, rfl⟩ : ∃ bN : Nat, b = (bN : Int) := ⟨b.toNat, by omega⟩
      have hbN : bN < N := by have := HN.out; omega
      have i1 : (bN : Int) < (N : Int) := by omega
      have hSl : S.length = N := by rw [HN2.out, HW.out.len]
      obtain ⟨x, hx⟩ : ∃ x, xs[bN]? = some x := ⟨xs[bN]'(by have := HN2.out; omega), List.getElem?_eq_getElem _⟩
      have hok := HW.out.ok bN x _ hx (sat_get (by omega))
      obtain ⟨xa, xn, xc, xco⟩ := x
      have c0 : w2.cell? ⟨g, bN * 2, none⟩ = some (.slice xa xn xc) := HW.out.range hx 0 _ rfl
      have c1 : w2.cell? ⟨g, bN * 2 + 1, none⟩ = some (.int .i64 xco) := HW.out.range hx 1 _ rfl
      have HQ := Lib.hid (And.intro q0 (And.intro q1 q2))
      have n0 : decide ((bN : Int) < 0) = false := by simp
      have n1 : decide (n ≤ (bN : Int)) = false := by simp; omega
      have n2 : ((bN : Int) == a) = false := by simpa using q2
      cases hp : sat S (bN : Int) with
      | none =>
        rw [hp] at hok
        obtain ⟨h1, h2⟩ := hok
        simp only at h1 h2
        subst h1
        subst h2
        have hnone := HA.out.none (bN : Int) q0 q1 hp
        have HNONE := Lib.hid hnone
        clear hnone hp hbad q0 q1 q2 hbN hSl hx
        go_wp2_with fail
        have hp := put2 Z2.out (.slice none 0 0) (.int .i64 0)
        clear f0 f1 e0 e1 c0 c1
        generalize (w2.setCell ⟨w.heap.size, 0, none⟩ (.slice none 0 0)).setCell ⟨w.heap.size, 1, none⟩ (.int .i64 0) = w3 at hp ⊢
        obtain ⟨hp1, hp2⟩ := hp
        refine bodyPost_ret (v := .tuple #[.agg #[.slice none 0 0, .int .i64 0], .int .i64 8]) (results_two8 rfl _ rfl hp1 Try.underlying37 rfl infoWay rfl) rfl ?_
        exact ⟨B2.out.grown hp2 B2.out.size (fun k hk => by injection hk with hk; omega), .inr (.inl ⟨HG.out.1, HG.out.2.1, HG.out.2.2, HQ.out.1, HQ.out.2.1, HQ.out.2.2, HNONE.out, rfl⟩)⟩
      | some q =>
        obtain ⟨cc, r⟩ := q
        rw [hp] at hok
        obtain ⟨h1, h2, h3, h4, h5⟩ := hok
        simp only at h1 h2 h3 h4 h5
        subst h1
        have hbest := HA.out.best (bN : Int) xco r q0 q1 hp
        have HBEST := Lib.hid hbest
        have HRR := Lib.hid h4
        have HNL := Lib.hid h3
        have hcc : ¬ xco < 0 := by omega
        have hne5 : ∀ b o, xa = some ⟨b, o, none⟩ → b ≠ w.heap.size := fun b o e => by
          have := (h5 b o e).2
          have h6 := Z1.out.lt
          omega
        have HNE := Lib.hid hne5
        clear hbest hp hbad q0 q1 q2 hbN hSl hx h3 h4 h5 hne5
        go_wp2_with fail
        have hp := put2 Z2.out (.slice xa xn xc) (.int .i64 xco)
        clear f0 f1 e0 e1 c0 c1
        generalize (w2.setCell ⟨w.heap.size, 0, none⟩ (.slice xa xn xc)).setCell ⟨w.heap.size, 1, none⟩ (.int .i64 xco) = w3 at hp ⊢
        obtain ⟨hp1, hp2⟩ := hp
        refine bodyPost_ret (v := .tuple #[.agg #[.slice xa xn xc, .int .i64 xco], .int .i64 0]) (results_two8 rfl _ rfl hp1 Try.underlying37 rfl infoWay rfl) rfl ?_
        refine ⟨B2.out.grown hp2 B2.out.size (fun k hk => by injection hk with hk; omega), .inr (.inr ⟨HG.out.1, HG.out.2.1, HG.out.2.2, HQ.out.1, HQ.out.2.1, HQ.out.2.2, xa, xc, xco, r, HBEST.out, by rw [← HNL.out], ?_⟩)⟩
        rw [← HNL.out]
        have hr := HRR.out
        refine ⟨hr.1, fun hn => ?_⟩
        obtain ⟨b, o, e, hb, hcl⟩ := hr.2 hn
        exact ⟨b, o, e, Nat.lt_of_lt_of_le hb hp2.size, fun i hi => (World.cell?_of_block (w := w2) (hp2.block b hb (by simp; exact HNE.out b o e))).trans (hcl i hi)⟩
end Go.Proofs.Ytkagfgnjfdlicaa
