/-
  What the calls of package spf are to answer, as conditions; under them, the law's own first look (alive) comes out. Condition: what each names.
-/
import Derived.Test.YtkagfgnjfdlicaaSpfB
import Derived.Test.YtkagfgnjfdlicaaSpfP
import Derived.Test.YtkagfgnjfdlicaaGraphI
import Derived.Deep.CutBlock
namespace Go.Proofs.Ytkagfgnjfdlicaa
set_option maxRecDepth 100000
open Go.RowKit

/-- Better answers as the document says. -/
def BetterOk : Prop := ∀ (c o : Int) (a b : Option Addr) (n m ca cb : Nat) (r s : List Int) (w : World), Row ei w w.heap.size a n r → Row ei w w.heap.size b m s → n ≤ 1099511627776 → m ≤ 1099511627776 →
    Calls Try.prog 10 #[.int .i64 c, .slice a n ca, .int .i64 o, .slice b m cb] w (fun e w' => e = .returned (.bool (decide (bet (c, r) (o, s)))) ∧ Below w.heap.size w w')
/-- Two nodes of a network that are not one. -/
def GoodQ (n : Int) (L : List Lk) (a b : Int) : Prop := chk n L = 0 ∧ 0 ≤ a ∧ a < n ∧ 0 ≤ b ∧ b < n ∧ b ≠ a
/-- What Best answers. -/
def SBestPost (w : World) (n : Int) (L : List Lk) (a b : Int) (e : Ending) (w' : World) : Prop :=
  Below w.heap.size w w' ∧ ((¬ GoodQ n L a b ∧ ∃ A c, e = .returned (.tuple #[.slice A 0 c, .int .i64 0, .int .i64 2])) ∨
    (GoodQ n L a b ∧ (∀ c r, ¬ Wy L a b c r) ∧ ∃ A c, e = .returned (.tuple #[.slice A 0 c, .int .i64 0, .int .i64 8])) ∨
    (GoodQ n L a b ∧ ∃ A c' c r, BestW L a b c r ∧ e = .returned (.tuple #[.slice A r.length c', .int .i64 c, .int .i64 0]) ∧ r.length ≤ c' ∧ Row ei w' w'.heap.size A r.length r))
def BestOk : Prop := ∀ (n : Int) (p : Option Addr) (m cl : Nat) (L : List Lk) (a b : Int) (w : World), -9223372036854775808 ≤ n → n ≤ 9223372036854775807 → Row lkc w w.heap.size p m L → m ≤ 1073741824 →
    Calls Try.prog 15 #[.int .i64 n, .slice p m cl, .int .i64 a, .int .i64 b] w (SBestPost w n L a b)

/-- The network of the chapter. -/
def net5 : List Lk := [⟨0, 1, 0, 1, 0⟩, ⟨1, 3, 0, 1, 0⟩, ⟨0, 2, 0, 1, 0⟩, ⟨2, 3, 0, 1, 0⟩, ⟨0, 3, 0, 3, 0⟩]
theorem net5_chk : chk 4 net5 = 0 := by decide
theorem net5_best : BestW net5 0 3 2 [0, 1, 3] :=
  (rnds_all (L := net5) (n := 4) (a := 0) (net_of_chk net5_chk).2.2.2 (by omega) (by omega)).best 3 2 [0, 1, 3] (by omega) (by omega) (by decide +kernel)
theorem net5_none : ∀ c r, ¬ Wy net5 3 0 c r :=
  (rnds_all (L := net5) (n := 4) (a := 3) (net_of_chk net5_chk).2.2.2 (by omega) (by omega)).none 0 (by omega) (by omega) (by decide +kernel)
theorem net5_cells : lkc ⟨0, 1, 0, 1, 0⟩ ++ lkc ⟨1, 3, 0, 1, 0⟩ ++ lkc ⟨0, 2, 0, 1, 0⟩ ++ lkc ⟨2, 3, 0, 1, 0⟩ ++ lkc ⟨0, 3, 0, 3, 0⟩ = net5.flatMap lkc := rfl
theorem blk_rowS {α : Type} {enc : α → List Value} {w : World} {g : Nat} {T : TypeId} {l : List α} (h : Blk w g T (l.flatMap enc)) : Row enc w (g + 1) (some ⟨g, 0, none⟩) l.length l :=
  ⟨rfl, fun _ => ⟨g, 0, rfl, by omega, fun i hi => by rw [Nat.zero_add, h.cell]; simp⟩⟩

set_option maxRecDepth 100000 in
set_option maxHeartbeats 1600000 in
theorem alive11_calls (hB : BetterOk) (hS : BestOk) (w : World) : Calls Try.prog 9 #[] w fun e w' => e = .returned (.bool true) ∧ Below w.heap.size w w' := by
  have HB := Lib.hid hB
  have HS := Lib.hid hS
  have q0 := Blk.new w 53 (net5.flatMap lkc)
  have b0 := bel_new (Below.refl w.heap.size w) (.cells (net5.flatMap lkc).toArray 53)
  rw [← net5_cells] at q0 b0
  simp only [lkc, List.cons_append, List.nil_append] at q0 b0
  clear hB hS
  go_enter Try.func9, Try.ntmps9
  go_upto_region 2 with fail
  generalize w.alloc (.cells #[.int .i64 0, .int .i64 1, .int .u64 0, .int .i64 1, .int .u32 0, .int .i64 1, .int .i64 3, .int .u64 0, .int .i64 1, .int .u32 0, .int .i64 0, .int .i64 2, .int .u64 0, .int .i64 1, .int .u32 0, .int .i64 2, .int .i64 3, .int .u64 0, .int .i64 1, .int .u32 0, .int .i64 0, .int .i64 3, .int .u64 0, .int .i64 3, .int .u32 0] 53) = w1 at *
  have B1 := Lib.hid b0
  have R1 := Lib.hid ((show Row lkc w1 (w.heap.size + 1) (some ⟨w.heap.size, 0, none⟩) 5 net5 from blk_rowS (l := net5) q0).more (Blk.lt q0))
  clear q0 b0
  have hc := HS.out 4 (some ⟨w.heap.size, 0, none⟩) 5 5 net5 0 3 w1 (by omega) (by omega) R1.out (by omega)
  go_wp2_with fail
  ((with_reducible refine hc.mono ?_))
  rintro e w2 ⟨hb2, hcase⟩
  obtain ⟨A, c', he, hrow⟩ : ∃ A c', e = .returned (.tuple #[.slice A 3 c', .int .i64 2, .int .i64 0]) ∧ Row ei w2 w2.heap.size A 3 [0, 1, 3] := by
    rcases hcase with ⟨h1, _⟩ | ⟨_, h1, _⟩ | ⟨_, A, c', c, r, h1, he, _, hr⟩
    · exact absurd ⟨net5_chk, by omega, by omega, by omega, by omega, by omega⟩ h1
    · exact absurd net5_best.1 (h1 _ _)
    · obtain ⟨rfl, rfl⟩ := best_unique h1 net5_best
      exact ⟨A, c', he, hr⟩
  subst he
  have R2 := Lib.hid ((R1.out.below hb2).more hb2.size)
  have B2 := Lib.hid (B1.out.trans (hb2.mono B1.out.size))
  have I2 := Lib.hid hrow
  clear hb2 hcase hrow hc
  have hc := HS.out 4 (some ⟨w.heap.size, 0, none⟩) 5 5 net5 3 0 w2 (by omega) (by omega) R2.out (by omega)
  go_wp2_with fail
  ((with_reducible refine hc.mono ?_))
  rintro e w3 ⟨hb3, hcase⟩
  obtain ⟨A3, c3, he⟩ : ∃ A c, e = .returned (.tuple #[.slice A 0 c, .int .i64 0, .int .i64 8]) := by
    rcases hcase with ⟨h1, _⟩ | ⟨_, _, A, c, he⟩ | ⟨_, A, c', c, r, h1, _⟩
    · exact absurd ⟨net5_chk, by omega, by omega, by omega, by omega, by omega⟩ h1
    · exact ⟨A, c, he⟩
    · exact absurd h1.1 (net5_none _ _)
  subst he
  have B3 := Lib.hid (B2.out.trans (hb3.mono B2.out.size))
  have I3 := Lib.hid ((I2.out.below hb3).more hb3.size)
  clear hb3 hcase hc
  go_wp2_with fail
  have hb4 := bel_new (Below.refl w3.heap.size w3) (.cells #[.int .i64 0, .int .i64 1, .int .i64 3] 3)
  have hk4 := blk_rowS (enc := ei) (l := [0, 1, 3]) (Blk.new w3 3 [.int .i64 0, .int .i64 1, .int .i64 3])
  have hsi := sameints_calls A (some ⟨w3.heap.size, 0, none⟩) 3 3 c' 3 _ _ [0, 1, 3] [0, 1, 3] _ ((I3.out.below hb4).more hb4.size) hk4 (by omega) (by omega)
  rw [show decide ([(0 : Int), 1, 3] = [0, 1, 3]) = true by decide] at hsi
  ((with_reducible refine hsi.mono ?_))
  rintro e w5 ⟨rfl, kd, hkd⟩
  have B5 := Lib.hid (show Below w.heap.size w w5 from by rw [hkd]; exact bel_drewN (B3.out.trans (hb4.mono B3.out.size)) kd)
  clear hsi hk4 hb4 hkd
  have hbt := HB.out 1 2 none none 0 0 0 0 [] [] w5 Row.nil Row.nil (by omega) (by omega)
  rw [show decide (bet (1, []) (2, [])) = true by decide] at hbt
  go_wp2_with fail
  ((with_reducible refine hbt.mono ?_))
  rintro e w6 ⟨rfl, hb6⟩
  have B6 := Lib.hid (B5.out.trans (hb6.mono B5.out.size))
  clear hbt hb6
  go_wp2
  go_ret
  exact ⟨rfl, B6.out⟩
end Go.Proofs.Ytkagfgnjfdlicaa
