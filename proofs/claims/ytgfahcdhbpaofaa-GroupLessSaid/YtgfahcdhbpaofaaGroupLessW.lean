/-
  The law GroupLess, walked: for any two wants and any groups the answer is true, and nothing that was there has turned. Condition: groups are numbers of 32 bits.
-/
import Derived.Test.YtgfahcdhbpaofaaGroupAllowsW
namespace Go.Proofs.Ytgfahcdhbpaofaa
set_option maxRecDepth 100000
set_option linter.unusedVariables false
open Go.RowKit

theorem gless_walk (x y : Wn) (hx : WnOk x) (hy : WnOk y) (g : Int) (hg : 0 ≤ g ∧ g < 4294967296) (w : World) : Calls Try.prog 5 #[.agg #[.int .u64 (x.bw : Int), .int .i64 x.su, .int .i64 x.ho, .int .u32 (x.an : Int), .int .u32 (x.al : Int), .int .u32 (x.no : Int)], .agg #[.int .u64 (y.bw : Int), .int .i64 y.su, .int .i64 y.ho, .int .u32 (y.an : Int), .int .u32 (y.al : Int), .int .u32 (y.no : Int)], .int .u32 g] w fun e w' => e = .returned (.bool true) ∧ Below w.heap.size w w' := by
  obtain ⟨g, rfl⟩ := Int.eq_ofNat_of_zero_le hg.1
  have hg' : g < 4294967296 := by omega
  have hl := wCovers_less (a := x) (b := y) (g := g)
  have hc : ∃ c, wCovers x y = c := ⟨_, rfl⟩
  obtain ⟨c, hc⟩ := hc
  have hd : ∃ d, wAllows y g = d := ⟨_, rfl⟩
  obtain ⟨d, hd⟩ := hd
  have hf : ∃ f, wAllows x g = f := ⟨_, rfl⟩
  obtain ⟨f, hf⟩ := hf
  have HC := Lib.hid (fun W => (show Calls Try.prog 13 #[.agg (wnc x).toArray, .agg (wnc y).toArray] W fun e w' => e = .returned (.bool c) ∧ Below W.heap.size W w' from hc ▸ covers12_calls x y hx hy W))
  have HY := Lib.hid (fun W => (show Calls Try.prog 9 #[.agg (wnc y).toArray, .int .u32 (g : Int)] W fun e w' => e = .returned (.bool d) ∧ Below W.heap.size W w' from hd ▸ allows12_calls y hy g hg' W))
  have HX := Lib.hid (fun W => (show Calls Try.prog 9 #[.agg (wnc x).toArray, .int .u32 (g : Int)] W fun e w' => e = .returned (.bool f) ∧ Below W.heap.size W w' from hf ▸ allows12_calls x hx g hg' W))
  rw [hc, hd, hf] at hl
  have HH := Lib.hid hl
  clear hl
  have HA := Lib.hid (fun W => alive12_calls W)
  clear hc hd hf hx hy hg hg'
  go_enter Try.func5, Try.ntmps5
  go_wp2_with fail
  have bl : Below w.heap.size w (((w.alloc (.cells #[.int .u64 (x.bw : Int), .int .i64 x.su, .int .i64 x.ho, .int .u32 (x.an : Int), .int .u32 (x.al : Int), .int .u32 (x.no : Int)] 25)).alloc (.cells #[.int .u64 (y.bw : Int), .int .i64 y.su, .int .i64 y.ho, .int .u32 (y.an : Int), .int .u32 (y.al : Int), .int .u32 (y.no : Int)] 25))) := bel_new (bel_new (Below.refl _ _) _) _
  have b0 : Blk (((w.alloc (.cells #[.int .u64 (x.bw : Int), .int .i64 x.su, .int .i64 x.ho, .int .u32 (x.an : Int), .int .u32 (x.al : Int), .int .u32 (x.no : Int)] 25)).alloc (.cells #[.int .u64 (y.bw : Int), .int .i64 y.su, .int .i64 y.ho, .int .u32 (y.an : Int), .int .u32 (y.al : Int), .int .u32 (y.no : Int)] 25))) w.heap.size 25 (wnc x) := by
    have := Blk.new w 25 (wnc x)
    have h2 := (show Blk (w.alloc (.cells #[.int .u64 (x.bw : Int), .int .i64 x.su, .int .i64 x.ho, .int .u32 (x.an : Int), .int .u32 (x.al : Int), .int .u32 (x.no : Int)] 25)) w.heap.size 25 (wnc x) by simpa [wnc] using this)
    exact (h2.alloc (.cells #[.int .u64 (y.bw : Int), .int .i64 y.su, .int .i64 y.ho, .int .u32 (y.an : Int), .int .u32 (y.al : Int), .int .u32 (y.no : Int)] 25))
  have b1 : Blk (((w.alloc (.cells #[.int .u64 (x.bw : Int), .int .i64 x.su, .int .i64 x.ho, .int .u32 (x.an : Int), .int .u32 (x.al : Int), .int .u32 (x.no : Int)] 25)).alloc (.cells #[.int .u64 (y.bw : Int), .int .i64 y.su, .int .i64 y.ho, .int .u32 (y.an : Int), .int .u32 (y.al : Int), .int .u32 (y.no : Int)] 25))) (w.heap.size + 1) 25 (wnc y) := by
    have := Blk.new (w.alloc (.cells #[.int .u64 (x.bw : Int), .int .i64 x.su, .int .i64 x.ho, .int .u32 (x.an : Int), .int .u32 (x.al : Int), .int .u32 (x.no : Int)] 25)) 25 (wnc y)
    have h2 := (show Blk ((w.alloc (.cells #[.int .u64 (x.bw : Int), .int .i64 x.su, .int .i64 x.ho, .int .u32 (x.an : Int), .int .u32 (x.al : Int), .int .u32 (x.no : Int)] 25)).alloc (.cells #[.int .u64 (y.bw : Int), .int .i64 y.su, .int .i64 y.ho, .int .u32 (y.an : Int), .int .u32 (y.al : Int), .int .u32 (y.no : Int)] 25)) (w.heap.size + 1) 25 (wnc y) by simpa [wnc] using this)
    exact h2
  generalize ((w.alloc (.cells #[.int .u64 (x.bw : Int), .int .i64 x.su, .int .i64 x.ho, .int .u32 (x.an : Int), .int .u32 (x.al : Int), .int .u32 (x.no : Int)] 25)).alloc (.cells #[.int .u64 (y.bw : Int), .int .i64 y.su, .int .i64 y.ho, .int .u32 (y.an : Int), .int .u32 (y.al : Int), .int .u32 (y.no : Int)] 25)) = w1 at *
  have HL := Lib.hid bl
  have HB := Lib.hid (And.intro b0 b1)
  clear bl b0 b1
  ((with_reducible refine (HA.out _).mono ?_))
  rintro e w2 ⟨rfl, hb⟩
  have B2 := Lib.hid (show Below w1.heap.size w1 w2 from hb)
  clear hb
  go_wp2_with (first | refine step_load (o := ⟨some 9, _, _, _, _, _⟩) rfl rfl rfl (HB.out.1.below B2.out) Try.underlying25 rfl infoWant ?_ | refine step_load (o := ⟨some 10, _, _, _, _, _⟩) rfl rfl rfl (HB.out.2.below B2.out) Try.underlying25 rfl infoWant ?_)
  ((with_reducible refine (HC.out _).mono ?_))
  rintro e w3 ⟨rfl, hb⟩
  have B3 := Lib.hid (show Below w1.heap.size w1 w3 from B2.out.trans (hb.mono B2.out.size))
  clear hb
  cases c with
  | false =>
    go_wp2_with fail
    go_ret
    exact ⟨rfl, HL.out.trans (B3.out.mono HL.out.size)⟩
  | true =>
    go_wp2_with (first | refine step_load_want (o := ⟨some 14, _, _, _, _, _⟩) (by rfl) rfl rfl (HB.out.2.below B3.out) Try.underlying25 rfl infoWant ?_)
    ((with_reducible refine (HY.out _).mono ?_))
    rintro e w4 ⟨rfl, hb⟩
    have B4 := Lib.hid (show Below w1.heap.size w1 w4 from B3.out.trans (hb.mono B3.out.size))
    clear hb
    cases d with
    | false =>
      go_wp2_with fail
      go_ret
      exact ⟨rfl, HL.out.trans (B4.out.mono HL.out.size)⟩
    | true =>
      obtain rfl : f = true := by have h9 := HH.out; simpa using h9
      go_wp2_with (first | refine step_load_want (o := ⟨some 20, _, _, _, _, _⟩) (by rfl) rfl rfl (HB.out.1.below B4.out) Try.underlying25 rfl infoWant ?_)
      ((with_reducible refine (HX.out _).mono ?_))
      rintro e w5 ⟨rfl, hb⟩
      have B5 := Lib.hid (show Below w1.heap.size w1 w5 from B4.out.trans (hb.mono B4.out.size))
      clear hb
      go_wp2_with fail
      go_ret
      exact ⟨rfl, HL.out.trans (B5.out.mono HL.out.size)⟩
end Go.Proofs.Ytgfahcdhbpaofaa
