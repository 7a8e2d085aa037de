/-
  The law GroupOrder, walked: for any three wants the answer is true, and nothing that was there has turned. Condition: groups are numbers of 32 bits.
-/
import Derived.Test.YtgfahcdhbpaofaaGroupAllowsW
namespace Go.Proofs.Ytgfahcdhbpaofaa
set_option maxRecDepth 100000
set_option linter.unusedVariables false
open Go.RowKit

theorem gorder_walk (x y z : Wn) (hx : WnOk x) (hy : WnOk y) (hz : WnOk z) (w : World) : Calls Try.prog 6 #[.agg #[.int .u64 (x.bw : Int), .int .i64 x.su, .int .i64 x.ho, .int .u32 (x.an : Int), .int .u32 (x.al : Int), .int .u32 (x.no : Int)], .agg #[.int .u64 (y.bw : Int), .int .i64 y.su, .int .i64 y.ho, .int .u32 (y.an : Int), .int .u32 (y.al : Int), .int .u32 (y.no : Int)], .agg #[.int .u64 (z.bw : Int), .int .i64 z.su, .int .i64 z.ho, .int .u32 (z.an : Int), .int .u32 (z.al : Int), .int .u32 (z.no : Int)]] w fun e w' => e = .returned (.bool true) ∧ Below w.heap.size w w' := by
  have hl := wCovers_trans (a := x) (b := y) (c := z)
  have hc : ∃ c, wCovers x y = c := ⟨_, rfl⟩
  obtain ⟨c, hc⟩ := hc
  have hd : ∃ d, wCovers y z = d := ⟨_, rfl⟩
  obtain ⟨d, hd⟩ := hd
  have hf : ∃ f, wCovers x z = f := ⟨_, rfl⟩
  obtain ⟨f, hf⟩ := hf
  have HS := Lib.hid (fun W => (show Calls Try.prog 13 #[.agg (wnc x).toArray, .agg (wnc x).toArray] W fun e w' => e = .returned (.bool true) ∧ Below W.heap.size W w' from wCovers_self x ▸ covers12_calls x x hx hx W))
  have HC := Lib.hid (fun W => (show Calls Try.prog 13 #[.agg (wnc x).toArray, .agg (wnc y).toArray] W fun e w' => e = .returned (.bool c) ∧ Below W.heap.size W w' from hc ▸ covers12_calls x y hx hy W))
  have HY := Lib.hid (fun W => (show Calls Try.prog 13 #[.agg (wnc y).toArray, .agg (wnc z).toArray] W fun e w' => e = .returned (.bool d) ∧ Below W.heap.size W w' from hd ▸ covers12_calls y z hy hz W))
  have HX := Lib.hid (fun W => (show Calls Try.prog 13 #[.agg (wnc x).toArray, .agg (wnc z).toArray] W fun e w' => e = .returned (.bool f) ∧ Below W.heap.size W w' from hf ▸ covers12_calls x z hx hz W))
  rw [hc, hd, hf] at hl
  have HH := Lib.hid hl
  clear hl
  have HA := Lib.hid (fun W => alive12_calls W)
  clear hc hd hf hx hy hz
  go_enter Try.func6, Try.ntmps6
  go_wp2_with fail
  have bl : Below w.heap.size w ((((w.alloc (.cells #[.int .u64 (x.bw : Int), .int .i64 x.su, .int .i64 x.ho, .int .u32 (x.an : Int), .int .u32 (x.al : Int), .int .u32 (x.no : Int)] 25)).alloc (.cells #[.int .u64 (y.bw : Int), .int .i64 y.su, .int .i64 y.ho, .int .u32 (y.an : Int), .int .u32 (y.al : Int), .int .u32 (y.no : Int)] 25)).alloc (.cells #[.int .u64 (z.bw : Int), .int .i64 z.su, .int .i64 z.ho, .int .u32 (z.an : Int), .int .u32 (z.al : Int), .int .u32 (z.no : Int)] 25))) := bel_new (bel_new (bel_new (Below.refl _ _) _) _) _
  have b0 : Blk ((((w.alloc (.cells #[.int .u64 (x.bw : Int), .int .i64 x.su, .int .i64 x.ho, .int .u32 (x.an : Int), .int .u32 (x.al : Int), .int .u32 (x.no : Int)] 25)).alloc (.cells #[.int .u64 (y.bw : Int), .int .i64 y.su, .int .i64 y.ho, .int .u32 (y.an : Int), .int .u32 (y.al : Int), .int .u32 (y.no : Int)] 25)).alloc (.cells #[.int .u64 (z.bw : Int), .int .i64 z.su, .int .i64 z.ho, .int .u32 (z.an : Int), .int .u32 (z.al : Int), .int .u32 (z.no : Int)] 25))) w.heap.size 25 (wnc x) := by
    have := Blk.new w 25 (wnc x)
    have h2 := (show Blk (w.alloc (.cells #[.int .u64 (x.bw : Int), .int .i64 x.su, .int .i64 x.ho, .int .u32 (x.an : Int), .int .u32 (x.al : Int), .int .u32 (x.no : Int)] 25)) w.heap.size 25 (wnc x) by simpa [wnc] using this)
    exact ((h2.alloc (.cells #[.int .u64 (y.bw : Int), .int .i64 y.su, .int .i64 y.ho, .int .u32 (y.an : Int), .int .u32 (y.al : Int), .int .u32 (y.no : Int)] 25)).alloc (.cells #[.int .u64 (z.bw : Int), .int .i64 z.su, .int .i64 z.ho, .int .u32 (z.an : Int), .int .u32 (z.al : Int), .int .u32 (z.no : Int)] 25))
  have b1 : Blk ((((w.alloc (.cells #[.int .u64 (x.bw : Int), .int .i64 x.su, .int .i64 x.ho, .int .u32 (x.an : Int), .int .u32 (x.al : Int), .int .u32 (x.no : Int)] 25)).alloc (.cells #[.int .u64 (y.bw : Int), .int .i64 y.su, .int .i64 y.ho, .int .u32 (y.an : Int), .int .u32 (y.al : Int), .int .u32 (y.no : Int)] 25)).alloc (.cells #[.int .u64 (z.bw : Int), .int .i64 z.su, .int .i64 z.ho, .int .u32 (z.an : Int), .int .u32 (z.al : Int), .int .u32 (z.no : Int)] 25))) (w.heap.size + 1) 25 (wnc y) := by
    have := Blk.new (w.alloc (.cells #[.int .u64 (x.bw : Int), .int .i64 x.su, .int .i64 x.ho, .int .u32 (x.an : Int), .int .u32 (x.al : Int), .int .u32 (x.no : Int)] 25)) 25 (wnc y)
    have h2 := (show Blk ((w.alloc (.cells #[.int .u64 (x.bw : Int), .int .i64 x.su, .int .i64 x.ho, .int .u32 (x.an : Int), .int .u32 (x.al : Int), .int .u32 (x.no : Int)] 25)).alloc (.cells #[.int .u64 (y.bw : Int), .int .i64 y.su, .int .i64 y.ho, .int .u32 (y.an : Int), .int .u32 (y.al : Int), .int .u32 (y.no : Int)] 25)) (w.heap.size + 1) 25 (wnc y) by simpa [wnc] using this)
    exact (h2.alloc (.cells #[.int .u64 (z.bw : Int), .int .i64 z.su, .int .i64 z.ho, .int .u32 (z.an : Int), .int .u32 (z.al : Int), .int .u32 (z.no : Int)] 25))
  have b2 : Blk ((((w.alloc (.cells #[.int .u64 (x.bw : Int), .int .i64 x.su, .int .i64 x.ho, .int .u32 (x.an : Int), .int .u32 (x.al : Int), .int .u32 (x.no : Int)] 25)).alloc (.cells #[.int .u64 (y.bw : Int), .int .i64 y.su, .int .i64 y.ho, .int .u32 (y.an : Int), .int .u32 (y.al : Int), .int .u32 (y.no : Int)] 25)).alloc (.cells #[.int .u64 (z.bw : Int), .int .i64 z.su, .int .i64 z.ho, .int .u32 (z.an : Int), .int .u32 (z.al : Int), .int .u32 (z.no : Int)] 25))) (w.heap.size + 2) 25 (wnc z) := by
    have := Blk.new ((w.alloc (.cells #[.int .u64 (x.bw : Int), .int .i64 x.su, .int .i64 x.ho, .int .u32 (x.an : Int), .int .u32 (x.al : Int), .int .u32 (x.no : Int)] 25)).alloc (.cells #[.int .u64 (y.bw : Int), .int .i64 y.su, .int .i64 y.ho, .int .u32 (y.an : Int), .int .u32 (y.al : Int), .int .u32 (y.no : Int)] 25)) 25 (wnc z)
    have h2 := (show Blk (((w.alloc (.cells #[.int .u64 (x.bw : Int), .int .i64 x.su, .int .i64 x.ho, .int .u32 (x.an : Int), .int .u32 (x.al : Int), .int .u32 (x.no : Int)] 25)).alloc (.cells #[.int .u64 (y.bw : Int), .int .i64 y.su, .int .i64 y.ho, .int .u32 (y.an : Int), .int .u32 (y.al : Int), .int .u32 (y.no : Int)] 25)).alloc (.cells #[.int .u64 (z.bw : Int), .int .i64 z.su, .int .i64 z.ho, .int .u32 (z.an : Int), .int .u32 (z.al : Int), .int .u32 (z.no : Int)] 25)) (w.heap.size + 2) 25 (wnc z) by simpa [wnc] using this)
    exact h2
  generalize (((w.alloc (.cells #[.int .u64 (x.bw : Int), .int .i64 x.su, .int .i64 x.ho, .int .u32 (x.an : Int), .int .u32 (x.al : Int), .int .u32 (x.no : Int)] 25)).alloc (.cells #[.int .u64 (y.bw : Int), .int .i64 y.su, .int .i64 y.ho, .int .u32 (y.an : Int), .int .u32 (y.al : Int), .int .u32 (y.no : Int)] 25)).alloc (.cells #[.int .u64 (z.bw : Int), .int .i64 z.su, .int .i64 z.ho, .int .u32 (z.an : Int), .int .u32 (z.al : Int), .int .u32 (z.no : Int)] 25)) = w1 at *
  have HL := Lib.hid bl
  have HB := Lib.hid (And.intro b0 (And.intro b1 b2))
  clear bl b0 b1 b2
  ((with_reducible refine (HA.out _).mono ?_))
  rintro e w2 ⟨rfl, hb⟩
  have B2 := Lib.hid (show Below w1.heap.size w1 w2 from hb)
  clear hb
  go_wp2_with (first | refine step_load (o := ⟨some 9, _, _, _, _, _⟩) rfl rfl rfl (HB.out.1.below B2.out) Try.underlying25 rfl infoWant ?_ | refine step_load (o := ⟨some 10, _, _, _, _, _⟩) rfl rfl rfl (HB.out.1.below B2.out) Try.underlying25 rfl infoWant ?_)
  ((with_reducible refine (HS.out _).mono ?_))
  rintro e w3 ⟨rfl, hb⟩
  have B3 := Lib.hid (show Below w1.heap.size w1 w3 from B2.out.trans (hb.mono B2.out.size))
  clear hb
  go_wp2_with (first | refine step_load_want (o := ⟨some 13, _, _, _, _, _⟩) (by rfl) rfl rfl (HB.out.1.below B3.out) Try.underlying25 rfl infoWant ?_ | refine step_load_want (o := ⟨some 14, _, _, _, _, _⟩) (by rfl) rfl rfl (HB.out.2.1.below B3.out) Try.underlying25 rfl infoWant ?_)
  ((with_reducible refine (HC.out _).mono ?_))
  rintro e w4 ⟨rfl, hb⟩
  have B4 := Lib.hid (show Below w1.heap.size w1 w4 from B3.out.trans (hb.mono B3.out.size))
  clear hb
  cases c with
  | false =>
    go_wp2_with fail
    go_ret
    exact ⟨rfl, HL.out.trans (B4.out.mono HL.out.size)⟩
  | true =>
    go_wp2_with (first | refine step_load_want (o := ⟨some 18, _, _, _, _, _⟩) (by rfl) rfl rfl (HB.out.2.1.below B4.out) Try.underlying25 rfl infoWant ?_ | refine step_load_want (o := ⟨some 19, _, _, _, _, _⟩) (by rfl) rfl rfl (HB.out.2.2.below B4.out) Try.underlying25 rfl infoWant ?_)
    ((with_reducible refine (HY.out _).mono ?_))
    rintro e w5 ⟨rfl, hb⟩
    have B5 := Lib.hid (show Below w1.heap.size w1 w5 from B4.out.trans (hb.mono B4.out.size))
    clear hb
    cases d with
    | false =>
      go_wp2_with fail
      go_ret
      exact ⟨rfl, HL.out.trans (B5.out.mono HL.out.size)⟩
    | true =>
      obtain rfl : f = true := by have h9 := HH.out; simpa using h9
      go_wp2_with (first | refine step_load_want (o := ⟨some 24, _, _, _, _, _⟩) (by rfl) rfl rfl (HB.out.1.below B5.out) Try.underlying25 rfl infoWant ?_ | refine step_load_want (o := ⟨some 25, _, _, _, _, _⟩) (by rfl) rfl rfl (HB.out.2.2.below B5.out) Try.underlying25 rfl infoWant ?_)
      ((with_reducible refine (HX.out _).mono ?_))
      rintro e w6 ⟨rfl, hb⟩
      have B6 := Lib.hid (show Below w1.heap.size w1 w6 from B5.out.trans (hb.mono B5.out.size))
      clear hb
      go_wp2_with fail
      go_ret
      exact ⟨rfl, HL.out.trans (B6.out.mono HL.out.size)⟩
end Go.Proofs.Ytgfahcdhbpaofaa
