/-
  The law GroupAllows, walked: for any want and any groups the answer is true, and nothing that was there has turned. Condition: groups are numbers of 32 bits.
-/
import Derived.Test.YtgfahcdhbpaofaaGroupC
import Derived.Test.YtgfahcdhbpaofaaStepS
import Derived.Test.YtgfahcdhbpaofaaSeq
namespace Go.Proofs.Ytgfahcdhbpaofaa
set_option maxRecDepth 100000
set_option linter.unusedVariables false
open Go.RowKit

theorem infoWant : (Try.prog.info? 25).map (·.size) = some 6 := by kernel_rfl

theorem gallows_walk (x : Wn) (hx : WnOk x) (g : Int) (hg : 0 ≤ g ∧ g < 4294967296) (w : World) : Calls Try.prog 3 #[.agg #[.int .u64 (x.bw : Int), .int .i64 x.su, .int .i64 x.ho, .int .u32 (x.an : Int), .int .u32 (x.al : Int), .int .u32 (x.no : Int)], .int .u32 g] w fun e w' => e = .returned (.bool true) ∧ Below w.heap.size w w' := by
  obtain ⟨g, rfl⟩ := Int.eq_ofNat_of_zero_le hg.1
  have hg' : g < 4294967296 := by omega
  have hc : ∃ c, wAllows x g = c := ⟨_, rfl⟩
  obtain ⟨c, hc⟩ := hc
  have hd : ∃ d, wRight x = d := ⟨_, rfl⟩
  obtain ⟨d, hd⟩ := hd
  have HU := Lib.hid (fun W => (show Calls Try.prog 9 #[.agg (wnc x).toArray, .int .u32 (g : Int)] W fun e w' => e = .returned (.bool c) ∧ Below W.heap.size W w' from hc ▸ allows12_calls x hx g hg' W))
  have HR := Lib.hid (fun W => (show Calls Try.prog 10 #[.agg (wnc x).toArray, .int .u32 (g : Int)] W fun e w' => e = .returned (.bool c) ∧ Below W.heap.size W w' from hc ▸ rallows12_calls x hx g hg' W))
  have HV := Lib.hid (fun W => (show Calls Try.prog 11 #[.agg (wnc x).toArray] W fun e w' => e = .returned (.bool d) ∧ Below W.heap.size W w' from hd ▸ right12_calls x W))
  have HS := Lib.hid (fun W => (show Calls Try.prog 12 #[.agg (wnc x).toArray] W fun e w' => e = .returned (.bool d) ∧ Below W.heap.size W w' from hd ▸ rright12_calls x W))
  have HA := Lib.hid (fun W => alive12_calls W)
  clear hc hd hg hg' hx
  go_enter Try.func3, Try.ntmps3
  go_wp2_with fail
  have bl : Below w.heap.size w (w.alloc (.cells #[.int .u64 (x.bw : Int), .int .i64 x.su, .int .i64 x.ho, .int .u32 (x.an : Int), .int .u32 (x.al : Int), .int .u32 (x.no : Int)] 25)) := bel_new (Below.refl _ _) _
  have b0 : Blk (w.alloc (.cells #[.int .u64 (x.bw : Int), .int .i64 x.su, .int .i64 x.ho, .int .u32 (x.an : Int), .int .u32 (x.al : Int), .int .u32 (x.no : Int)] 25)) w.heap.size 25 (wnc x) := by
    have := Blk.new w 25 (wnc x)
    have h2 := (show Blk (w.alloc (.cells #[.int .u64 (x.bw : Int), .int .i64 x.su, .int .i64 x.ho, .int .u32 (x.an : Int), .int .u32 (x.al : Int), .int .u32 (x.no : Int)] 25)) w.heap.size 25 (wnc x) by simpa [wnc] using this)
    exact h2
  generalize w.alloc (.cells #[.int .u64 (x.bw : Int), .int .i64 x.su, .int .i64 x.ho, .int .u32 (x.an : Int), .int .u32 (x.al : Int), .int .u32 (x.no : Int)] 25) = w1 at *
  have HL := Lib.hid bl
  have HB := Lib.hid b0
  clear bl b0
  ((with_reducible refine (HA.out _).mono ?_))
  rintro e w2 ⟨rfl, hb⟩
  have B2 := Lib.hid (show Below w1.heap.size w1 w2 from hb)
  clear hb
  go_wp2_with fail
  refine region_seq (fun W => Below w1.heap.size w1 W) [(0, true), (1, true), (3, true), (4, true), (2, false), (5, false), (6, true), (7, true), (8, true), (10, true), (9, false), (11, false), (12, true), (13, true), (14, true)]
    (by kernel_rfl) (by kernel_rfl) (by kernel_rfl) (by kernel_rfl) (fun _ _ _ _ _ h => h) B2.out.drew ?_
  repeat first
    | refine seq_load8 rfl (by rfl) rfl rfl (fun W hW => HB.out.below hW) Try.underlying25 rfl infoWant ?_
      simp only [Act.put, List.setIfInBounds_toArray, List.set_cons_zero, List.set_cons_succ]
    | refine seq_pure (v := ?_) rfl (by rfl) (fun W hW => ?_) ?_
      rotate_left
      · clear hW
        go_simp
        with_reducible rfl
      simp only [Act.put, List.setIfInBounds_toArray, List.set_cons_zero, List.set_cons_succ]
  refine seq_make rfl (by rfl) (fun K hK => ?_)
  go_simp
  have hc := HU.out w2.drew
  ((with_reducible refine hc.mono ?_))
  rintro e w3 ⟨rfl, hb⟩
  have B3 := Lib.hid (show Below w1.heap.size w1 w3 from B2.out.trans ((below_of_drew hb).mono B2.out.size))
  clear hc hb
  go_simp
  refine hK _ _ (fun W => Below w1.heap.size w1 W) (fun W h => h) B3.out ?_
  clear hK K
  refine seq_make rfl (by rfl) (fun K hK => ?_)
  go_simp
  have hc := HR.out w3
  ((with_reducible refine hc.mono ?_))
  rintro e w4 ⟨rfl, hb⟩
  have B4 := Lib.hid (show Below w1.heap.size w1 w4 from B3.out.trans (hb.mono B3.out.size))
  clear hc hb
  go_simp
  refine hK _ _ (fun W => Below w1.heap.size w1 W) (fun W h => h) B4.out ?_
  clear hK K
  have ec : (c == c) = true := by cases c <;> rfl
  have ed : (d == d) = true := by cases d <;> rfl
  repeat first
    | refine seq_load8 rfl (by rfl) rfl rfl (fun W hW => HB.out.below hW) Try.underlying25 rfl infoWant ?_
      simp only [Act.put, List.setIfInBounds_toArray, List.set_cons_zero, List.set_cons_succ]
    | refine seq_pure (v := ?_) rfl (by rfl) (fun W hW => ?_) ?_
      rotate_left
      · clear hW
        go_simp
        with_reducible rfl
      simp only [Act.put, List.setIfInBounds_toArray, List.set_cons_zero, List.set_cons_succ]
  refine seq_make rfl (by rfl) (fun K hK => ?_)
  go_simp
  have hc := HV.out w4
  ((with_reducible refine hc.mono ?_))
  rintro e w5 ⟨rfl, hb⟩
  have B5 := Lib.hid (show Below w1.heap.size w1 w5 from B4.out.trans (hb.mono B4.out.size))
  clear hc hb
  go_simp
  refine hK _ _ (fun W => Below w1.heap.size w1 W) (fun W h => h) B5.out ?_
  clear hK K
  refine seq_make rfl (by rfl) (fun K hK => ?_)
  go_simp
  have hc := HS.out w5
  ((with_reducible refine hc.mono ?_))
  rintro e w6 ⟨rfl, hb⟩
  have B6 := Lib.hid (show Below w1.heap.size w1 w6 from B5.out.trans (hb.mono B5.out.size))
  clear hc hb
  go_simp
  refine hK _ _ (fun W => Below w1.heap.size w1 W) (fun W h => h) B6.out ?_
  clear hK K
  repeat first
    | refine seq_load8 rfl (by rfl) rfl rfl (fun W hW => HB.out.below hW) Try.underlying25 rfl infoWant ?_
      simp only [Act.put, List.setIfInBounds_toArray, List.set_cons_zero, List.set_cons_succ]
    | refine seq_pure (v := ?_) rfl (by rfl) (fun W hW => ?_) ?_
      rotate_left
      · clear hW
        go_simp
        with_reducible rfl
      simp only [Act.put, List.setIfInBounds_toArray, List.set_cons_zero, List.set_cons_succ]
  refine seq_done ?_
  go_wp2
  go_ret
  exact ⟨rfl, HL.out.trans (B6.out.mono HL.out.size)⟩
end Go.Proofs.Ytgfahcdhbpaofaa
