/-
  The laws' List, within, one, alive; a table of layer 18 while a law's walk goes on. Condition: what comes in reads as a list; at most 2^20 states.
-/
import Derived.Test.YtogijfebfffobaaSofV
import Derived.Deep.CutBlock
namespace Go.Proofs.Ytogijfebfffobaa
set_option maxRecDepth 100000
set_option linter.unusedVariables false
open Go.RowKit

/-- A table that was made since w0. -/
structure St18 (w0 w : World) (q most : Nat) (l : List Sp) (S : List Nat) : Prop where
  p : TbC18 w q most l S
  bel : Below w0.heap.size w0 w
  own : ∀ b ∈ S, w0.heap.size ≤ b
section
variable {w0 w w' : World} {q most g : Nat} {l l' : List Sp} {S S' : List Nat}
theorem St18.mv (h : St18 w0 w q most l S) (hp : TbC18 w' q most l' S') (hm : Mv14 S w S' w') : St18 w0 w' q most l' S' :=
  ⟨hp, Mv14.bel h.bel (Nat.le_refl _) hm h.own, fun b hb => by
    rcases hm.own b hb with h1 | h1
    · exact h.own b h1
    · exact Nat.le_trans h.bel.size h1⟩
theorem St18.below (h : St18 w0 w q most l S) (hb : Below w.heap.size w w') : St18 w0 w' q most l S := h.mv (h.p.below hb) (Mv14.of_below hb)
theorem St18.newb (h : St18 w0 w q most l S) (T : TypeId) (vs : List Value) : BlkT (w.alloc (.cells vs.toArray T)) S w.heap.size T vs :=
  ⟨Blk.new w T vs, fun hS => by have := h.p.lt _ hS; omega⟩
theorem St18.stored (h : St18 w0 w q most l S) (hg : w.grownBy w' (some g)) (hn : g ∉ S) (h0 : w0.heap.size ≤ g) : St18 w0 w' q most l S :=
  ⟨h.p.keep (fun b hS => hg.block b (h.p.lt b hS) (fun e => hn (by injection e with e; subst e; exact hS))), bel_upd h.bel hg (Nat.le_refl _) h0, h.own⟩
theorem St18.start {e : Ending} (hb : Below w0.heap.size w0 w) (h : New18 most w e w') : ∃ q S, e = .returned (.pointer (some ⟨q, 0, none⟩)) ∧ St18 w0 w' q most [] S := by
  obtain ⟨q, S, rfl, h1, h2, h3⟩ := h
  exact ⟨q, S, rfl, h1, hb.trans (h2.mono hb.size), fun b hS => Nat.le_trans hb.size (h3 b hS)⟩
end
/-- The same states, of the document's type. -/
def Lst18 (ls : List Ss) (w : World) (e : Ending) (w' : World) : Prop := ∃ A' c', e = .returned (.slice A' ls.length c') ∧ AccR ssc 17 w' w.heap.size 37 A' c' ls ∧ Below w.heap.size w w'
set_option maxHeartbeats 3200000 in
theorem list18_calls (A : Option Addr) (n c : Nat) (ls : List Ss) (w : World) (h : Row ssc w w.heap.size A n ls) (hn : n ≤ 1048576) : Calls Try.prog 21 #[.slice A n c] w (Lst18 ls w) := by
  have HR := Lib.hid h
  have HNN := Lib.hid hn
  have HIN := Lib.hid (fun s : Ss => (show (Try.prog.info? 40).map (·.size) = some (ssc s).length from infoSsC))
  have HIZ := Lib.hid (fun s : Ss => (show (Try.prog.info? 37).map (fun i => (i.zero, i.size, i.bytes)) = some (some zss, (ssc s).length, 144) from infoSsZR))
  have HON := Lib.hid ssc_one
  have HOU := Lib.hid ours18_calls
  unfold Lst18
  clear h
  go_enter Try.func21, Try.ntmps21
  go_wp2_with fail
  go_loopw [3, 8] (fun s u W => ∃ (i : Nat) (A2 : Option Addr) (c2 : Nat), i ≤ n ∧ s = .slice A2 i c2 ∧ u = .int .i64 (i : Int) ∧ Hid (AccR ssc 17 W w.heap.size 37 A2 c2 (ls.take i)) ∧ Hid (Below w.heap.size w W)) (fun s u W => n - (intOf u).toNat)
  case atStart => exact ⟨0, none, 0, Nat.zero_le _, rfl, rfl, Lib.hid (by rw [List.take_zero]; exact AccR.nil _ _ _), Lib.hid (Below.refl _ _)⟩
  case round =>
    obtain ⟨i, A2, c2, hi, rfl, rfl, HA2, HB⟩ := hrel
    by_cases hin : i < n
    · have i1 : (i : Int) < (n : Int) := by omega
      obtain ⟨b, o, x, rfl, hx, hbb, hc⟩ := row_key18 HR.out hin
      have HX := Lib.hid (hc wr HB.out)
      have HXX := Lib.hid hx
      have HI := Lib.hid hin
      clear hx hbb hc hin hi
      have bz := bel_new (Below.refl wr.heap.size wr) (.cells #[.int .i64 0, .int .i64 0, .int .i64 0, .int .i64 0, .int .u64 0, .int .i64 0, .int .i64 0, .int .u32 0, .int .u32 0, .int .u32 0, .slice none 0 0, .int .i64 0, .int .i64 0, .int .i64 0, .int .i64 0, .int .i64 0, .int .i64 0] 40)
      have BZ := Lib.hid (show Blk (wr.alloc (.cells #[.int .i64 0, .int .i64 0, .int .i64 0, .int .i64 0, .int .u64 0, .int .i64 0, .int .i64 0, .int .u32 0, .int .u32 0, .int .u32 0, .slice none 0 0, .int .i64 0, .int .i64 0, .int .i64 0, .int .i64 0, .int .i64 0, .int .i64 0] 40)) wr.heap.size 40 (ssc z18) from Blk.new wr _ (ssc z18))
      have HBZ := Lib.hid bz
      clear bz
      go_upto_region 5 with (first | (refine step_load_at (o := ⟨some 11, _, _, _, _, _⟩) rfl rfl rfl HX.out Try.underlying40 rfl (HIN.out _) ?_) | ((with_reducible refine step_store (o := ⟨none, _, _, _, _, _⟩) (vs := ssc x) (ty := 40) (x := .tmp 5) (y := .tmp 11) ?_ ?_ ?_ ?_ BZ.out (HIN.out _) rfl (HON.out _) ?_); (rfl); (rfl); (rfl); (rfl); intro w2 hb5 hg5 hs5))
      have VB := Lib.hid hb5
      have hv : Below wr.heap.size wr w2 := bel_upd HBZ.out hg5 (Nat.le_refl _) (Nat.le_refl _)
      have HVB := Lib.hid hv
      clear hb5 hg5 hs5 BZ HBZ hv
      have HA3 := Lib.hid (HA2.out.bel HVB.out)
      have HB3 := Lib.hid (HB.out.trans (HVB.out.mono HB.out.size))
      go_wp2_with ((with_reducible refine step_load (o := ⟨some 13, _, _, _, _, _⟩) (x := .tmp 5) ?_ ?_ ?_ VB.out Try.underlying40 ?_ (HIN.out _) ?_); (rfl); (rfl); (rfl); (rfl))
      ((with_reducible refine (HOU.out _ _).mono ?_))
      rintro e w4 ⟨rfl, hb⟩
      have HA4 := Lib.hid (HA3.out.bel hb)
      have HB4 := Lib.hid (HB3.out.trans (hb.mono HB3.out.size))
      clear hb HA3 HB3 VB HVB HX HA2 HB
      have hln : (ls.take i).length = i := by have := HR.out.1; have := HI.out; rw [List.length_take]; omega
      obtain ⟨A6, c6, w6, hrun, hacc6, hg6⟩ := accr_push (P := Try.prog) (ty := 26) ssc_length ssc_one (by omega) HA4.out x Try.underlying26 infoSsZR rfl HB4.out.size (by rw [hln]; have := HI.out; have := HNN.out; omega) (by rw [hln]; have := HI.out; have := HNN.out; omega)
      rw [hln] at hrun
      have HRUN := Lib.hid hrun
      have HA6 := Lib.hid (show AccR ssc 17 w6 w.heap.size 37 A6 c6 (ls.take (i + 1)) by rw [List.take_add_one, HXX.out]; exact hacc6)
      have HB6 := Lib.hid (show Below w.heap.size w w6 from belr_acc HB4.out HA4.out hg6)
      have i3 : IntKind.i64.wrap ((i : Int) + 1) = ((i + 1 : Nat) : Int) := by rw [IntWalk.i64_in _ (by have := HI.out; have := HNN.out; omega)]; omega
      clear hrun hacc6 hg6 hln
      go_wp2_with (first | (refine step_build18 (o := ⟨some 15, _, _, _, _, _⟩) (x := .tmp 14) (vs := ssc x) rfl rfl rfl Try.underlying26 (HIZ.out _) (by rw [ssc_length]; decide) (by rw [ssc_length]; decide) ?_) | (at_builtin; refine step_append (o := ⟨some 16, _, _, _, _, _⟩) rfl rfl rfl rfl HRUN.out ?_))
      go_roundw
      case rel => exact ⟨i + 1, A6, c6, HI.out, rfl, by first | rfl | (simp; omega), HA6, HB6⟩
      case measure => have := HI.out; simp [intOf]; omega
    · have i1 : ¬ (i : Int) < (n : Int) := by omega
      obtain rfl : i = n := by omega
      have hac := HA2.out
      rw [List.take_of_length_le (by rw [HR.out.1]; exact Nat.le_refl _)] at hac
      have HAC := Lib.hid hac
      clear hin hi hac
      go_wp2_with fail
      go_ret
      exact ⟨A2, c2, by rw [HR.out.1]; rfl, HAC.out, HB.out⟩
def one18 : Sp := ⟨⟨2, 1, 0, 1⟩, ⟨0, 0, 0, 0, 0, 0⟩, [0, 1, 2], 1, 5, 0, 16, 3, 0⟩
set_option maxHeartbeats 1600000 in
theorem one18_calls (w : World) : Calls Try.prog 30 #[] w fun e w' => ∃ r, e = .returned (.agg (ssc ⟨one18, some ⟨r, 0, none⟩, 3, 3⟩).toArray) ∧ Blk w' r 3 [.int .i64 0, .int .i64 1, .int .i64 2] ∧ w.heap.size ≤ r ∧ Below w.heap.size w w' := by
  have bz := bel_new (bel_new (Below.refl w.heap.size w) (.cells #[.int .i64 0, .int .i64 0, .int .i64 0, .int .i64 0, .int .u64 0, .int .i64 0, .int .i64 0, .int .u32 0, .int .u32 0, .int .u32 0, .slice none 0 0, .int .i64 0, .int .i64 0, .int .i64 0, .int .i64 0, .int .i64 0, .int .i64 0] 40)) (.cells #[.int .i64 0, .int .i64 1, .int .i64 2] 3)
  have b1 : Blk ((w.alloc (.cells #[.int .i64 0, .int .i64 0, .int .i64 0, .int .i64 0, .int .u64 0, .int .i64 0, .int .i64 0, .int .u32 0, .int .u32 0, .int .u32 0, .slice none 0 0, .int .i64 0, .int .i64 0, .int .i64 0, .int .i64 0, .int .i64 0, .int .i64 0] 40)).alloc (.cells #[.int .i64 0, .int .i64 1, .int .i64 2] 3)) w.heap.size 40 (ssc z18) := (Blk.new w 40 (ssc z18)).alloc _
  have b2 : Blk ((w.alloc (.cells #[.int .i64 0, .int .i64 0, .int .i64 0, .int .i64 0, .int .u64 0, .int .i64 0, .int .i64 0, .int .u32 0, .int .u32 0, .int .u32 0, .slice none 0 0, .int .i64 0, .int .i64 0, .int .i64 0, .int .i64 0, .int .i64 0, .int .i64 0] 40)).alloc (.cells #[.int .i64 0, .int .i64 1, .int .i64 2] 3)) (w.alloc (.cells #[.int .i64 0, .int .i64 0, .int .i64 0, .int .i64 0, .int .u64 0, .int .i64 0, .int .i64 0, .int .u32 0, .int .u32 0, .int .u32 0, .slice none 0 0, .int .i64 0, .int .i64 0, .int .i64 0, .int .i64 0, .int .i64 0, .int .i64 0] 40)).heap.size 3 [.int .i64 0, .int .i64 1, .int .i64 2] := Blk.new (w.alloc (.cells #[.int .i64 0, .int .i64 0, .int .i64 0, .int .i64 0, .int .u64 0, .int .i64 0, .int .i64 0, .int .u32 0, .int .u32 0, .int .u32 0, .slice none 0 0, .int .i64 0, .int .i64 0, .int .i64 0, .int .i64 0, .int .i64 0, .int .i64 0] 40)) 3 [.int .i64 0, .int .i64 1, .int .i64 2]
  rw [show (w.alloc (.cells #[.int .i64 0, .int .i64 0, .int .i64 0, .int .i64 0, .int .u64 0, .int .i64 0, .int .i64 0, .int .u32 0, .int .u32 0, .int .u32 0, .slice none 0 0, .int .i64 0, .int .i64 0, .int .i64 0, .int .i64 0, .int .i64 0, .int .i64 0] 40)).heap.size = w.heap.size + 1 by simp] at b2
  have HL := Lib.hid bz
  have B1 := Lib.hid b1
  have B2 := Lib.hid b2
  have HIN := Lib.hid (fun s : Ss => (show (Try.prog.info? 40).map (·.size) = some (ssc s).length from infoSsC))
  have HON := Lib.hid ssc_one
  clear bz b1 b2
  go_enter Try.func30, Try.ntmps30
  go_wp2_with ((with_reducible refine step_store (o := ⟨none, _, _, _, _, _⟩) (vs := ssc ⟨one18, some ⟨w.heap.size + 1, 0, none⟩, 3, 3⟩) (ty := 40) (x := .tmp 0) (y := .tmp 3) ?_ ?_ ?_ ?_ B1.out (HIN.out _) rfl (HON.out _) ?_); (rfl); (rfl); (rfl); (rfl); intro w4 hb4 hg4 hs4)
  refine bodyPost_ret (v := .agg (ssc ⟨one18, some ⟨w.heap.size + 1, 0, none⟩, 3, 3⟩).toArray) (results_one8 rfl _ rfl hb4 Try.underlying40 rfl (HIN.out _)) rfl ?_
  exact ⟨w.heap.size + 1, rfl, B2.out.same (hg4.block _ B2.out.lt (fun e => by have := Option.some.inj e; omega)), by omega, bel_upd HL.out hg4 (Nat.le_refl _) (Nat.le_refl _)⟩
theorem row_ky18 {w : World} {B n i : Nat} {a : Option Addr} {ls : List Ky} (h : Row kyc w B a n ls) (hi : i < n) :
    ∃ b o x, a = some ⟨b, o, none⟩ ∧ ls[i]? = some x ∧ b < B ∧ ∀ W, Below B w W → W.rangeAt b (o + i * 4) (kyc x) := by
  obtain ⟨b, o, x, rfl, hx, hb, hc⟩ := row_cells kyc_length h hi
  exact ⟨b, o, x, rfl, hx, hb, fun W hW j v hv => hc W hW j v hv⟩
theorem infoKc18 : (Try.prog.info? 30).map (·.size) = some 4 := by kernel_rfl
set_option maxHeartbeats 6400000 in
/-- All of one list are in another one. -/
theorem within18L_calls (a a2 : Option Addr) (n c n2 c2 : Nat) (l l2 : List Ky) (w : World) (h : Row kyc w w.heap.size a n l) (h2 : Row kyc w w.heap.size a2 n2 l2) (hn : n ≤ 1048576) (hn2 : n2 ≤ 1048576) (hin : ∀ x ∈ l, x ∈ l2) :
    Calls Try.prog 29 #[.slice a n c, .slice a2 n2 c2] w (Yes14 true w) := by
  have HR := Lib.hid h
  have HR2 := Lib.hid h2
  have HNN := Lib.hid (And.intro hn hn2)
  have HMM := Lib.hid hin
  have HIN := Lib.hid (fun x : Ky => (show (Try.prog.info? 30).map (·.size) = some (kyc x).length from infoKc18))
  have HON := Lib.hid kyc_one
  unfold Yes14
  clear h h2 hin
  go_enter Try.func29, Try.ntmps29
  go_wp2_with fail
  go_loopw [12] (fun u W => ∃ i : Nat, i ≤ n ∧ u = .int .i64 (i : Int) ∧ Hid (Below w.heap.size w W)) (fun u W => n - (intOf u).toNat)
  case atStart => exact ⟨0, Nat.zero_le _, rfl, Lib.hid (Below.refl _ _)⟩
  case round =>
    obtain ⟨i, hi, rfl, HB⟩ := hrel
    by_cases hlt : i < n
    · have i1 : (i : Int) < (n : Int) := by omega
      obtain ⟨b, o, x, rfl, hx, hbb, hc⟩ := row_ky18 HR.out hlt
      have HX := Lib.hid (hc wr HB.out)
      have HXI := Lib.hid (HMM.out x (List.mem_of_getElem? hx))
      have HI := Lib.hid hlt
      have i3 : IntKind.i64.wrap ((i : Int) + 1) = ((i + 1 : Nat) : Int) := by rw [IntWalk.i64_in _ (by have := HI.out; have := HNN.out; omega)]; omega
      clear hx hbb hc hlt hi
      have bz := bel_new (Below.refl wr.heap.size wr) (.cells #[.int .i64 0, .int .i64 0, .int .i64 0, .int .i64 0] 30)
      have BZ := Lib.hid (show Blk (wr.alloc (.cells #[.int .i64 0, .int .i64 0, .int .i64 0, .int .i64 0] 30)) wr.heap.size 30 [.int .i64 0, .int .i64 0, .int .i64 0, .int .i64 0] from Blk.new wr _ _)
      have HBZ := Lib.hid bz
      clear bz
      go_upto_region 4 with (first | (refine step_load_at (o := ⟨some 15, _, _, _, _, _⟩) rfl rfl rfl HX.out Try.underlying30 rfl (HIN.out _) ?_) | ((with_reducible refine step_store (o := ⟨none, _, _, _, _, _⟩) (vs := kyc x) (ty := 30) (x := .tmp 6) (y := .tmp 15) ?_ ?_ ?_ ?_ BZ.out (HIN.out _) rfl (HON.out _) ?_); (rfl); (rfl); (rfl); (rfl); intro w3 hb5 hg5 hs5))
      have VBw3 := Lib.hid hb5
      have hv : Below wr.heap.size wr w3 := bel_upd HBZ.out hg5 (Nat.le_refl _) (Nat.le_refl _)
      have HVw3 := Lib.hid hv
      clear hb5 hg5 hs5 BZ HBZ hv
      have HB3 := Lib.hid (HB.out.trans (HVw3.out.mono HB.out.size))
      clear HX HB HVw3
      go_wp2_with fail
      obtain ⟨qx, hqx⟩ : ∃ qx, wr.heap.size = qx := ⟨_, rfl⟩
      rw [hqx] at VBw3
      rw [hqx]
      clear hqx
      go_loopw [7, 18] (fun s u W => ∃ (j : Nat) (d : Bool), j ≤ n2 ∧ s = .bool d ∧ u = .int .i64 (j : Int) ∧ Hid (decide (x ∈ l2.take j) = d) ∧ Hid (Below w3.heap.size w3 W)) (fun s u W => n2 - (intOf u).toNat)
      case atStart => exact ⟨0, false, Nat.zero_le _, rfl, rfl, Lib.hid (by simp), Lib.hid (Below.refl _ _)⟩
      case round =>
        generalize wr = v5 at *
        obtain ⟨j, d, hj, rfl, rfl, HDD, HB5⟩ := hrel
        by_cases hlt : j < n2
        · have j1 : (j : Int) < (n2 : Int) := by omega
          obtain ⟨b2, o2, y, rfl, hy, hbb, hc⟩ := row_ky18 HR2.out hlt
          have HY := Lib.hid (hc v5 (HB3.out.trans (HB5.out.mono HB3.out.size)))
          have HYY := Lib.hid hy
          have HJ := Lib.hid hlt
          have j3 : IntKind.i64.wrap ((j : Int) + 1) = ((j + 1 : Nat) : Int) := by rw [IntWalk.i64_in _ (by have := HJ.out; have := HNN.out; omega)]; omega
          clear hy hbb hc hlt hj
          have bz := bel_new (Below.refl v5.heap.size v5) (.cells #[.int .i64 0, .int .i64 0, .int .i64 0, .int .i64 0] 30)
          have BZ := Lib.hid (show Blk (v5.alloc (.cells #[.int .i64 0, .int .i64 0, .int .i64 0, .int .i64 0] 30)) v5.heap.size 30 [.int .i64 0, .int .i64 0, .int .i64 0, .int .i64 0] from Blk.new v5 _ _)
          have HBZ := Lib.hid bz
          clear bz
          go_upto_region 8 with (first | (refine step_load_at (o := ⟨some 21, _, _, _, _, _⟩) rfl rfl rfl HY.out Try.underlying30 rfl (HIN.out _) ?_) | ((with_reducible refine step_store (o := ⟨none, _, _, _, _, _⟩) (vs := kyc y) (ty := 30) (x := .tmp 9) (y := .tmp 21) ?_ ?_ ?_ ?_ BZ.out (HIN.out _) rfl (HON.out _) ?_); (rfl); (rfl); (rfl); (rfl); intro v6 hb5 hg5 hs5))
          have VBv6 := Lib.hid hb5
          have hv : Below v5.heap.size v5 v6 := bel_upd HBZ.out hg5 (Nat.le_refl _) (Nat.le_refl _)
          have HVv6 := Lib.hid hv
          clear hb5 hg5 hs5 BZ HBZ hv
          have HB6 := Lib.hid (HB5.out.trans (HVv6.out.mono HB5.out.size))
          have HXB := Lib.hid (VBw3.out.below HB6.out)
          have hsn : decide (x ∈ l2.take (j + 1)) = (d || decide (x = y)) := by
            rw [← HDD.out, List.take_add_one, HYY.out]
            by_cases h1 : x ∈ l2.take j <;> by_cases h2 : x = y <;> simp [h1, h2]
          have HSN := Lib.hid hsn
          clear hsn HB5 HY
          cases d with
          | true =>
            go_wp2_with fail
            go_roundw
            case rel => exact ⟨j + 1, true, HJ.out, rfl, by first | rfl | (simp; omega), Lib.hid (by rw [HSN.out]; rfl), HB6⟩
            case measure => have := HJ.out; simp [intOf]; omega
          | false =>
            have x0 : v6.cell? ⟨qx, 0, none⟩ = some (.int .i64 x.tail) := HXB.out.cell 0
            have x1 : v6.cell? ⟨qx, 1, none⟩ = some (.int .i64 x.tun) := HXB.out.cell 1
            have x2 : v6.cell? ⟨qx, 2, none⟩ = some (.int .i64 x.head) := HXB.out.cell 2
            have x3 : v6.cell? ⟨qx, 3, none⟩ = some (.int .i64 x.lsp) := HXB.out.cell 3
            have y0 : v6.cell? ⟨v5.heap.size, 0, none⟩ = some (.int .i64 y.tail) := VBv6.out.cell 0
            have y1 : v6.cell? ⟨v5.heap.size, 1, none⟩ = some (.int .i64 y.tun) := VBv6.out.cell 1
            have y2 : v6.cell? ⟨v5.heap.size, 2, none⟩ = some (.int .i64 y.head) := VBv6.out.cell 2
            have y3 : v6.cell? ⟨v5.heap.size, 3, none⟩ = some (.int .i64 y.lsp) := VBv6.out.cell 3
            obtain ⟨dd, hdd⟩ : ∃ dd, decide (x = y) = dd := ⟨_, rfl⟩
            have hek := fun W => (eq_ky x y W).1
            rw [hdd] at hek
            rw [hdd] at HSN
            clear hdd
            go_wp2_with fail
            go_roundw
            case rel => exact ⟨j + 1, dd, HJ.out, rfl, by first | rfl | (simp; omega), Lib.hid (by rw [HSN.out]; rfl), HB6⟩
            case measure => have := HJ.out; simp [intOf]; omega
        · have j1 : ¬ (j : Int) < (n2 : Int) := by omega
          obtain rfl : j = n2 := by omega
          have hd : d = true := by
            rw [← HDD.out, List.take_of_length_le (by rw [HR2.out.1]; exact Nat.le_refl _)]
            exact decide_eq_true HXI.out
          subst hd
          have HB6 := Lib.hid (HB3.out.trans (HB5.out.mono HB3.out.size))
          clear hlt hj
          go_wp2_with fail
          go_roundw
          case rel => exact ⟨i + 1, HI.out, by first | rfl | (simp; omega), HB6⟩
          case measure => have := HI.out; simp [intOf]; omega
    · have i1 : ¬ (i : Int) < (n : Int) := by omega
      clear hlt hi
      go_wp2_with fail
      go_ret
      exact ⟨rfl, HB.out⟩
end Go.Proofs.Ytogijfebfffobaa
