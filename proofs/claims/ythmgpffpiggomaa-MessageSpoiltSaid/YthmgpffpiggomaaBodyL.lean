/-
  Contracts of the statements' same, and of the document's Same for items. Condition: what comes in reads as lists.
-/
import Derived.Test.YthmgpffpiggomaaBodyK
namespace Go.Proofs.Ythmgpffpiggomaa
open Go.RowKit

theorem take_all {l k : List Int} {n : Nat} (h : l.take n = k.take n) (h1 : l.length = n) (h2 : k.length = n) : l = k := by
  rwa [List.take_of_length_le (by omega), List.take_of_length_le (by omega)] at h

/-- What is known behind the loop: the lists are alike. -/
def CutR (w : World) (xs ys : List Value) (xl yl : List Int) (W : World) : Prop :=
  Blk W w.heap.size 88 xs ∧ Blk W (w.heap.size + 1) 88 ys ∧ Below w.heap.size w W ∧ xl = yl

set_option maxRecDepth 100000 in
set_option maxHeartbeats 3200000 in
theorem rsame7_calls (x y : It) (B B2 : Nat) (w : World) (h : Row ei w B x.la x.ln x.l) (h2 : Row ei w B2 y.la y.ln y.l) (hB : B ≤ w.heap.size) (hB2 : B2 ≤ w.heap.size) (hn : x.ln ≤ maxLen) (hn2 : y.ln ≤ maxLen) :
    Calls Try.prog 38 #[.agg x.cells.toArray, .agg y.cells.toArray] w (SamePost w (x.val.same y.val)) := by
  obtain ⟨xcl, xa, xb, xc, xu, xla, xln, xlc, xl, xbw, xsu, xho, xan, xal, xno⟩ := x
  obtain ⟨ycl, ya, yb, yc, yu, yla, yln, ylc, yl, ybw, ysu, yho, yan, yal, yno⟩ := y
  simp only [It.cells, It.val] at h h2 hn hn2 ⊢
  unfold maxLen at hn hn2
  have hn1 := Blk.new (w.alloc (.cells ([.int .i64 xcl, .int .i64 xa, .int .i64 xb, .int .i64 xc, .int .u64 (xu : Int), .slice xla xln xlc, .int .u64 (xbw : Int), .int .i64 xsu, .int .i64 xho, .int .u32 (xan : Int), .int .u32 (xal : Int), .int .u32 (xno : Int)]).toArray 88)) 88 [.int .i64 ycl, .int .i64 ya, .int .i64 yb, .int .i64 yc, .int .u64 (yu : Int), .slice yla yln ylc, .int .u64 (ybw : Int), .int .i64 ysu, .int .i64 yho, .int .u32 (yan : Int), .int .u32 (yal : Int), .int .u32 (yno : Int)]
  simp only [World.size_alloc] at hn1
  have H0 := Lib.hid ((Blk.new w 88 [.int .i64 xcl, .int .i64 xa, .int .i64 xb, .int .i64 xc, .int .u64 (xu : Int), .slice xla xln xlc, .int .u64 (xbw : Int), .int .i64 xsu, .int .i64 xho, .int .u32 (xan : Int), .int .u32 (xal : Int), .int .u32 (xno : Int)]).alloc (.cells ([.int .i64 ycl, .int .i64 ya, .int .i64 yb, .int .i64 yc, .int .u64 (yu : Int), .slice yla yln ylc, .int .u64 (ybw : Int), .int .i64 ysu, .int .i64 yho, .int .u32 (yan : Int), .int .u32 (yal : Int), .int .u32 (yno : Int)]).toArray 88))
  have H1 := Lib.hid hn1
  have bel := bel_new (bel_new (Below.refl w.heap.size w) (.cells ([.int .i64 xcl, .int .i64 xa, .int .i64 xb, .int .i64 xc, .int .u64 (xu : Int), .slice xla xln xlc, .int .u64 (xbw : Int), .int .i64 xsu, .int .i64 xho, .int .u32 (xan : Int), .int .u32 (xal : Int), .int .u32 (xno : Int)]).toArray 88)) (.cells ([.int .i64 ycl, .int .i64 ya, .int .i64 yb, .int .i64 yc, .int .u64 (yu : Int), .slice yla yln ylc, .int .u64 (ybw : Int), .int .i64 ysu, .int .i64 yho, .int .u32 (yan : Int), .int .u32 (yal : Int), .int .u32 (yno : Int)]).toArray 88)
  have HB := Lib.hid bel
  have R1 := Lib.hid (h.below (bel.mono hB))
  have R2 := Lib.hid (h2.below (bel.mono hB2))
  have L1 := Lib.hid h.1
  have L2 := Lib.hid h2.1
  clear hn1 h h2 bel hB hB2
  go_enter Try.func38, Try.ntmps38
  go_upto_region 1 with fail
  revert H0 H1 HB R1 R2
  generalize World.alloc (World.alloc w _) _ = W1
  intro H0 H1 HB R1 R2
  have x5 := H0.out.cell 5
  have y5 := H1.out.cell 5
  simp only [List.getElem?_cons_zero, List.getElem?_cons_succ] at x5 y5
  by_cases hne : xln = yln
  · subst hne
    go_upto_block 0 with fail
    go_cut [5] (fun _ W => CutR w [.int .i64 xcl, .int .i64 xa, .int .i64 xb, .int .i64 xc, .int .u64 (xu : Int), .slice xla xln xlc, .int .u64 (xbw : Int), .int .i64 xsu, .int .i64 xho, .int .u32 (xan : Int), .int .u32 (xal : Int), .int .u32 (xno : Int)] [.int .i64 ycl, .int .i64 ya, .int .i64 yb, .int .i64 yc, .int .u64 (yu : Int), .slice yla xln ylc, .int .u64 (ybw : Int), .int .i64 ysu, .int .i64 yho, .int .u32 (yan : Int), .int .u32 (yal : Int), .int .u32 (yno : Int)] xl yl W)
    case first =>
      go_wp2_with fail
      go_loopw [5] (fun t W => ∃ j m : Nat, j ≤ xln ∧ t = .int .i64 (j : Int) ∧ W = W1.drewN m ∧ Hid (xl.take j = yl.take j)) (fun t _ => xln - (intOf t).toNat)
      case atStart => exact ⟨0, 0, Nat.zero_le _, rfl, rfl, by exact rfl⟩
      case round =>
        obtain ⟨j, m, hj, rfl, rfl, hT⟩ := hrel
        by_cases hlt : j < xln
        · obtain ⟨b, o, v, rfl, hx, d1⟩ := row_int R1.out hlt
          obtain ⟨b2, o2, u, rfl, hy, d2⟩ := row_int R2.out hlt
          have HX := Lib.hid hx
          have HY := Lib.hid hy
          clear hx hy
          by_cases hxy : v = u
          · have HT := Lib.hid (take_more hT.out HX.out HY.out hxy)
            subst hxy
            clear hT
            go_wp2
            go_quiet (fail)
            go_wp2
            exact ⟨⟨j + 1, m + nq, by omega, by go_num, rfl, HT⟩, by simp [intOf]; omega⟩
          · have HS := Lib.hid (show PIt.same ⟨xcl, xa, xb, xc, xu, xl, ⟨xbw, xsu, xho, xan, xal, xno⟩⟩ ⟨ycl, ya, yb, yc, yu, yl, ⟨ybw, ysu, yho, yan, yal, yno⟩⟩ = false by
              have : ¬ xl = yl := fun e => by
                have h3 := HX.out
                rw [e, HY.out] at h3
                injection h3 with h3
                exact hxy h3.symm
              simp [PIt.same, this])
            go_wp2
            go_quiet (fail)
            go_wp2
            go_ret
            rw [HS.out]
            exact ⟨rfl, bel_drewN (bel_drewN HB.out m) nq⟩
        · have hjn : j = xln := by omega
          subst hjn
          have HT := Lib.hid (take_all hT.out L1.out L2.out)
          clear hT
          go_wp2
          go_meet
          exact ⟨H0.out.drewN m, H1.out.drewN m, bel_drewN HB.out m, HT.out⟩
    case rest =>
      obtain ⟨h0, h1, hb, rfl⟩ := hcut
      clear H0 H1 HB R1 R2 x5 y5
      have HB := Lib.hid hb
      have a0 := h0.cell 0
      have b0 := h1.cell 0
      have a1 := h0.cell 1
      have b1 := h1.cell 1
      have a2 := h0.cell 2
      have b2 := h1.cell 2
      have a3 := h0.cell 3
      have b3 := h1.cell 3
      have a4 := h0.cell 4
      have b4 := h1.cell 4
      have a6 := h0.cell 6
      have b6 := h1.cell 6
      have a7 := h0.cell 7
      have b7 := h1.cell 7
      have a8 := h0.cell 8
      have b8 := h1.cell 8
      have a9 := h0.cell 9
      have b9 := h1.cell 9
      have a10 := h0.cell 10
      have b10 := h1.cell 10
      have a11 := h0.cell 11
      have b11 := h1.cell 11
      simp only [List.getElem?_cons_zero, List.getElem?_cons_succ] at a0 b0 a1 b1 a2 b2 a3 b3 a4 b4 a6 b6 a7 b7 a8 b8 a9 b9 a10 b10 a11 b11
      clear h0 h1 hb
      by_cases e0 : xcl = ycl
      · subst e0
        by_cases e1 : xa = ya
        · subst e1
          by_cases e2 : xb = yb
          · subst e2
            by_cases e3 : xc = yc
            · subst e3
              by_cases e4 : xu = yu
              · subst e4
                cases ew : Wnt.same ⟨xbw, xsu, xho, xan, xal, xno⟩ ⟨ybw, ysu, yho, yan, yal, yno⟩
                · have HS := Lib.hid (show PIt.same ⟨xcl, xa, xb, xc, xu, xl, ⟨xbw, xsu, xho, xan, xal, xno⟩⟩ ⟨xcl, xa, xb, xc, xu, xl, ⟨ybw, ysu, yho, yan, yal, yno⟩⟩ = false by simp [PIt.same, ew])
                  have EW := Lib.hid (show ¬ (xbw = ybw ∧ xsu = ysu ∧ xho = yho ∧ xan = yan ∧ xal = yal ∧ xno = yno) by
                    rintro ⟨rfl, rfl, rfl, rfl, rfl, rfl⟩
                    simp [Wnt.same] at ew)
                  clear ew
                  go_wp2
                  all_goals first
                    | (exfalso; apply EW.out; refine ⟨?_, ?_, ?_, ?_, ?_, ?_⟩ <;> omega)
                    | (go_ret; rw [HS.out]; exact ⟨rfl, HB.out⟩)
                · have HS := Lib.hid (show PIt.same ⟨xcl, xa, xb, xc, xu, xl, ⟨xbw, xsu, xho, xan, xal, xno⟩⟩ ⟨xcl, xa, xb, xc, xu, xl, ⟨ybw, ysu, yho, yan, yal, yno⟩⟩ = true by simp [PIt.same, ew])
                  have hw := (Wnt.same_iff _ _).1 ew
                  injection hw with w0 w1 w2 w3 w4 w5
                  subst w0 w1 w2 w3 w4 w5
                  clear ew
                  go_wp2
                  go_ret
                  rw [HS.out]
                  exact ⟨rfl, HB.out⟩
              · have HS := Lib.hid (show PIt.same ⟨xcl, xa, xb, xc, xu, xl, ⟨xbw, xsu, xho, xan, xal, xno⟩⟩ ⟨xcl, xa, xb, xc, yu, xl, ⟨ybw, ysu, yho, yan, yal, yno⟩⟩ = false by simp [PIt.same, e4])
                have e4' : ¬ (xu : Int) = (yu : Int) := by omega
                go_wp2
                go_ret
                rw [HS.out]
                exact ⟨rfl, HB.out⟩
            · have HS := Lib.hid (show PIt.same ⟨xcl, xa, xb, xc, xu, xl, ⟨xbw, xsu, xho, xan, xal, xno⟩⟩ ⟨xcl, xa, xb, yc, yu, xl, ⟨ybw, ysu, yho, yan, yal, yno⟩⟩ = false by simp [PIt.same, e3])
              go_wp2
              go_ret
              rw [HS.out]
              exact ⟨rfl, HB.out⟩
          · have HS := Lib.hid (show PIt.same ⟨xcl, xa, xb, xc, xu, xl, ⟨xbw, xsu, xho, xan, xal, xno⟩⟩ ⟨xcl, xa, yb, yc, yu, xl, ⟨ybw, ysu, yho, yan, yal, yno⟩⟩ = false by simp [PIt.same, e2])
            go_wp2
            go_ret
            rw [HS.out]
            exact ⟨rfl, HB.out⟩
        · have HS := Lib.hid (show PIt.same ⟨xcl, xa, xb, xc, xu, xl, ⟨xbw, xsu, xho, xan, xal, xno⟩⟩ ⟨xcl, ya, yb, yc, yu, xl, ⟨ybw, ysu, yho, yan, yal, yno⟩⟩ = false by simp [PIt.same, e1])
          go_wp2
          go_ret
          rw [HS.out]
          exact ⟨rfl, HB.out⟩
      · have HS := Lib.hid (show PIt.same ⟨xcl, xa, xb, xc, xu, xl, ⟨xbw, xsu, xho, xan, xal, xno⟩⟩ ⟨ycl, ya, yb, yc, yu, xl, ⟨ybw, ysu, yho, yan, yal, yno⟩⟩ = false by simp [PIt.same, e0])
        go_wp2
        go_ret
        rw [HS.out]
        exact ⟨rfl, HB.out⟩
  · have HS := Lib.hid (show PIt.same ⟨xcl, xa, xb, xc, xu, xl, ⟨xbw, xsu, xho, xan, xal, xno⟩⟩ ⟨ycl, ya, yb, yc, yu, yl, ⟨ybw, ysu, yho, yan, yal, yno⟩⟩ = false by
      have : ¬ xl = yl := fun e => hne (by rw [← L1.out, ← L2.out, e])
      simp [PIt.same, this])
    go_wp2
    go_ret
    rw [HS.out]
    exact ⟨rfl, HB.out⟩
end Go.Proofs.Ythmgpffpiggomaa
