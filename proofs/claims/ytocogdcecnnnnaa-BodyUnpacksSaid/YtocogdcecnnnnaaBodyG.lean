/-
  Contracts of package body's kind and same, and of slices.Equal at numbers. Condition: the lists that come in read as numbers.
-/
import Derived.Test.YtocogdcecnnnnaaBodyF
namespace Go.Proofs.Ytocogdcecnnnnaa
open Go.RowKit

set_option maxRecDepth 100000 in
set_option maxHeartbeats 800000 in
theorem kind_calls (cl : Int) (w : World) :
    Calls Try.prog 20 #[.int .i64 cl] w fun e w' => e = .returned (.int .i64 (knd cl)) ∧ w = w' := by
  by_cases hk : knd cl = 0
  · have h : ¬ (cl = 1) ∧ ¬ (cl = 3) ∧ ¬ (cl = 5) ∧ ¬ (cl = 6) ∧ ¬ (cl = 8) ∧ ¬ (cl = 9) ∧ ¬ (cl = 10) ∧ ¬ (cl = 11) ∧ ¬ (cl = 12) ∧ ¬ (cl = 16) ∧ ¬ (cl = 19) ∧ ¬ (cl = 20) ∧ ¬ (cl = 21) ∧ ¬ (cl = 23) ∧ ¬ (cl = 207) := by
      refine ⟨?_, ?_, ?_, ?_, ?_, ?_, ?_, ?_, ?_, ?_, ?_, ?_, ?_, ?_, ?_⟩ <;> (intro e; subst e; revert hk; decide)
    obtain ⟨n1, n2, n3, n4, n5, n6, n7, n8, n9, n10, n11, n12, n13, n14, n15⟩ := h
    rw [hk]
    clear hk
    go_enter Try.func20, Try.ntmps20
    go_wp2
    go_ret
    exact ⟨rfl, rfl⟩
  · rcases knd_cases hk with e | e | e | e | e | e | e | e | e | e | e | e | e | e | e
    all_goals
      subst e
      clear hk
      go_enter Try.func20, Try.ntmps20
      go_wp2
      go_ret
      exact ⟨rfl, rfl⟩

theorem take_more {l k : List Int} {j : Nat} {x y : Int} (h : l.take j = k.take j) (hx : l[j]? = some x) (hy : k[j]? = some y) (e : x = y) : l.take (j + 1) = k.take (j + 1) := by
  rw [List.take_add_one, List.take_add_one, h, hx, hy, e]
theorem row_int {w : World} {B n : Nat} {a : Option Addr} {l : List Int} (h : Row ei w B a n l) {j : Nat} (hj : j < n) : ∃ b o x, a = some ⟨b, o, none⟩ ∧ l[j]? = some x ∧ w.cell? ⟨b, o + j, none⟩ = some (.int .i64 x) := by
  have hl := h.1
  obtain ⟨b, o, rfl, _, hc⟩ := h.2 (by omega)
  have hj' : j < l.length := by omega
  have := hc j (by rw [ei_flat]; simpa using hj')
  simp only [ei_flat, List.getElem_map] at this
  exact ⟨b, o, l[j], rfl, by simp [hj'], this⟩

/-- What a comparison answers. -/
def CmpPost (w : World) (v : Bool) (e : Ending) (w' : World) : Prop := e = .returned (.bool v) ∧ ∃ m, w' = w.drewN m

set_option maxHeartbeats 800000 in
theorem equal_calls (a a2 : Option Addr) (n n2 c c2 : Nat) (l k : List Int) (B B2 : Nat) (w : World) (h : Row ei w B a n l) (h2 : Row ei w B2 a2 n2 k) (hn : n ≤ maxLen) (hn2 : n2 ≤ maxLen) :
    Calls Try.prog 35 #[.slice a n c, .slice a2 n2 c2] w (CmpPost w (l == k)) := by
  unfold maxLen at hn hn2
  have H1 := Lib.hid h
  have H2 := Lib.hid h2
  have L1 := Lib.hid h.1
  have L2 := Lib.hid h2.1
  clear h h2
  by_cases hne : n = n2
  · subst hne
    go_enter Try.func35, Try.ntmps35
    go_wp2
    go_loopw [13] (fun t W => ∃ j m : Nat, j ≤ n ∧ t = .int .i64 (j : Int) ∧ W = w.drewN m ∧ Hid (l.take j = k.take j)) (fun t _ => n - (intOf t).toNat)
    case atStart => exact ⟨0, 0, Nat.zero_le _, rfl, rfl, by exact rfl⟩
    case round =>
      obtain ⟨j, m, hj, rfl, rfl, hT⟩ := hrel
      by_cases hlt : j < n
      · obtain ⟨b, o, x, rfl, hx, d1⟩ := row_int H1.out hlt
        obtain ⟨b2, o2, y, rfl, hy, d2⟩ := row_int H2.out hlt
        have HX := Lib.hid hx
        have HY := Lib.hid hy
        clear hx hy
        by_cases hxy : x = y
        · have HT := Lib.hid (take_more hT.out HX.out HY.out hxy)
          subst hxy
          clear hT
          go_wp2
          go_quiet (fail)
          go_wp2
          exact ⟨⟨j + 1, m + nq, by omega, by go_num, rfl, HT⟩, by simp [intOf]; omega⟩
        · go_wp2
          go_quiet (fail)
          go_wp2
          go_ret
          have hf : (l == k) = false := by
            rw [beq_eq_false_iff_ne]
            intro e
            have h3 := HX.out
            rw [e, HY.out] at h3
            injection h3 with h3
            exact hxy h3.symm
          rw [hf]
          exact ⟨rfl, m + nq, World.drewN_drewN _ _ _⟩
      · have hjn : j = n := by omega
        subst hjn
        have HT := Lib.hid (show (l == k) = true by
          have h3 := hT.out
          rw [List.take_of_length_le (by rw [L1.out]; exact Nat.le_refl _), List.take_of_length_le (by rw [L2.out]; exact Nat.le_refl _)] at h3
          rw [h3]; simp)
        clear hT
        go_wp2
        go_ret
        rw [HT.out]
        exact ⟨rfl, m, rfl⟩
  · have hf : Hid ((l == k) = false) := by
      show (l == k) = false
      rw [beq_eq_false_iff_ne]
      intro e
      exact hne (by rw [← L1.out, ← L2.out, e])
    go_enter Try.func35, Try.ntmps35
    go_wp2
    go_ret
    rw [hf.out]
    exact ⟨rfl, 0, rfl⟩
/-- What a comparison of items answers. -/
def SamePost (w : World) (v : Bool) (e : Ending) (w' : World) : Prop := e = .returned (.bool v) ∧ Below w.heap.size w w'

set_option maxRecDepth 100000 in
set_option maxHeartbeats 1600000 in
theorem bsame_calls (x y : It) (B B2 : Nat) (w : World) (h : Row ei w B x.la x.ln x.l) (h2 : Row ei w B2 y.la y.ln y.l) (hB : B ≤ w.heap.size) (hB2 : B2 ≤ w.heap.size) (hn : x.ln ≤ maxLen) (hn2 : y.ln ≤ maxLen) :
    Calls Try.prog 21 #[.agg x.cells.toArray, .agg y.cells.toArray] w (SamePost w (x.val.same y.val)) := by
  obtain ⟨xcl, xa, xb, xc, xu, xla, xln, xlc, xl, xbw, xsu, xho, xan, xal, xno⟩ := x
  obtain ⟨ycl, ya, yb, yc, yu, yla, yln, ylc, yl, ybw, ysu, yho, yan, yal, yno⟩ := y
  simp only [It.cells, It.val] at h h2 hn hn2 ⊢
  have hbx := (Blk.new w 36 [.int .i64 xcl, .int .i64 xa, .int .i64 xb, .int .i64 xc, .int .u64 (xu : Int), .slice xla xln xlc, .int .u64 (xbw : Int), .int .i64 xsu, .int .i64 xho, .int .u32 (xan : Int), .int .u32 (xal : Int), .int .u32 (xno : Int)]).alloc (.cells ([.int .i64 ycl, .int .i64 ya, .int .i64 yb, .int .i64 yc, .int .u64 (yu : Int), .slice yla yln ylc, .int .u64 (ybw : Int), .int .i64 ysu, .int .i64 yho, .int .u32 (yan : Int), .int .u32 (yal : Int), .int .u32 (yno : Int)]).toArray 36)
  have hby := Blk.new (w.alloc (.cells ([.int .i64 xcl, .int .i64 xa, .int .i64 xb, .int .i64 xc, .int .u64 (xu : Int), .slice xla xln xlc, .int .u64 (xbw : Int), .int .i64 xsu, .int .i64 xho, .int .u32 (xan : Int), .int .u32 (xal : Int), .int .u32 (xno : Int)]).toArray 36)) 36 [.int .i64 ycl, .int .i64 ya, .int .i64 yb, .int .i64 yc, .int .u64 (yu : Int), .slice yla yln ylc, .int .u64 (ybw : Int), .int .i64 ysu, .int .i64 yho, .int .u32 (yan : Int), .int .u32 (yal : Int), .int .u32 (yno : Int)]
  have bel := bel_new (bel_new (Below.refl w.heap.size w) (.cells ([.int .i64 xcl, .int .i64 xa, .int .i64 xb, .int .i64 xc, .int .u64 (xu : Int), .slice xla xln xlc, .int .u64 (xbw : Int), .int .i64 xsu, .int .i64 xho, .int .u32 (xan : Int), .int .u32 (xal : Int), .int .u32 (xno : Int)]).toArray 36)) (.cells ([.int .i64 ycl, .int .i64 ya, .int .i64 yb, .int .i64 yc, .int .u64 (yu : Int), .slice yla yln ylc, .int .u64 (ybw : Int), .int .i64 ysu, .int .i64 yho, .int .u32 (yan : Int), .int .u32 (yal : Int), .int .u32 (yno : Int)]).toArray 36)
  have hc := equal_calls xla yla xln yln xlc ylc xl yl _ _ _ (h.below (bel.mono hB)) (h2.below (bel.mono hB2)) hn hn2
  have HBel := Lib.hid bel
  clear h h2 bel hB hB2 hn hn2
  by_cases e0 : xcl = ycl
  · subst e0
    by_cases e1 : xa = ya
    · subst e1
      by_cases e2 : xb = yb
      · subst e2
        by_cases e3 : xc = yc
        · subst e3
          by_cases e4 : xu = yu
          · subst e4
            have HX := Lib.hid hbx
            have HY := Lib.hid hby
            clear hbx hby
            go_enter Try.func21, Try.ntmps21
            go_wp2_with fail
            ((with_reducible refine hc.mono ?_))
            rintro e w1 ⟨rfl, m, rfl⟩
            have HB2 := Lib.hid (bel_drewN HBel.out m)
            have a6 := (HX.out.drewN m).cell 6
            have b6 := (HY.out.drewN m).cell 6
            have a7 := (HX.out.drewN m).cell 7
            have b7 := (HY.out.drewN m).cell 7
            have a8 := (HX.out.drewN m).cell 8
            have b8 := (HY.out.drewN m).cell 8
            have a9 := (HX.out.drewN m).cell 9
            have b9 := (HY.out.drewN m).cell 9
            have a10 := (HX.out.drewN m).cell 10
            have b10 := (HY.out.drewN m).cell 10
            have a11 := (HX.out.drewN m).cell 11
            have b11 := (HY.out.drewN m).cell 11
            simp only [List.getElem?_cons_zero, List.getElem?_cons_succ, World.size_alloc] at a6 a7 a8 a9 a10 a11 b6 b7 b8 b9 b10 b11
            clear HX HY HBel hc
            revert HB2 a6 a7 a8 a9 a10 a11 b6 b7 b8 b9 b10 b11
            generalize World.drewN _ m = W1
            intro HB2 a6 a7 a8 a9 a10 a11 b6 b7 b8 b9 b10 b11
            cases hl : (xl == yl)
            · have HS := Lib.hid (show PIt.same ⟨xcl, xa, xb, xc, xu, xl, ⟨xbw, xsu, xho, xan, xal, xno⟩⟩ ⟨xcl, xa, xb, xc, xu, yl, ⟨ybw, ysu, yho, yan, yal, yno⟩⟩ = false by simp [PIt.same, hl])
              go_wp2
              go_ret
              rw [HS.out]
              exact ⟨rfl, HB2.out⟩
            · cases ew : Wnt.same ⟨xbw, xsu, xho, xan, xal, xno⟩ ⟨ybw, ysu, yho, yan, yal, yno⟩
              · have HS := Lib.hid (show PIt.same ⟨xcl, xa, xb, xc, xu, xl, ⟨xbw, xsu, xho, xan, xal, xno⟩⟩ ⟨xcl, xa, xb, xc, xu, yl, ⟨ybw, ysu, yho, yan, yal, yno⟩⟩ = false by simp [PIt.same, ew])
                have EW := Lib.hid (show ¬ (xbw = ybw ∧ xsu = ysu ∧ xho = yho ∧ xan = yan ∧ xal = yal ∧ xno = yno) by
                  rintro ⟨rfl, rfl, rfl, rfl, rfl, rfl⟩
                  simp [Wnt.same] at ew)
                clear ew hl
                go_wp2
                all_goals first
                  | (exfalso; apply EW.out; refine ⟨?_, ?_, ?_, ?_, ?_, ?_⟩ <;> omega)
                  | (go_ret; rw [HS.out]; exact ⟨rfl, HB2.out⟩)
              · have HS := Lib.hid (show PIt.same ⟨xcl, xa, xb, xc, xu, xl, ⟨xbw, xsu, xho, xan, xal, xno⟩⟩ ⟨xcl, xa, xb, xc, xu, yl, ⟨ybw, ysu, yho, yan, yal, yno⟩⟩ = true by simp [PIt.same, ew, hl])
                have hw := (Wnt.same_iff _ _).1 ew
                injection hw with w0 w1 w2 w3 w4 w5
                subst w0 w1 w2 w3 w4 w5
                clear ew hl
                go_wp2
                go_ret
                rw [HS.out]
                exact ⟨rfl, HB2.out⟩
          · clear hbx hby hc
            have e4' : ¬ (xu : Int) = (yu : Int) := by omega
            go_enter Try.func21, Try.ntmps21
            go_wp2
            go_ret
            exact ⟨by simp [PIt.same, e4], HBel.out⟩
        · clear hbx hby hc
          go_enter Try.func21, Try.ntmps21
          go_wp2
          go_ret
          exact ⟨by simp [PIt.same, e3], HBel.out⟩
      · clear hbx hby hc
        go_enter Try.func21, Try.ntmps21
        go_wp2
        go_ret
        exact ⟨by simp [PIt.same, e2], HBel.out⟩
    · clear hbx hby hc
      go_enter Try.func21, Try.ntmps21
      go_wp2
      go_ret
      exact ⟨by simp [PIt.same, e1], HBel.out⟩
  · clear hbx hby hc
    go_enter Try.func21, Try.ntmps21
    go_wp2
    go_ret
    exact ⟨by simp [PIt.same, e0], HBel.out⟩
end Go.Proofs.Ytocogdcecnnnnaa
