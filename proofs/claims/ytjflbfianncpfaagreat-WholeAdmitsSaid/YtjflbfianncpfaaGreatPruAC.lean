/-
  The code of layer 16 (prune): slices.Index and slices.Contains of pairs, owned, excluded; a question in memory. Condition: fewer than 2^30 elements in each list.
  The code of layer 16 (prune): excluded, hasRoom, Fits, Links. Condition: numbers as large as their types allow; fewer than 2^30 elements in each list.
  The code of layer 16 (prune): Links. Condition: numbers as large as their types allow; fewer than 2^30 elements in each list.
-/
import Derived.Test.YtjflbfianncpfaaGreatPruM
import Derived.Test.YtjflbfianncpfaaGreatTedAE
import Derived.Test.YtjflbfianncpfaaGreatTecA
import Derived.Test.YtjflbfianncpfaaGreatGraphAC
import Derived.Test.YtjflbfianncpfaaGreatGroupMC
import Derived.Test.YtjflbfianncpfaaGreatLedgMK
import Derived.Test.YtjflbfianncpfaaGreatBase
namespace Go.Proofs.YtjflbfianncpfaaGreat
set_option maxRecDepth 100000
set_option linter.unusedVariables false
open Go.RowKit

/-- The cells of what a tunnel has of a link; of a pair. -/
def owc (o : Ow) : List Value := [.int .i64 o.f, .int .i64 o.t, .int .u64 (o.b : Int)]
def prc (p : Int × Int) : List Value := [.int .i64 p.1, .int .i64 p.2]
theorem owc_length (o : Ow) : (owc o).length = 3 := rfl
theorem prc_length (p : Int × Int) : (prc p).length = 2 := rfl
theorem owc_one (o : Ow) : ∀ u ∈ owc o, u.oneCell' = true := by
  intro u hu
  simp only [owc, List.mem_cons, List.not_mem_nil, or_false] at hu
  rcases hu with rfl | rfl | rfl <;> rfl
theorem prc_one (o : Int × Int) : ∀ u ∈ prc o, u.oneCell' = true := by
  intro u hu
  simp only [prc, List.mem_cons, List.not_mem_nil, or_false] at hu
  rcases hu with rfl | rfl <;> rfl
/-- Where the lists of a question lie, and its Hops. -/
structure Pl where
  a1 : Option Addr
  n1 : Nat
  c1 : Nat
  a2 : Option Addr
  n2 : Nat
  c2 : Nat
  a3 : Option Addr
  n3 : Nat
  c3 : Nat
  h : Int
/-- The cells of a question. -/
def akc (w : Wn) (p : Pl) : List Value := [.int .u64 (w.bw : Int), .int .i64 w.su, .int .i64 w.ho, .int .u32 (w.an : Int), .int .u32 (w.al : Int), .int .u32 (w.no : Int), .slice p.a1 p.n1 p.c1, .slice p.a2 p.n2 p.c2, .slice p.a3 p.n3 p.c3, .int .i64 p.h]
theorem akc_length (w : Wn) (p : Pl) : (akc w p).length = 10 := rfl
theorem akc_one (w : Wn) (p : Pl) : ∀ u ∈ akc w p, u.oneCell' = true := by
  intro u hu
  simp only [akc, List.mem_cons, List.not_mem_nil, or_false] at hu
  rcases hu with rfl | rfl | rfl | rfl | rfl | rfl | rfl | rfl | rfl | rfl <;> rfl
theorem akc_range {w : Wn} {p : Pl} {W : World} {g : Nat} {T : TypeId} (h : Blk W g T (akc w p)) : W.rangeAt g 0 (wnc w) := fun j v hv => by
  rw [Nat.zero_add, h.cell j]
  have hj : j < 6 := (List.getElem?_eq_some_iff.1 hv).1
  rw [← hv]
  rcases j with _ | _ | _ | _ | _ | _ | j
  iterate 6 rfl
  omega
theorem adc_range {a : Ad} {W : World} {g : Nat} {T : TypeId} (h : Blk W g T (adc a)) : W.rangeAt g 0 (lkc a.k) := fun j v hv => by
  rw [Nat.zero_add, h.cell j]
  unfold adc
  rw [List.getElem?_append_left (List.getElem?_eq_some_iff.1 hv).1]
  exact hv
/-- A question's lists lie in memory below B. -/
structure AkIn (W : World) (B : Nat) (a : Ak) (p : Pl) : Prop where
  nn : Row ei W B p.a1 p.n1 a.nn
  nl : Row prc W B p.a2 p.n2 a.nl
  ow : Row owc W B p.a3 p.n3 a.ow
  b1 : p.n1 ≤ 1073741824
  b2 : p.n2 ≤ 1073741824
  b3 : p.n3 ≤ 1073741824
theorem AkIn.below {W W' : World} {a : Ak} {p : Pl} (h : AkIn W W.heap.size a p) (hb : Below W.heap.size W W') : AkIn W' W'.heap.size a p :=
  ⟨(h.nn.below hb).more hb.size, (h.nl.below hb).more hb.size, (h.ow.below hb).more hb.size, h.b1, h.b2, h.b3⟩
def Num16 (n : Nat) (w : World) (e : Ending) (w' : World) : Prop := e = .returned (.int .u64 ((n : Nat) : Int)) ∧ Below w.heap.size w w'
theorem infoWn16 : (Tryz.prog.info? 29).map (·.size) = some 6 := by kernel_rfl
theorem infoAkP : (Tryz.prog.info? 60).map (·.size) = some 10 := by kernel_rfl
theorem infoPr16 : (Tryz.prog.info? 173).map (·.size) = some 2 := by kernel_rfl
theorem eq_pr16 (x y : Int × Int) (w : World) : (binOp .eql 173 (.agg (prc x).toArray) (.agg (prc y).toArray)).run Tryz.prog w = .ok (.bool (decide (x = y))) w :=
  (eql_E (xs := prc x) (ys := prc y) (la := prc x) (lb := prc y) (m := 5) (D := 5) (by decide) (by kernel_rfl) (by rfl) (by rfl) (by rfl) (by rfl) w (decide (x = y)) (by
    rw [decide_eq_true_eq]
    constructor
    · intro h; rw [h]
    · intro h
      obtain ⟨a, b⟩ := x
      obtain ⟨c, d⟩ := y
      simpa [prc] using h)).1

set_option maxHeartbeats 1600000 in
theorem index16_calls (p : Int × Int) (a : Option Addr) (n c : Nat) (l : List (Int × Int)) (w : World) (h : Row prc w w.heap.size a n l) (hn : n ≤ 1073741824) :
    Calls Tryz.prog 108 #[.slice a n c, .agg (prc p).toArray] w fun e w' => (∃ r : Int, e = .returned (.int .i64 r) ∧ (0 ≤ r ↔ p ∈ l)) ∧ Below w.heap.size w w' := by
  have HR := Lib.hid h
  have HN := Lib.hid (And.intro h.1 hn)
  have HB := Lib.hid (Blk.new w 173 (prc p))
  have HL := Lib.hid (bel_new (Below.refl w.heap.size w) (.cells (prc p).toArray 173))
  have HI := Lib.hid (show (Tryz.prog.info? 173).map (·.size) = some (prc p).length from infoPr16)
  clear h
  go_enter Tryz.func108, Tryz.ntmps108
  go_upto_region 1 with fail
  generalize (w.alloc (.cells (prc p).toArray 173)) = w1 at *
  go_wp2_with fail
  go_loopw [8] (fun t' W => ∃ i : Nat, i ≤ n ∧ t' = .int .i64 (i : Int) ∧ p ∉ l.take i ∧ Below w1.heap.size w1 W) (fun t' W => n - (intOf t').toNat)
  case atStart => exact ⟨0, Nat.zero_le _, rfl, by simp, Below.refl _ _⟩
  case round =>
    obtain ⟨i, hi, rfl, hF, hbl⟩ := hrel
    have HF := Lib.hid hF
    have HBL := Lib.hid hbl
    clear hF hbl
    by_cases hin : i < n
    · have i1 : (i : Int) < (n : Int) := by omega
      obtain ⟨b, o, x, rfl, hx, hbb, hc⟩ := cells15 prc_length HR.out hin
      have HX := Lib.hid hx
      have HIN := Lib.hid hin
      have hl0 : Below w.heap.size w wr := HL.out.trans (HBL.out.mono HL.out.size)
      have HCN := Lib.hid (fun W (hW : Below wr.heap.size wr W) => (show W.rangeAt b (o + i * 2) (prc x) from hc W (hl0.trans (hW.mono hl0.size))))
      have HI2 := Lib.hid (show (Tryz.prog.info? 173).map (·.size) = some (prc x).length from infoPr16)
      have HB2 := Lib.hid (fun W (hW : Below wr.heap.size wr W) => HB.out.below (HBL.out.trans (hW.mono HBL.out.size)))
      obtain ⟨de, hde⟩ : ∃ de, decide (p = x) = de := ⟨_, rfl⟩
      have HDE := Lib.hid hde
      have HEQ := Lib.hid (fun W => (show (binOp .eql 173 (.agg (prc p).toArray) (.agg (prc x).toArray)).run Tryz.prog W = .ok (.bool de) W from by rw [← HDE.out]; exact eq_pr16 p x W))
      clear hx hbb hc hl0 hde hin hi
      go_wp2_with fail
      refine region_seq (fun W => Below wr.heap.size wr W) [(0, true), (1, true), (2, true), (3, true), (4, true), (5, true)] (by kernel_rfl) (by kernel_rfl) (by kernel_rfl) (by kernel_rfl) (fun _ _ _ _ _ h => h) (Below.refl _ _).drew ?_
      repeat first
        | refine seq_eqA (xs := prc p) (ys := prc x) (c := de) rfl (by rfl) rfl rfl rfl (by kernel_rfl) HEQ.out ?_
          simp only [Act.put, List.setIfInBounds_toArray, List.set_cons_zero, List.set_cons_succ]
        | refine seq_load8 (x := .tmp 3) rfl (by rfl) rfl rfl HB2.out Tryz.underlying173 rfl HI.out ?_
          simp only [Act.put, List.setIfInBounds_toArray, List.set_cons_zero, List.set_cons_succ]
        | refine seq_load_at15 (x := .tmp 14) rfl (by rfl) rfl rfl HCN.out Tryz.underlying173 rfl HI2.out ?_
          simp only [Act.put, List.setIfInBounds_toArray, List.set_cons_zero, List.set_cons_succ]
        | refine seq_pure (v := ?_) rfl (by rfl) (fun W hW => ?_) ?_
          rotate_left
          · clear hW
            go_simp
            with_reducible rfl
          simp only [Act.put, List.setIfInBounds_toArray, List.set_cons_zero, List.set_cons_succ]
      refine seq_done ?_
      cases de with
      | true =>
        have hpx := of_decide_eq_true HDE.out
        have HPX := Lib.hid hpx
        clear hpx
        go_wp2_with fail
        go_ret
        refine ⟨⟨_, rfl, ?_⟩, HL.out.trans (HBL.out.drew.mono HL.out.size)⟩
        constructor
        · intro _; rw [HPX.out]; exact List.mem_of_getElem? HX.out
        · intro _; omega
      | false =>
        have hpx : p ∉ l.take (i + 1) := by
          rw [take_snoc15 HX.out]
          intro hm
          rcases List.mem_append.1 hm with hm | hm
          · exact HF.out hm
          · simp at hm; exact of_decide_eq_false HDE.out hm
        have HPX := Lib.hid hpx
        clear hpx
        go_wp2_with fail
        go_roundw
        case rel => exact ⟨i + 1, HIN.out, by first | rfl | (simp; omega), HPX.out, HBL.out.drew⟩
        case measure => have := HIN.out; simp [intOf]; omega
    · obtain rfl : i = n := by omega
      have i1 : ¬ (i : Int) < (i : Int) := by omega
      clear hin hi
      go_wp2_with fail
      go_ret
      refine ⟨⟨_, rfl, ?_⟩, HL.out.trans (HBL.out.mono HL.out.size)⟩
      constructor
      · intro h; omega
      · intro hm; exact absurd (by rw [List.take_of_length_le (by rw [HN.out.1]; exact Nat.le_refl _)]; exact hm) HF.out
theorem contains16_calls (p : Int × Int) (a : Option Addr) (n c : Nat) (l : List (Int × Int)) (w : World) (h : Row prc w w.heap.size a n l) (hn : n ≤ 1073741824) :
    Calls Tryz.prog 93 #[.slice a n c, .agg (prc p).toArray] w (Yes15 (decide (p ∈ l)) w) := by
  have HB := Lib.hid (Blk.new w 173 (prc p))
  have HL := Lib.hid (bel_new (Below.refl w.heap.size w) (.cells (prc p).toArray 173))
  have HI := Lib.hid (show (Tryz.prog.info? 173).map (·.size) = some (prc p).length from infoPr16)
  have HX := Lib.hid (index16_calls p a n c l _ ((h.below HL.out).more HL.out.size) hn)
  clear h
  unfold Yes15
  go_enter Tryz.func93, Tryz.ntmps93
  go_upto_region 1 with fail
  generalize (w.alloc (.cells (prc p).toArray 173)) = w1 at *
  go_wp2_with (refine step_load (o := ⟨some 6, _, _, _, _, _⟩) rfl rfl rfl HB.out Tryz.underlying173 rfl HI.out ?_)
  ((with_reducible refine HX.out.mono ?_))
  rintro e w2 ⟨⟨r, rfl, hr⟩, hb⟩
  have L2 := Lib.hid (HL.out.trans (hb.mono HL.out.size))
  have HRR := Lib.hid hr
  clear hr hb HX
  go_wp2_with fail
  go_ret
  refine ⟨?_, L2.out⟩
  have : decide (0 ≤ r) = decide (p ∈ l) := by simp [HRR.out]
  rw [← this]
  rfl

set_option maxHeartbeats 1600000 in
theorem owned16_calls (a : Option Addr) (n c : Nat) (l : List Ow) (k : Lk) (w : World) (h : Row owc w w.heap.size a n l) (hn : n ≤ 1073741824) :
    Calls Tryz.prog 94 #[.slice a n c, .agg (lkc k).toArray] w (Num16 (own16 l k.f k.t) w) := by
  obtain ⟨f, t, cp, m, g⟩ := k
  unfold Num16
  have HR := Lib.hid h
  have HN := Lib.hid (And.intro h.1 hn)
  have HB := Lib.hid (Blk.new w 44 (lkc ⟨f, t, cp, m, g⟩))
  have HL := Lib.hid (bel_new (Below.refl w.heap.size w) (.cells (lkc ⟨f, t, cp, m, g⟩).toArray 44))
  clear h
  go_enter Tryz.func94, Tryz.ntmps94
  go_upto_region 1 with fail
  generalize (w.alloc (.cells (lkc ⟨f, t, cp, m, g⟩).toArray 44)) = w1 at *
  go_wp2_with fail
  go_loopw [5, 10] (fun s u W => ∃ i : Nat, i ≤ n ∧ s = .int .u64 ((own16 (l.take i) f t : Nat) : Int) ∧ u = .int .i64 (i : Int) ∧ Below w1.heap.size w1 W) (fun s u W => n - (intOf u).toNat)
  case atStart => exact ⟨0, Nat.zero_le _, rfl, rfl, Below.refl _ _⟩
  case round =>
    obtain ⟨i, hi, rfl, rfl, hbl⟩ := hrel
    obtain ⟨N, hN⟩ : ∃ N, own16 (l.take i) f t = N := ⟨_, rfl⟩
    rw [hN]
    have HNN := Lib.hid hN
    have HBL := Lib.hid hbl
    clear hN hbl
    by_cases hin : i < n
    · have i1 : (i : Int) < (n : Int) := by omega
      obtain ⟨b, o, x, rfl, hx, hbb, hc⟩ := cells15 owc_length HR.out hin
      obtain ⟨xf, xt, xb⟩ := x
      have HIN := Lib.hid hin
      have hl0 : Below w.heap.size w wr := HL.out.trans (HBL.out.mono HL.out.size)
      have z0 : wr.cell? ⟨b, o + i * 3, none⟩ = some (.int .i64 xf) := hc wr hl0 0 _ rfl
      have z1 : wr.cell? ⟨b, o + i * 3 + 1, none⟩ = some (.int .i64 xt) := hc wr hl0 1 _ rfl
      have z2 : wr.cell? ⟨b, o + i * 3 + 2, none⟩ = some (.int .u64 (xb : Int)) := hc wr hl0 2 _ rfl
      have hsn := own16_snoc hx f t
      rw [HNN.out] at hsn
      have HSN := Lib.hid hsn
      clear hx hbb hc hl0 hin hi hsn
      go_upto_region 5 with fail
      clear z0 z1 z2
      have H5 := Lib.hid (Blk.new wr 191 [.int .i64 xf, .int .i64 xt, .int .u64 (xb : Int)])
      have L5 := Lib.hid (bel_new HBL.out (.cells #[.int .i64 xf, .int .i64 xt, .int .u64 (xb : Int)] 191))
      generalize wr.alloc _ = w5 at *
      have y0 : w5.cell? ⟨wr.heap.size, 0, none⟩ = some (.int .i64 xf) := H5.out.cell 0
      have y1 : w5.cell? ⟨wr.heap.size, 1, none⟩ = some (.int .i64 xt) := H5.out.cell 1
      have y2 : w5.cell? ⟨wr.heap.size, 2, none⟩ = some (.int .u64 (xb : Int)) := H5.out.cell 2
      have k0 : w5.cell? ⟨w.heap.size, 0, none⟩ = some (.int .i64 f) := (HB.out.below L5.out).cell 0
      have k1 : w5.cell? ⟨w.heap.size, 1, none⟩ = some (.int .i64 t) := (HB.out.below L5.out).cell 1
      by_cases e0 : xf = f
      · by_cases e1 : xt = t
        · have hv : own16 (l.take (i + 1)) f t = max N xb := by rw [HSN.out]; unfold upd16; rw [if_pos ⟨e0, e1⟩]
          have HV := Lib.hid hv
          have q0 : (xf == f) = true := by simp [e0]
          have q1 : (xt == t) = true := by simp [e1]
          clear e0 e1 hv HSN
          by_cases hm : N < xb
          · have hm1 : (N : Int) < (xb : Int) := by omega
            have HM := Lib.hid hm
            clear hm
            go_wp2_with fail
            go_roundw
            case rel => exact ⟨i + 1, HIN.out, by rw [HV.out]; have := HM.out; first | rfl | (congr 1; omega), by first | rfl | (simp; omega), L5.out⟩
            case measure => have := HIN.out; simp [intOf]; omega
          · have hm1 : ¬ (N : Int) < (xb : Int) := by omega
            have HM := Lib.hid hm
            clear hm
            go_wp2_with fail
            go_roundw
            case rel => exact ⟨i + 1, HIN.out, by rw [HV.out]; have := HM.out; first | rfl | (congr 1; omega), by first | rfl | (simp; omega), L5.out⟩
            case measure => have := HIN.out; simp [intOf]; omega
        · have hv : own16 (l.take (i + 1)) f t = N := by rw [HSN.out]; unfold upd16; rw [if_neg (fun h => e1 h.2)]
          have HV := Lib.hid hv
          have q0 : (xf == f) = true := by simp [e0]
          have q1 : (xt == t) = false := by simp [e1]
          clear e0 e1 hv HSN
          go_wp2_with fail
          go_roundw
          case rel => exact ⟨i + 1, HIN.out, by rw [HV.out], by first | rfl | (simp; omega), L5.out⟩
          case measure => have := HIN.out; simp [intOf]; omega
      · have hv : own16 (l.take (i + 1)) f t = N := by rw [HSN.out]; unfold upd16; rw [if_neg (fun h => e0 h.1)]
        have HV := Lib.hid hv
        have q0 : (xf == f) = false := by simp [e0]
        clear e0 hv HSN
        go_wp2_with fail
        go_roundw
        case rel => exact ⟨i + 1, HIN.out, by rw [HV.out], by first | rfl | (simp; omega), L5.out⟩
        case measure => have := HIN.out; simp [intOf]; omega
    · obtain rfl : i = n := by omega
      have i1 : ¬ (i : Int) < (i : Int) := by omega
      have hv : own16 l f t = N := by rw [← HNN.out, List.take_of_length_le (by rw [HN.out.1]; exact Nat.le_refl _)]
      have HV := Lib.hid hv
      clear hin hi hv
      go_wp2_with fail
      go_ret
      exact ⟨by rw [HV.out]; rfl, HL.out.trans (HBL.out.mono HL.out.size)⟩
end Go.Proofs.YtjflbfianncpfaaGreat

namespace Go.Proofs.YtjflbfianncpfaaGreat
set_option maxRecDepth 100000
set_option linter.unusedVariables false
open Go.RowKit

set_option maxHeartbeats 1600000 in
theorem exc16c_calls (a : Ak) (p : Pl) (k : Lk) (w : World) (h : AkIn w w.heap.size a p) :
    Calls Tryz.prog 74 #[.agg (lkc k).toArray, .agg (akc a.w p).toArray] w (Yes15 (exc16 a k) w) := by
  obtain ⟨f, t, cp, m, g⟩ := k
  obtain ⟨b0, b1, bl⟩ := alloc2 w (lkc ⟨f, t, cp, m, g⟩) (akc a.w p) 44 60
  unfold Yes15 exc16
  obtain ⟨d1, hd1⟩ : ∃ d, decide (f ∈ a.nn) = d := ⟨_, rfl⟩
  obtain ⟨d2, hd2⟩ : ∃ d, decide (t ∈ a.nn) = d := ⟨_, rfl⟩
  obtain ⟨d3, hd3⟩ : ∃ d, decide ((f, t) ∈ a.nl) = d := ⟨_, rfl⟩
  simp only [hd1, hd2, hd3]
  have D := Lib.hid (And.intro hd1 (And.intro hd2 hd3))
  clear hd1 hd2 hd3
  have HB := Lib.hid b0
  have HQ := Lib.hid b1
  have HL := Lib.hid bl
  have hin := h.below bl
  clear b0 b1 bl h
  obtain ⟨A1, n1, c1, A2, n2, c2, A3, n3, c3, ho⟩ := p
  go_enter Tryz.func74, Tryz.ntmps74
  go_upto_region 1 with fail
  generalize ((w.alloc (.cells (lkc ⟨f, t, cp, m, g⟩).toArray 44)).alloc _) = w1 at *
  have HIN := Lib.hid hin
  clear hin
  have H1 := Lib.hid (fun (x : Int) => contains_calls x A1 n1 c1 w1.heap.size a.nn w1 HIN.out.nn (by have := HIN.out.b1; simp only at this; omega))
  have H2 := Lib.hid (contains16_calls (f, t) A2 n2 c2 a.nl w1 HIN.out.nl HIN.out.b2)
  unfold Yes15 at H2
  have x0 : w1.cell? ⟨w.heap.size, 0, none⟩ = some (.int .i64 f) := HB.out.cell 0
  have x1 : w1.cell? ⟨w.heap.size, 1, none⟩ = some (.int .i64 t) := HB.out.cell 1
  have x6 : w1.cell? ⟨w.heap.size + 1, 6, none⟩ = some (.slice A1 n1 c1) := HQ.out.cell 6
  have x7 : w1.cell? ⟨w.heap.size + 1, 7, none⟩ = some (.slice A2 n2 c2) := HQ.out.cell 7
  have K1 := H1.out f
  have K2 := H1.out t
  rw [D.out.1] at K1
  rw [D.out.2.1] at K2
  rw [D.out.2.2] at H2
  have J1 := Lib.hid K1
  have J2 := Lib.hid K2
  clear K1 K2 H1
  cases d1 with
  | true =>
    go_wp2_with fail
    ((with_reducible refine J1.out.mono ?_))
    rintro e w2 ⟨rfl, rfl⟩
    go_wp2_with fail
    go_ret
    exact ⟨rfl, HL.out⟩
  | false =>
    cases d2 with
    | true =>
      go_wp2_with fail
      ((with_reducible refine J1.out.mono ?_))
      rintro e w2 ⟨rfl, rfl⟩
      go_wp2_with fail
      ((with_reducible refine J2.out.mono ?_))
      rintro e w3 ⟨rfl, rfl⟩
      go_wp2_with fail
      go_ret
      exact ⟨rfl, HL.out⟩
    | false =>
      go_wp2_with fail
      ((with_reducible refine J1.out.mono ?_))
      rintro e w2 ⟨rfl, rfl⟩
      go_wp2_with fail
      ((with_reducible refine J2.out.mono ?_))
      rintro e w3 ⟨rfl, rfl⟩
      go_wp2_with fail
      ((refine H2.out.mono ?_))
      rintro e w4 ⟨rfl, hb⟩
      have L4 := Lib.hid (HL.out.trans (hb.mono HL.out.size))
      clear hb
      go_wp2_with fail
      go_ret
      exact ⟨rfl, L4.out⟩

theorem free16 {x : Ad} (hx : AdOk x) (i : Nat) : x.f.getD i 0 < 18446744073709551616 := by
  rw [List.getD_eq_getElem?_getD]
  cases e : x.f[i]? with
  | none => simp
  | some y => exact hx.num y (List.mem_of_getElem? e)
set_option maxHeartbeats 3200000 in
theorem room16c_calls (a : Ak) (ha : AkOk a) (p : Pl) (x : Ad) (hx : AdOk x) (hr : wRight a.w = true) (w : World) (h : AkIn w w.heap.size a p) :
    Calls Tryz.prog 75 #[.agg (adc x).toArray, .agg (akc a.w p).toArray] w (Yes15 (room16 a x) w) := by
  obtain ⟨b0, b1, bl⟩ := alloc2 w (adc x) (akc a.w p) 53 60
  have hs0 : 0 ≤ a.w.su ∧ a.w.su ≤ 7 := by unfold wRight at hr; have := of_decide_eq_true hr; omega
  obtain ⟨P, hP⟩ := Int.eq_ofNat_of_zero_le hs0.1
  have hP8 : P < 8 := by omega
  have hh : had16 a x = x.f.getD P 0 + own16 a.ow x.k.f x.k.t := by unfold had16; rw [hP]; rfl
  have hf := free16 hx P
  have ho := ha.own x.k.f x.k.t
  unfold Yes15 room16
  rw [hh]
  have HF := Lib.hid (show (adc x)[7 + P]? = some (.int .u64 ((x.f.getD P 0 : Nat) : Int)) from adc_free x hP8)
  have HK := Lib.hid (fun W => add13_calls (x.f.getD P 0) (own16 a.ow x.k.f x.k.t) hf ho W)
  have hin := h.below bl
  have HAW := Lib.hid (fun (W : World) => owned16_calls p.a3 p.n3 p.c3 a.ow x.k W)
  unfold Num16 at HAW
  obtain ⟨fr, hfr⟩ : ∃ fr, x.f.getD P 0 = fr := ⟨_, rfl⟩
  obtain ⟨ow, how⟩ : ∃ ow, own16 a.ow x.k.f x.k.t = ow := ⟨_, rfl⟩
  rw [hfr] at HF HK ⊢
  rw [how] at HK HAW ⊢
  obtain ⟨R, hR⟩ : ∃ R, (!decide (fr + ow < 18446744073709551616) || decide (a.w.bw ≤ fr + ow)) = R := ⟨_, rfl⟩
  rw [hR]
  have HRR := Lib.hid hR
  have HB := Lib.hid b0
  have HQ := Lib.hid b1
  have HL := Lib.hid bl
  have hqs : ∀ W, Blk W (w.heap.size + 1) 60 (akc a.w p) → W.cell? ⟨w.heap.size + 1, 1, none⟩ = some (.int .i64 (P : Int)) := fun W h => by rw [← hP]; exact h.cell 1
  have HQS := Lib.hid hqs
  have i0 : (P : Int) < 8 := by omega
  have i1 : (0 : Int) ≤ (P : Int) := by omega
  have HI := Lib.hid (show (Tryz.prog.info? 44).map (·.size) = some (lkc x.k).length from infoLk15)
  have hnn := hin.ow
  have hb3 := hin.b3
  have HW := Lib.hid hnn
  have HB3 := Lib.hid hb3
  clear b0 b1 bl h hs0 hP hh hf ho hfr how hqs hin ha hx hr hnn hb3 hR
  obtain ⟨A1, n1, c1, A2, n2, c2, A3, n3, c3, hop⟩ := p
  simp only at HAW HW HB3
  go_enter Tryz.func75, Tryz.ntmps75
  go_upto_region 1 with fail
  generalize ((w.alloc (.cells (adc x).toArray 53)).alloc _) = w1 at *
  have HLK := Lib.hid (fun W (hW : Below w1.heap.size w1 W) => adc_range (HB.out.below hW))
  have S0 : Below w1.heap.size w1 w1.drew := (Below.refl _ _).drew
  go_wp2_with fail
  refine region_seq (fun W => Below w1.heap.size w1 W) [(0, true), (1, true), (2, true), (3, true), (4, true), (5, true), (6, true), (7, true), (8, true), (9, true), (10, false), (11, false), (12, true), (13, true), (14, true), (15, true), (16, true)] (by kernel_rfl) (by kernel_rfl) (by kernel_rfl) (by kernel_rfl) (fun _ _ _ _ _ h => h) S0 ?_
  repeat first
    | refine seq_load_at15 (x := .tmp 16) rfl (by rfl) rfl rfl HLK.out Tryz.underlying44 rfl HI.out ?_
      simp only [Act.put, List.setIfInBounds_toArray, List.set_cons_zero, List.set_cons_succ]
    | refine seq_pure (v := ?_) rfl (by rfl) (fun W hW => ?_) ?_
      rotate_left
      · have t1 : W.cell? ⟨w.heap.size + 1, 1, none⟩ = some (.int .i64 (P : Int)) := HQS.out W (HQ.out.below hW)
        have t2 : W.cell? ⟨w.heap.size, 7 + P, none⟩ = some (.int .u64 (fr : Int)) := ((HB.out.below hW).cell _).trans HF.out
        have t3 : W.cell? ⟨w.heap.size + 1, 8, none⟩ = some (.slice A3 n3 c3) := (HQ.out.below hW).cell 8
        clear hW
        go_simp
        with_reducible rfl
      simp only [Act.put, List.setIfInBounds_toArray, List.set_cons_zero, List.set_cons_succ]
  refine seq_make rfl (by rfl) (fun K hK => ?_)
  go_simp
  ((with_reducible refine (HAW.out w1.drew (HW.out.drewS) HB3.out).mono ?_))
  rintro e w2 ⟨rfl, hb⟩
  have SB := Lib.hid (show Below w1.heap.size w1 w2 from below_of_drew hb)
  clear hb
  go_simp
  refine hK _ w2 (fun W => Below w1.heap.size w1 W) (fun W h => h) SB.out ?_
  clear hK K
  refine seq_make rfl (by rfl) (fun K hK => ?_)
  go_simp
  ((with_reducible refine (HK.out w2).mono ?_))
  rintro e w3 ⟨rfl, rfl⟩
  go_simp
  refine hK _ w3 (fun W => Below w1.heap.size w1 W) (fun W h => h) SB.out ?_
  clear hK K
  repeat
    refine seq_pure (v := ?_) rfl (by rfl) (fun W hW => ?_) ?_
    rotate_left
    · clear hW
      go_simp
      with_reducible rfl
    simp only [Act.put, List.setIfInBounds_toArray, List.set_cons_zero, List.set_cons_succ]
  refine seq_done ?_
  have L3 := Lib.hid (HL.out.trans (SB.out.mono HL.out.size))
  have x0 : w3.cell? ⟨w.heap.size + 1, 0, none⟩ = some (.int .u64 (a.w.bw : Int)) := (HQ.out.below SB.out).cell 0
  by_cases hlt : fr + ow < 18446744073709551616
  · rw [decide_eq_true hlt, show aS (fr + ow) = fr + ow from if_pos hlt]
    have HLT := Lib.hid hlt
    clear hlt
    by_cases hbw : a.w.bw ≤ fr + ow
    · have hv : R = true := by rw [← HRR.out, decide_eq_true hbw, Bool.or_true]
      have HV := Lib.hid hv
      generalize fr + ow = s at *
      generalize a.w.bw = bw at *
      have q1 : (bw : Int) ≤ (s : Int) := by omega
      clear HK HAW hbw hv HRR
      go_wp2_with fail
      go_ret
      exact ⟨by rw [HV.out]; rfl, L3.out⟩
    · have hv : R = false := by rw [← HRR.out, decide_eq_true HLT.out, decide_eq_false hbw]; rfl
      have HV := Lib.hid hv
      generalize fr + ow = s at *
      generalize a.w.bw = bw at *
      have q1 : ¬ (bw : Int) ≤ (s : Int) := by omega
      clear HK HAW hbw hv HRR
      go_wp2_with fail
      go_ret
      exact ⟨by rw [HV.out]; rfl, L3.out⟩
  · have hv : R = true := by rw [← HRR.out, decide_eq_false hlt]; rfl
    have HV := Lib.hid hv
    rw [decide_eq_false hlt]
    clear HK HAW hlt hv HRR
    go_wp2_with fail
    go_ret
    exact ⟨by rw [HV.out]; rfl, L3.out⟩

theorem infoAdC16 : (Tryz.prog.info? 53).map (·.size) = some 15 := by kernel_rfl
set_option maxHeartbeats 3200000 in
theorem fits16c_calls (a : Ak) (ha : AkOk a) (p : Pl) (x : Ad) (hx : AdOk x) (w : World) (h : AkIn w w.heap.size a p) :
    Calls Tryz.prog 45 #[.agg (adc x).toArray, .agg (akc a.w p).toArray] w (Yes15 (fit16 a x) w) := by
  obtain ⟨b0, b1, bl⟩ := alloc2 w (adc x) (akc a.w p) 53 60
  have hg := hx.g0
  have hg1 := hx.g1
  obtain ⟨G, hG⟩ := Int.eq_ofNat_of_zero_le hg
  have HIN := Lib.hid (h.below bl)
  have HB := Lib.hid b0
  have HQ := Lib.hid b1
  have HL := Lib.hid bl
  have HWN := Lib.hid (show (Tryz.prog.info? 29).map (·.size) = some (wnc a.w).length from infoWn16)
  have HIL := Lib.hid (show (Tryz.prog.info? 44).map (·.size) = some (lkc x.k).length from infoLk15)
  have HIA := Lib.hid (show (Tryz.prog.info? 60).map (·.size) = some (akc a.w p).length from infoAkP)
  have HIX := Lib.hid (show (Tryz.prog.info? 53).map (·.size) = some (adc x).length from infoAdC16)
  unfold fit16
  rw [show x.k.g.toNat = G from by rw [hG]; rfl]
  unfold Yes15
  obtain ⟨d1, hd1⟩ : ∃ d, wRight a.w = d := ⟨_, rfl⟩
  obtain ⟨d2, hd2⟩ : ∃ d, x.up = d := ⟨_, rfl⟩
  obtain ⟨d3, hd3⟩ : ∃ d, wAllows a.w G = d := ⟨_, rfl⟩
  obtain ⟨d4, hd4⟩ : ∃ d, exc16 a x.k = d := ⟨_, rfl⟩
  obtain ⟨d5, hd5⟩ : ∃ d, room16 a x = d := ⟨_, rfl⟩
  rw [hd1, hd2, hd3, hd4, hd5]
  have D := Lib.hid (And.intro hd1 (And.intro hd2 (And.intro hd3 (And.intro hd4 hd5))))
  clear hd1 hd2 hd3 hd4 hd5
  clear b0 b1 bl h
  go_enter Tryz.func45, Tryz.ntmps45
  go_upto_region 1 with fail
  generalize ((w.alloc (.cells (adc x).toArray 53)).alloc _) = w1 at *
  have HR := Lib.hid (fun W => (show Calls Tryz.prog 19 #[.agg (wnc a.w).toArray] W (Yes12 (wRight a.w) W) from right12_calls a.w W))
  have HA := Lib.hid (fun W => (show Calls Tryz.prog 73 #[.agg (wnc a.w).toArray, .int .u32 (G : Int)] W (Yes12 (wAllows a.w G) W) from allows12_calls a.w ha.wn G (by omega) W))
  have HE := Lib.hid (fun W (hW : Below w1.heap.size w1 W) => exc16c_calls a p x.k W (HIN.out.below hW))
  have HO := Lib.hid (fun W (hW : Below w1.heap.size w1 W) (hr : wRight a.w = true) => room16c_calls a ha p x hx hr W (HIN.out.below hW))
  unfold Yes12 at HR HA
  unfold Yes15 at HE HO
  have r0 := Lib.hid (akc_range HQ.out)
  rw [D.out.1] at HR HO
  rw [D.out.2.2.1] at HA
  rw [D.out.2.2.2.1] at HE
  rw [D.out.2.2.2.2] at HO
  have hd2 := D.out.2.1
  have c6 : ∀ W, Blk W w.heap.size 53 (adc x) → W.cell? ⟨w.heap.size, 6, none⟩ = some (.bool d2) := fun W h => by rw [← hd2]; exact h.cell 6
  have c4 : ∀ W, Blk W w.heap.size 53 (adc x) → W.cell? ⟨w.heap.size, 4, none⟩ = some (.int .u32 (G : Int)) := fun W h => by
    have := h.cell 4
    rw [show (adc x)[4]? = some (.int .u32 x.k.g) from rfl, hG] at this
    exact this
  have C6 := Lib.hid c6
  have C4 := Lib.hid c4
  clear hd2 c6 c4 hg hg1 hG ha hx
  go_wp2_with (refine step_load_at (o := ⟨some 6, _, _, _, _, _⟩) rfl rfl rfl r0.out Tryz.underlying29 rfl HWN.out ?_)
  ((with_reducible refine (HR.out w1).mono ?_))
  rintro e w2 ⟨rfl, hb⟩
  have S2 := Lib.hid hb
  clear hb
  cases d1 with
  | false =>
    go_wp2_with fail
    go_ret
    exact ⟨rfl, HL.out.trans (S2.out.mono HL.out.size)⟩
  | true =>
    have x6 := C6.out _ (HB.out.below S2.out)
    cases d2 with
    | false =>
      go_wp2_with fail
      go_ret
      exact ⟨rfl, HL.out.trans (S2.out.mono HL.out.size)⟩
    | true =>
      have r2 := Lib.hid (akc_range (HQ.out.below S2.out))
      have x4 := C4.out _ (HB.out.below S2.out)
      go_wp2_with (refine step_load_at_want (o := ⟨some 14, _, _, _, _, _⟩) (by rfl) rfl rfl r2.out Tryz.underlying29 rfl HWN.out ?_)
      ((with_reducible refine (HA.out w2).mono ?_))
      rintro e w3 ⟨rfl, hb⟩
      have S3 := Lib.hid (show Below w1.heap.size w1 w3 from S2.out.trans (hb.mono S2.out.size))
      clear hb S2 r2 x4 x6 r0
      cases d3 with
      | false =>
        go_wp2_with fail
        go_ret
        exact ⟨rfl, HL.out.trans (S3.out.mono HL.out.size)⟩
      | true =>
        have r3 := Lib.hid (adc_range (HB.out.below S3.out))
        have q3 := Lib.hid (HQ.out.below S3.out)
        go_wp2_with (first | refine step_load_at_want (o := ⟨some 22, _, _, _, _, _⟩) (by rfl) rfl rfl r3.out Tryz.underlying44 rfl HIL.out ?_ | refine step_load_want (o := ⟨some 23, _, _, _, _, _⟩) (by rfl) rfl rfl q3.out Tryz.underlying60 rfl HIA.out ?_)
        ((with_reducible refine (HE.out w3 S3.out).mono ?_))
        rintro e w4 ⟨rfl, hb⟩
        have S4 := Lib.hid (show Below w1.heap.size w1 w4 from S3.out.trans (hb.mono S3.out.size))
        clear hb S3 r3 q3
        cases d4 with
        | true =>
          go_wp2_with fail
          go_ret
          exact ⟨rfl, HL.out.trans (S4.out.mono HL.out.size)⟩
        | false =>
          have r4 := Lib.hid (HB.out.below S4.out)
          have q4 := Lib.hid (HQ.out.below S4.out)
          go_wp2_with (first | refine step_load_want (o := ⟨some 28, _, _, _, _, _⟩) (by rfl) rfl rfl r4.out Tryz.underlying53 rfl HIX.out ?_ | refine step_load_want (o := ⟨some 29, _, _, _, _, _⟩) (by rfl) rfl rfl q4.out Tryz.underlying60 rfl HIA.out ?_)
          ((with_reducible refine (HO.out w4 S4.out (by trivial)).mono ?_))
          rintro e w5 ⟨rfl, hb⟩
          have S5 := Lib.hid (show Below w1.heap.size w1 w5 from S4.out.trans (hb.mono S4.out.size))
          clear hb S4 r4 q4
          go_wp2_with fail
          go_ret
          exact ⟨by cases d5 <;> rfl, HL.out.trans (S5.out.mono HL.out.size)⟩
end Go.Proofs.YtjflbfianncpfaaGreat

namespace Go.Proofs.YtjflbfianncpfaaGreat
set_option maxRecDepth 100000
set_option linter.unusedVariables false
open Go.RowKit

/-- Fifteen noughts. -/
def zr16 : List Value := #[.int .i64 0, .int .i64 0, .int .u64 0, .int .i64 0, .int .u32 0, .int .i64 0, .bool false, .int .u64 0, .int .u64 0, .int .u64 0, .int .u64 0, .int .u64 0, .int .u64 0, .int .u64 0, .int .u64 0].toList
theorem infoLkA16 : (Tryz.prog.info? 44).map (fun i => (i.zero, i.size, i.bytes)) = some (some (.agg #[.int .i64 0, .int .i64 0, .int .u64 0, .int .i64 0, .int .u32 0]), 5, 40) := by kernel_rfl
/-- Links that a call gathered. -/
def AccL16 (w : World) (base : Nat) (A : Option Addr) (c : Nat) (l : List Lk) : Prop := AccR lkc 5 w base 44 A c l
theorem accl16_push {w : World} {base c : Nat} {A : Option Addr} {l : List Lk} (h : AccL16 w base A c l) (f t cp m g : Int) (hb : base ≤ w.heap.size) (hl : l.length ≤ 1099511627776) :
    ∃ A' c' w', (Builtin.append_ #[22, 22] 22 #[.slice A l.length c, .slice (some ⟨w.heap.size, 0, none⟩) 1 1]).run Tryz.prog (w.alloc (.cells #[.int .i64 f, .int .i64 t, .int .u64 cp, .int .i64 m, .int .u32 g] 44)) = .ok (.slice A' (l.length + 1) c') w' ∧
      AccL16 w' base A' c' (l ++ [⟨f, t, cp, m, g⟩]) ∧ w.grownBy w' (blk A) :=
  accr_push lkc_length lkc_one (by omega) h ⟨f, t, cp, m, g⟩ Tryz.underlying22 infoLkA16 rfl hb (by omega) (by omega)
def Lks16 (l : List Lk) (w : World) (e : Ending) (w' : World) : Prop := ∃ A c, e = .returned (.slice A l.length c) ∧ AccL16 w' w.heap.size A c l ∧ Below w.heap.size w w'
set_option maxHeartbeats 3200000 in
theorem links16c_calls (a : Ak) (ha : AkOk a) (p : Pl) (b : Option Addr) (n c : Nat) (l : List Ad) (hx : ∀ x ∈ l, AdOk x) (w : World) (h : AkIn w w.heap.size a p) (hr : Row adc w w.heap.size b n l) (hn : n ≤ 1073741824) :
    Calls Tryz.prog 23 #[.slice b n c, .agg (akc a.w p).toArray] w (Lks16 (lks16 l a) w) := by
  have HQ := Lib.hid (Blk.new w 60 (akc a.w p))
  have hl := bel_new (Below.refl w.heap.size w) (.cells (akc a.w p).toArray 60)
  have HIA := Lib.hid (show (Tryz.prog.info? 60).map (·.size) = some (akc a.w p).length from infoAkP)
  have HL := Lib.hid hl
  have HIN := Lib.hid (h.below hl)
  have HR := Lib.hid hr
  have HN := Lib.hid (And.intro hr.1 hn)
  have HX := Lib.hid (fun (x : Ad) (h : x ∈ l) W hW => fits16c_calls a ha p x (hx x h) W hW)
  unfold Yes15 at HX
  unfold Lks16
  clear hl h hr ha hx
  go_enter Tryz.func23, Tryz.ntmps23
  go_upto_region 1 with fail
  generalize (w.alloc (.cells (akc a.w p).toArray 60)) = w1 at *
  go_wp2_with fail
  go_loopw [5, 10] (fun s u W => ∃ (i c1 : Nat) (A : Option Addr), i ≤ n ∧ s = .slice A (lks16 (l.take i) a).length c1 ∧ u = .int .i64 (i : Int) ∧ AccL16 W w1.heap.size A c1 (lks16 (l.take i) a) ∧ Below w1.heap.size w1 W) (fun s u W => n - (intOf u).toNat)
  case atStart => exact ⟨0, 0, none, Nat.zero_le _, rfl, rfl, AccR.nil _ _ _, Below.refl _ _⟩
  case round =>
    obtain ⟨i, c1, A, hi, rfl, rfl, hac, hbl⟩ := hrel
    obtain ⟨M, hM⟩ : ∃ M, lks16 (l.take i) a = M := ⟨_, rfl⟩
    rw [hM] at hac ⊢
    have HM := Lib.hid hM
    have HAC := Lib.hid hac
    have HBL := Lib.hid hbl
    have hml : M.length ≤ 1099511627776 := by
      rw [← hM]
      have h1 := lks16_length (l.take i) a
      have h2 : (l.take i).length ≤ i := by rw [List.length_take]; omega
      have := HN.out.2
      omega
    have HML := Lib.hid hml
    obtain ⟨N, hN⟩ : ∃ N, M.length = N := ⟨_, rfl⟩
    rw [hN]
    have HNM := Lib.hid hN
    clear hac hbl hM hml hN
    by_cases hin : i < n
    · have i1 : (i : Int) < (n : Int) := by omega
      obtain ⟨bb, o, x, rfl, hx, hbb, hc⟩ := range15 HR.out hin
      have HXX := Lib.hid hx
      have HII := Lib.hid hin
      have hl0 : Below w.heap.size w wr := HL.out.trans (HBL.out.mono HL.out.size)
      have HC := Lib.hid (hc wr hl0)
      have HIX := Lib.hid (show (Tryz.prog.info? 53).map (·.size) = some (adc x).length from infoAdC16)
      have hsn := lks16_snoc hx a
      rw [HM.out] at hsn
      have HSN := Lib.hid hsn
      have HF := Lib.hid (HX.out x (List.mem_of_getElem? hx))
      clear hx hbb hc hl0 hin hi hsn
      have hbz := bel_new (Below.refl wr.heap.size wr) (.cells #[.int .i64 0, .int .i64 0, .int .u64 0, .int .i64 0, .int .u32 0, .int .i64 0, .bool false, .int .u64 0, .int .u64 0, .int .u64 0, .int .u64 0, .int .u64 0, .int .u64 0, .int .u64 0, .int .u64 0] 53)
      have BZ := Lib.hid (show Blk (wr.alloc (.cells #[.int .i64 0, .int .i64 0, .int .u64 0, .int .i64 0, .int .u32 0, .int .i64 0, .bool false, .int .u64 0, .int .u64 0, .int .u64 0, .int .u64 0, .int .u64 0, .int .u64 0, .int .u64 0, .int .u64 0] 53)) wr.heap.size 53 zr16 from Blk.new wr _ zr16)
      have HBZ := Lib.hid hbz
      clear hbz
      go_upto_region 5 with (first | (refine step_load_at (o := ⟨some 13, _, _, _, _, _⟩) rfl rfl rfl HC.out Tryz.underlying53 rfl HIX.out ?_) | ((with_reducible refine step_store (o := ⟨none, _, _, _, _, _⟩) (vs := adc x) (ty := 53) (x := .tmp 7) (y := .tmp 13) ?_ ?_ ?_ ?_ BZ.out HIX.out rfl (adc_one _) ?_); (rfl); (rfl); (rfl); (rfl); intro v1 hb5 hg5 hs5))
      have KX := Lib.hid hb5
      have hb : Below wr.heap.size wr v1 := bel_upd HBZ.out hg5 (Nat.le_refl _) (Nat.le_refl _)
      clear hb5 hg5 hs5 BZ HBZ
      have L1 := Lib.hid (show Below w1.heap.size w1 v1 from HBL.out.trans (hb.mono HBL.out.size))
      have A1 := Lib.hid (show AccL16 v1 w1.heap.size A c1 M from AccR.bel HAC.out hb)
      have Q1 := Lib.hid (HQ.out.below L1.out)
      clear hb HC HAC HBL
      generalize wr.heap.size = qx at *
      obtain ⟨d, hd⟩ : ∃ d, fit16 a x = d := ⟨_, rfl⟩
      have hf1 := HF.out v1 (HIN.out.below L1.out)
      rw [hd] at HSN hf1
      have HF1 := Lib.hid hf1
      clear HF hd hf1
      go_wp2_with (first | refine step_load (o := ⟨some 14, _, _, _, _, _⟩) rfl rfl rfl KX.out Tryz.underlying53 rfl HIX.out ?_ | refine step_load (o := ⟨some 15, _, _, _, _, _⟩) rfl rfl rfl Q1.out Tryz.underlying60 rfl HIA.out ?_)
      ((with_reducible refine HF1.out.mono ?_))
      rintro e v2 ⟨rfl, hb⟩
      have K2 := Lib.hid (KX.out.below hb)
      have L2 := Lib.hid (show Below w1.heap.size w1 v2 from L1.out.trans (hb.mono L1.out.size))
      have A2 := Lib.hid (show AccL16 v2 w1.heap.size A c1 M from AccR.bel A1.out hb)
      clear hb KX L1 A1 Q1 HF1
      cases d with
      | false =>
        have hsn := HSN.out
        rw [if_neg (by decide), List.append_nil] at hsn
        have HS2 := Lib.hid hsn
        clear HSN hsn
        go_wp2_with fail
        go_roundw
        case rel => exact ⟨i + 1, c1, A, HII.out, by rw [HS2.out, HNM.out], by first | rfl | (simp; omega), by rw [HS2.out]; exact A2.out, L2.out⟩
        case measure => have := HII.out; simp [intOf]; omega
      | true =>
        have hsn := HSN.out
        rw [if_pos rfl] at hsn
        obtain ⟨⟨f, t, cp, m, g⟩, q, up, fr⟩ := x
        have HS2 := Lib.hid hsn
        have x0 : v2.cell? ⟨qx, 0, none⟩ = some (.int .i64 f) := K2.out.cell 0
        have x1 : v2.cell? ⟨qx, 1, none⟩ = some (.int .i64 t) := K2.out.cell 1
        have x2 : v2.cell? ⟨qx, 2, none⟩ = some (.int .u64 cp) := K2.out.cell 2
        have x3 : v2.cell? ⟨qx, 3, none⟩ = some (.int .i64 m) := K2.out.cell 3
        have x4 : v2.cell? ⟨qx, 4, none⟩ = some (.int .u32 g) := K2.out.cell 4
        obtain ⟨A3, c3, w3, r3, a3, g3⟩ := accl16_push A2.out f t cp m g L2.out.size HML.out
        have L3 := Lib.hid (show Below w1.heap.size w1 w3 from by
          exact belr_acc L2.out A2.out g3)
        rw [HNM.out] at r3
        have A3' := Lib.hid a3
        have R3 := Lib.hid r3
        clear HSN hsn r3 a3 g3
        go_wp2_with (at_builtin; refine step_append (o := ⟨some 21, _, _, _, _, _⟩) rfl rfl rfl rfl R3.out ?_)
        go_roundw
        case rel => exact ⟨i + 1, c3, A3, HII.out, by rw [HS2.out, List.length_append, HNM.out]; rfl, by first | rfl | (simp; omega), by rw [HS2.out]; exact A3'.out, L3.out⟩
        case measure => have := HII.out; simp [intOf]; omega
    · obtain rfl : i = n := by omega
      have i1 : ¬ (i : Int) < (i : Int) := by omega
      have hv : lks16 l a = M := by rw [← HM.out, List.take_of_length_le (by rw [HN.out.1]; exact Nat.le_refl _)]
      have HV := Lib.hid hv
      clear hin hi hv
      go_wp2_with fail
      go_ret
      exact ⟨A, c1, by rw [HV.out, HNM.out]; rfl, by rw [HV.out]; exact AccR.lower HAC.out HL.out.size, HL.out.trans (HBL.out.mono HL.out.size)⟩
end Go.Proofs.YtjflbfianncpfaaGreat
