/-
  The document's Route and Meets where costs may be beyond an int; links; Find where no route may be asked for (viaductref17). Condition: numbers as large as their types allow; fewer than 2^30 elements in each list.
-/
import Derived.Test.YtjflbfianncpfaaCspC
import Derived.Test.YtjflbfianncpfaaGraphDL
namespace Go.Proofs.Ytjflbfianncpfaa
set_option maxRecDepth 100000
set_option linter.unusedVariables false
open Go.RowKit

set_option maxRecDepth 100000 in
set_option maxHeartbeats 1600000 in
theorem rroute_any_calls (p q : Option Addr) (m c n d B B' : Nat) (L : List Lk) (r : List Int) (w : World) (h : Row lkc w B' p m L) (hr : Row ei w B q n r) (hm : m ≤ 1073741824) (hnd : n ≤ d) (hn63 : n ≤ 9223372036854775807) :
    Calls Try.prog 15 #[.slice p m c, .slice q n d] w (fun e w' => (∃ k, w' = w.drewN k) ∧ ((RouteOk L r ∧ ∃ v : Int, e = .returned (.tuple #[.int .i64 v, .int .i64 0])) ∨ (¬ RouteOk L r ∧ e = .returned (.tuple #[.int .i64 0, .int .i64 12])))) := by
  have HLN := Lib.hid hr.1
  by_cases h1 : 2 ≤ n ∧ n ≤ 16
  case neg =>
    have HN := Lib.hid (show ¬ RouteOk L r from fun hc => by have := HLN.out; have h2 := hc.1; have h3 := hc.2.1; omega)
    by_cases h2 : n < 2
    · have h3 : (n : Int) < 2 := by omega
      clear h hr h1
      go_enter Try.func15, Try.ntmps15
      go_wp2_with fail
      all_goals
        go_ret2
        exact ⟨⟨0, rfl⟩, .inr ⟨HN.out, rfl⟩⟩
    · have h3 : ¬ (n : Int) < 2 := by omega
      have h4 : (16 : Int) < (n : Int) := by omega
      clear h hr h1
      go_enter Try.func15, Try.ntmps15
      go_wp2_with fail
      all_goals
        go_ret2
        exact ⟨⟨0, rfl⟩, .inr ⟨HN.out, rfl⟩⟩
  have HRL := Lib.hid h
  have HRR := Lib.hid hr
  have hn16 : n ≤ 16 := h1.2
  have hn2 : 2 ≤ n := h1.1
  have h3 : ¬ (n : Int) < 2 := by omega
  have h4 : ¬ (16 : Int) < (n : Int) := by omega
  clear h hr h1
  go_enter Try.func15, Try.ntmps15
  go_wp2_with fail
  clear h3 h4
  go_loopw [6, 7] (fun s t wr => ∃ i : Nat, i ≤ n ∧ t = .int .i64 (i : Int) ∧ (∃ v : Int, s = .int .i64 v) ∧ (∀ j, 1 ≤ j → j < i → StepOk L r j) ∧ ∃ k, wr = w.drewN k) (fun s t wr => n - (intOf t).toNat)
  case atStart => exact ⟨0, by omega, rfl, ⟨_, rfl⟩, fun j h1 h2 => by omega, 0, rfl⟩
  case round =>
    obtain ⟨i, hin, rfl, ⟨cv, rfl⟩, hO, k0, rfl⟩ := hrel
    have HO := Lib.hid hO
    clear hO
    by_cases hlt : i < n
    · obtain ⟨b, o, rfl, hb, hc⟩ := row_int HRR.out (by omega)
      have hln := HLN.out
      have hci : w.cell? ⟨b, o + i, none⟩ = some (.int .i64 (r.getD i 0)) := by
        have := hc i (by omega)
        rw [this, List.getD_eq_getElem?_getD, List.getElem?_eq_getElem (show i < r.length by omega)]; rfl
      have hhas := rhas_calls (r.getD i 0) (some ⟨b, o, none⟩) i d _ (r.take i) (w.drewN k0).drew (row_front HRR.out i (by omega)) (by omega)
      obtain ⟨x, hx⟩ : ∃ x, x = r.getD i 0 := ⟨_, rfl⟩
      rw [← hx] at hci hhas
      have HX := Lib.hid hx
      have i1 : (i : Int) < (n : Int) := by omega
      have hid : i ≤ d := by omega
      have hid2 : (i : Int) ≤ (d : Int) := by omega
      have HC := Lib.hid hci
      have HCC := Lib.hid hc
      clear hc hci hx
      go_wp2_with fail
      refine region_seq (fun W => W.cell? ⟨b, o + i, none⟩ = some (.int .i64 x)) [(0, true), (1, true), (2, true), (3, true), (4, true), (5, true), (6, true), (7, false)]
        (by kernel_rfl) (by kernel_rfl) (by kernel_rfl) (by kernel_rfl) (fun _ _ _ _ _ h => h) HC.out ?_
      repeat
        refine seq_pure (v := ?_) rfl (by rfl) (fun W hW => ?_) ?_
        rotate_left
        · have t1 := hW
          clear hW
          go_simp
          try with_reducible rfl
        simp only [Act.put, List.setIfInBounds_toArray, List.set_cons_zero, List.set_cons_succ]
      refine seq_make rfl (by rfl) (fun K hK => ?_)
      go_simp
      refine hhas.mono ?_
      rintro e w6 ⟨rfl, rfl⟩
      go_simp
      refine hK _ _ (fun W => W.cell? ⟨b, o + i, none⟩ = some (.int .i64 x)) (fun W h => h) HC.out ?_
      clear hK K hhas
      refine seq_done ?_
      by_cases hxm : x ∈ r.take i
      · have hb1 : decide (x ∈ r.take i) = true := by simpa using hxm
        have hneg := Lib.hid (show ¬ RouteOk L r from fun hc => by
          have hi1 : 1 ≤ i := by
            rcases Nat.eq_zero_or_pos i with h0 | h0
            · subst h0; simp at hxm
            · exact h0
          have := (hc.2.2 i hi1 (by omega)).2
          rw [← HX.out] at this
          exact this hxm)
        rw [hb1]
        clear hb1 hxm
        go_wp2_with fail
        go_ret2
        exact ⟨⟨k0 + 1, rfl⟩, .inr ⟨hneg.out, rfl⟩⟩
      · have hb1 : decide (x ∈ r.take i) = false := by simpa using hxm
        have HXM := Lib.hid hxm
        rw [hb1]
        clear hb1 hxm
        by_cases hi0 : i = 0
        · subst hi0
          go_wp2_with fail
          go_roundw
          case rel => exact ⟨1, by omega, rfl, ⟨_, rfl⟩, fun j h1 h2 => by omega, k0 + 1, rfl⟩
          case measure => simp [intOf]; omega
        · have hi0b : ((i : Int) == 0) = false := by rw [beq_eq_false_iff_ne]; omega
          obtain ⟨k, hk⟩ : ∃ k, i = k + 1 := ⟨i - 1, by omega⟩
          have HK := Lib.hid hk
          have hck : w.cell? ⟨b, o + k, none⟩ = some (.int .i64 (r.getD k 0)) := by
            have := HCC.out k (by omega)
            rw [this, List.getD_eq_getElem?_getD, List.getElem?_eq_getElem (show k < r.length by omega)]; rfl
          have hstep : StepOk L r i ↔ 0 ≤ fndL L (r.getD k 0) (r.getD i 0) ∧ r.getD i 0 ∉ r.take i := by unfold StepOk; rw [show i - 1 = k by omega]
          have HST := Lib.hid hstep
          obtain ⟨y, hy⟩ : ∃ y, y = r.getD k 0 := ⟨_, rfl⟩
          rw [← HX.out] at HST
          rw [← hy] at hck HST
          have wq : IntKind.i64.wrap ((i : Int) - 1) = (k : Int) := by rw [IntWalk.i64_in _ (by omega)]; omega
          have i2 : (k : Int) < (n : Int) := by omega
          have i3 : k < n := by omega
          have HC2 := Lib.hid (And.intro HC.out hck)
          have hfind := rfind_calls y x p m c _ L ((w.drewN k0).drew).drew HRL.out (by omega)
          clear hck hk hstep hy
          go_wp2_with fail
          refine region_seq (fun W => W.cell? ⟨b, o + i, none⟩ = some (.int .i64 x) ∧ W.cell? ⟨b, o + k, none⟩ = some (.int .i64 y)) [(0, true), (1, true), (2, true), (3, true), (4, true), (5, true), (6, true), (7, true), (8, true), (9, true), (10, false), (11, true)]
            (by kernel_rfl) (by kernel_rfl) (by kernel_rfl) (by kernel_rfl) (fun _ _ _ _ _ h => h) HC2.out ?_
          repeat
            refine seq_pure (v := ?_) rfl (by rfl) (fun W hW => ?_) ?_
            rotate_left
            · have t1 := hW.1
              have t2 := hW.2
              clear hW
              go_simp
              try with_reducible rfl
            simp only [Act.put, List.setIfInBounds_toArray, List.set_cons_zero, List.set_cons_succ]
          refine seq_make rfl (by rfl) (fun K hK => ?_)
          go_simp
          refine hfind.mono ?_
          rintro e w7 ⟨rfl, rfl⟩
          go_simp
          refine hK _ _ (fun W => W.cell? ⟨b, o + i, none⟩ = some (.int .i64 x) ∧ W.cell? ⟨b, o + k, none⟩ = some (.int .i64 y)) (fun W h => h) HC2.out ?_
          clear hK K hfind
          repeat
            refine seq_pure (v := ?_) rfl (by rfl) (fun W hW => ?_) ?_
            rotate_left
            · clear hW
              go_simp
              try with_reducible rfl
            simp only [Act.put, List.setIfInBounds_toArray, List.set_cons_zero, List.set_cons_succ]
          refine seq_done ?_
          clear wq i2 i3
          rcases fndL_cases L y x with ⟨hf, hno⟩ | ⟨j, hj, hf, hyes⟩
          · have hneg := Lib.hid (show ¬ RouteOk L r from fun hc => by
              have h2 := (HST.out.1 (hc.2.2 i (by omega) (by omega))).1
              omega)
            rw [hf]
            clear hf hno
            go_wp2_with fail
            go_ret2
            exact ⟨⟨k0 + 1 + 1, rfl⟩, .inr ⟨hneg.out, rfl⟩⟩
          · have hjm : j < m := by have := HRL.out.1; omega
            have hmt : mtr L y x = L[j].m := by unfold mtr; rw [hf, Int.toNat_natCast, List.getD_eq_getElem?_getD, List.getElem?_eq_getElem hj]; rfl
            have hst := HST.out.2 ⟨by omega, HXM.out⟩
            obtain ⟨b7, o7, rfl, hb7, hc7⟩ := row_link HRL.out (by omega)
            have d3 := (link_cells (hc7 j hj)).2.2.2.1
            rw [← hmt] at d3
            have O6' := Lib.hid (show ∀ j2, 1 ≤ j2 → j2 < i + 1 → StepOk L r j2 from fun j2 h1 h2 => by
              rcases Nat.lt_or_ge j2 i with h3 | h3
              · exact HO.out j2 h1 h3
              · obtain rfl : j2 = i := by omega
                exact hst)
            have hjn : ¬ (j : Int) < 0 := by omega
            rw [hf]
            clear hf hyes hst hc7 hmt
            generalize hmv : mtr L y x = mv at *
            go_wp2_with fail
            go_roundw
            case rel => exact ⟨i + 1, by omega, rfl, ⟨_, rfl⟩, O6'.out, k0 + 1 + 1, rfl⟩
            case measure => simp [intOf]; omega
    · obtain rfl : i = n := by omega
      have hl := HLN.out
      have hok := Lib.hid (show RouteOk L r from ⟨by omega, by omega, fun j h1 h2 => HO.out j h1 (by omega)⟩)
      clear hl
      go_wp2_with fail
      go_ret2
      exact ⟨⟨k0, rfl⟩, .inl ⟨hok.out, _, rfl⟩⟩
set_option maxHeartbeats 3200000 in
theorem rmeets17a_calls (a : Ak) (ha : AkOk a) (p : Pl) (b : Option Addr) (m c : Nat) (l : List Ad) (hx : ∀ x ∈ l, AdOk x) (q : Option Addr) (n d : Nat) (r : List Int) (w : World) (h : AkIn w w.heap.size a p) (hr : Row adc w w.heap.size b m l) (hq : Row ei w w.heap.size q n r) (hm : m ≤ 1073741824) (hnd : n ≤ d) (hn : n ≤ 1073741824) (hh : I15 p.h) :
    Calls Try.prog 14 #[.slice b m c, .agg (akc a.w p).toArray, .slice q n d] w fun e w' => ∃ B : Bool, e = .returned (.bool B) ∧ (B = true ↔ RouteOk (lks16 l a) r ∧ Lim17 p.h r) ∧ Below w.heap.size w w' := by
  have HQ := Lib.hid (Blk.new w 33 (akc a.w p))
  have hl := bel_new (Below.refl w.heap.size w) (.cells (akc a.w p).toArray 33)
  have HIA := Lib.hid (show (Try.prog.info? 33).map (·.size) = some (akc a.w p).length from infoAkR)
  have HL := Lib.hid hl
  have HQR := Lib.hid ((hq.below hl).more hl.size)
  have HLK := Lib.hid (rlinks16_calls a ha p b m c l hx _ (h.below hl) ((hr.below hl).more hl.size) hm)
  have HRL := Lib.hid hq.1
  have HML := Lib.hid (show (lks16 l a).length ≤ 1073741824 by have := lks16_length l a; have := hr.1; omega)
  unfold Lks16 at HLK
  clear hl h hr hq ha hx
  go_enter Try.func14, Try.ntmps14
  go_upto_region 1 with fail
  generalize (w.alloc (.cells (akc a.w p).toArray 33)) = w1 at *
  go_wp2_with (refine step_load (o := ⟨some 11, _, _, _, _, _⟩) rfl rfl rfl HQ.out Try.underlying33 rfl HIA.out ?_)
  ((with_reducible refine HLK.out.mono ?_))
  rintro e w2 ⟨A2, c2, rfl, hac, hb⟩
  have L2 := Lib.hid (HL.out.trans (hb.mono HL.out.size))
  have Q2 := Lib.hid (HQ.out.below hb)
  have hrr := rroute_any_calls A2 q (lks16 l a).length c2 n d _ _ (lks16 l a) r w2 (AccR.row hac) (HQR.out.below hb) HML.out hnd (by omega)
  have HRR := Lib.hid hrr
  clear hb hac hrr HL HQ HLK
  go_wp2_with fail
  ((with_reducible refine HRR.out.mono ?_))
  rintro e w3 ⟨⟨k, rfl⟩, hcs⟩
  have L3 := Lib.hid (bel_drewN L2.out k)
  have Q3 := Lib.hid (Q2.out.drewN k)
  clear HRR L2 Q2
  generalize w2.drewN k = w3 at *
  obtain ⟨hh1, hh2⟩ := hh
  rcases hcs with ⟨hro, v, rfl⟩ | ⟨hro, rfl⟩
  · have HRO := Lib.hid hro
    have y9 : w3.cell? ⟨w.heap.size, 9, none⟩ = some (.int .i64 p.h) := Q3.out.cell 9
    clear hro
    by_cases h0 : p.h = 0
    · have q1 : (p.h == 0) = true := by simpa using h0
      have HLI := Lib.hid (show Lim17 p.h r from .inl h0)
      clear h0
      go_wp2_with fail
      go_ret
      exact ⟨true, rfl, by simp [HRO.out, HLI.out], L3.out⟩
    · have q1 : (p.h == 0) = false := by simpa using h0
      by_cases h1 : (n : Int) - 1 ≤ p.h
      · have HLI := Lib.hid (show Lim17 p.h r from .inr (by rw [HRL.out]; exact h1))
        clear h0
        go_wp2_with fail
        go_ret
        exact ⟨true, rfl, by simp [HRO.out, HLI.out], L3.out⟩
      · have HLI := Lib.hid (show ¬ Lim17 p.h r from fun h => by
          rcases h with h | h
          · exact h0 h
          · rw [HRL.out] at h; exact h1 h)
        have h2 : decide ((n : Int) - 1 ≤ p.h) = false := decide_eq_false h1
        clear h0
        go_wp2_with fail
        go_ret
        exact ⟨false, rfl, by simp [HLI.out], L3.out⟩
  · have HRO := Lib.hid hro
    clear hro
    go_wp2_with fail
    go_ret
    exact ⟨false, rfl, by simp [HRO.out], L3.out⟩
set_option maxHeartbeats 3200000 in
theorem rlinks17_calls (b : Option Addr) (n c : Nat) (l : List Ad) (w : World) (hr : Row adc w w.heap.size b n l) (hn : n ≤ 1073741824) :
    Calls Try.prog 23 #[.slice b n c] w (Lks16 (l.map (·.k)) w) := by
  have HR := Lib.hid hr
  have HN := Lib.hid hr.1
  unfold Lks16
  clear hr
  go_enter Try.func23, Try.ntmps23
  go_wp2_with fail
  go_loopw [3, 4] (fun s u W => ∃ (i c1 : Nat) (A : Option Addr), i ≤ n ∧ s = .slice A i c1 ∧ u = .int .i64 (i : Int) ∧ AccL16 W w.heap.size A c1 ((l.map (·.k)).take i) ∧ Below w.heap.size w W) (fun s u W => n - (intOf u).toNat)
  case atStart => exact ⟨0, 0, none, Nat.zero_le _, rfl, rfl, AccR.nil _ _ _, Below.refl _ _⟩
  case round =>
    obtain ⟨i, c1, A, hi, rfl, rfl, hac, hbl⟩ := hrel
    have HAC := Lib.hid hac
    have HBL := Lib.hid hbl
    clear hac hbl
    by_cases hin : i < n
    · have i1 : (i : Int) < (n : Int) := by omega
      obtain ⟨bb, o, x, rfl, hx, hbb, hc⟩ := cells15 adc_length HR.out hin
      obtain ⟨⟨f, t, cp, m, g⟩, q, up, fr⟩ := x
      have HXM := Lib.hid (show (l.map (·.k))[i]? = some ⟨f, t, cp, m, g⟩ from by rw [List.getElem?_map, hx]; rfl)
      have HII := Lib.hid hin
      have z0 : wr.cell? ⟨bb, o + i * 15, none⟩ = some (.int .i64 f) := hc wr HBL.out 0 _ rfl
      have z1 : wr.cell? ⟨bb, o + i * 15 + 1, none⟩ = some (.int .i64 t) := hc wr HBL.out 1 _ rfl
      have z2 : wr.cell? ⟨bb, o + i * 15 + 2, none⟩ = some (.int .u64 cp) := hc wr HBL.out 2 _ rfl
      have z3 : wr.cell? ⟨bb, o + i * 15 + 3, none⟩ = some (.int .i64 m) := hc wr HBL.out 3 _ rfl
      have z4 : wr.cell? ⟨bb, o + i * 15 + 4, none⟩ = some (.int .u32 g) := hc wr HBL.out 4 _ rfl
      have hlen : ((l.map (·.k)).take i).length = i := by rw [List.length_take, List.length_map]; have := HN.out; have := HII.out; omega
      obtain ⟨A3, c3, w3, r3, a3, g3⟩ := accl16_push HAC.out f t cp m g HBL.out.size (by rw [hlen]; omega)
      rw [hlen] at r3
      rw [← take_snoc15 HXM.out] at a3
      have L3 := Lib.hid (show Below w.heap.size w w3 from belr_acc HBL.out HAC.out g3)
      have A3' := Lib.hid a3
      have R3 := Lib.hid r3
      clear r3 a3 g3 hlen hx hbb hc hin hi
      go_wp2_with (at_builtin; refine step_append (o := ⟨some 18, _, _, _, _, _⟩) rfl rfl rfl rfl R3.out ?_)
      go_roundw
      case rel => exact ⟨i + 1, c3, A3, HII.out, by first | rfl | (simp; omega), by first | rfl | (simp; omega), A3'.out, L3.out⟩
      case measure => have := HII.out; simp [intOf]; omega
    · obtain rfl : i = n := by omega
      have i1 : ¬ (i : Int) < (i : Int) := by omega
      have hv : (l.map (·.k)).take i = l.map (·.k) := List.take_of_length_le (by rw [List.length_map, HN.out]; exact Nat.le_refl _)
      have hac := HAC.out
      rw [hv] at hac
      have HA2 := Lib.hid hac
      have HLL := Lib.hid (show (l.map (·.k)).length = i by rw [List.length_map]; exact HN.out)
      clear hin hi hv hac
      go_wp2_with fail
      go_ret
      exact ⟨A, c1, by first | (rw [HLL.out]; rfl) | (rw [HN.out]; rfl) | (rw [List.length_map, HN.out]; rfl), HA2.out, HBL.out⟩
set_option maxHeartbeats 3200000 in
theorem rfind17_bad (n f t : Int) (b : Option Addr) (m c : Nat) (l : List Ad) (a : Ak) (p : Pl) (w : World) (hr : Row adc w w.heap.size b m l) (hm : m ≤ 1073741824) (hbad : ¬ ok17 n l a p.h f t) :
    Calls Try.prog 12 #[.int .i64 n, .slice b m c, .agg (akc a.w p).toArray, .int .i64 f, .int .i64 t] w fun e w' => e = .returned (.tuple #[.slice none 0 0, .int .i64 0, .int .i64 2]) ∧ Below w.heap.size w w' := by
  have HQ := Lib.hid (Blk.new w 33 (akc a.w p))
  have hl := bel_new (Below.refl w.heap.size w) (.cells (akc a.w p).toArray 33)
  have HL := Lib.hid hl
  have HLK := Lib.hid (rlinks17_calls b m c l _ ((hr.below hl).more hl.size) hm)
  have HLN := Lib.hid (show (l.map (·.k)).length ≤ 1073741824 by rw [List.length_map]; have := hr.1; omega)
  have HRT := Lib.hid (fun W => (show Calls Try.prog 24 #[.agg (wnc a.w).toArray] W (Yes12 (wRight a.w) W) from rright12_calls a.w W))
  have HWN := Lib.hid (show (Try.prog.info? 28).map (·.size) = some (wnc a.w).length from infoWn16)
  have HBAD := Lib.hid hbad
  unfold Lks16 at HLK
  unfold Yes12 at HRT
  clear hl hr hbad
  go_enter Try.func12, Try.ntmps12
  go_upto_region 1 with fail
  generalize (w.alloc (.cells (akc a.w p).toArray 33)) = w1 at *
  go_wp2_with fail
  ((with_reducible refine HLK.out.mono ?_))
  rintro e w2 ⟨A2, c2, rfl, hac, hb⟩
  have L2 := Lib.hid (HL.out.trans (hb.mono HL.out.size))
  have Q2 := Lib.hid (HQ.out.below hb)
  have hck := rcheck_calls n A2 l.length c2 (l.map (·.k)) w2 (by have := AccR.row hac; rwa [List.length_map] at this) (by have := HLN.out; rwa [List.length_map] at this)
  obtain ⟨z, hz⟩ : ∃ z, chk n (l.map (·.k)) = z := ⟨_, rfl⟩
  rw [hz] at hck
  have HZ := Lib.hid hz
  have HCK := Lib.hid hck
  clear hb hac hck hz HL HQ HLK
  go_wp2_with fail
  ((with_reducible refine HCK.out.mono ?_))
  rintro e w3 ⟨rfl, hb⟩
  have L3 := Lib.hid (L2.out.trans (hb.mono L2.out.size))
  have Q3 := Lib.hid (Q2.out.below hb)
  clear hb L2 Q2 HCK
  by_cases k1 : z = 0
  case neg =>
    have q1 : (z != 0) = true := by simpa using k1
    clear k1
    go_wp2_with fail
    refine bodyPost_ret (v := .tuple #[.slice none 0 0, .int .i64 0, .int .i64 2]) (by simp [results, Try.results12, go_sem]) rfl ?_
    exact ⟨rfl, L3.out⟩
  have q1 : (z != 0) = false := by simpa using k1
  by_cases k2 : f < 0
  · have dk2 : decide (f < 0) = true := decide_eq_true k2
    go_wp2_with fail
    refine bodyPost_ret (v := .tuple #[.slice none 0 0, .int .i64 0, .int .i64 2]) (by simp [results, Try.results12, go_sem]) rfl ?_
    exact ⟨rfl, L3.out⟩
  have dk2 : decide (f < 0) = false := decide_eq_false k2
  by_cases k3 : n ≤ f
  · have dk3 : decide (n ≤ f) = true := decide_eq_true k3
    go_wp2_with fail
    refine bodyPost_ret (v := .tuple #[.slice none 0 0, .int .i64 0, .int .i64 2]) (by simp [results, Try.results12, go_sem]) rfl ?_
    exact ⟨rfl, L3.out⟩
  have dk3 : decide (n ≤ f) = false := decide_eq_false k3
  by_cases k4 : t < 0
  · have dk4 : decide (t < 0) = true := decide_eq_true k4
    go_wp2_with fail
    refine bodyPost_ret (v := .tuple #[.slice none 0 0, .int .i64 0, .int .i64 2]) (by simp [results, Try.results12, go_sem]) rfl ?_
    exact ⟨rfl, L3.out⟩
  have dk4 : decide (t < 0) = false := decide_eq_false k4
  by_cases k5 : n ≤ t
  · have dk5 : decide (n ≤ t) = true := decide_eq_true k5
    go_wp2_with fail
    refine bodyPost_ret (v := .tuple #[.slice none 0 0, .int .i64 0, .int .i64 2]) (by simp [results, Try.results12, go_sem]) rfl ?_
    exact ⟨rfl, L3.out⟩
  have dk5 : decide (n ≤ t) = false := decide_eq_false k5
  by_cases k6 : f = t
  · have dk6 : (f == t) = true := by simpa using k6
    go_wp2_with fail
    refine bodyPost_ret (v := .tuple #[.slice none 0 0, .int .i64 0, .int .i64 2]) (by simp [results, Try.results12, go_sem]) rfl ?_
    exact ⟨rfl, L3.out⟩
  have dk6 : (f == t) = false := by simpa using k6
  have r3 := Lib.hid (akc_range Q3.out)
  obtain ⟨rt, hrt⟩ : ∃ rt, wRight a.w = rt := ⟨_, rfl⟩
  rw [hrt] at HRT
  have HRR := Lib.hid hrt
  clear hrt
  go_wp2_with (refine step_load_at_want (o := ⟨some 48, _, _, _, _, _⟩) (by rfl) rfl rfl r3.out Try.underlying28 rfl HWN.out ?_)
  ((with_reducible refine (HRT.out w3).mono ?_))
  rintro e w4 ⟨rfl, hb⟩
  have L4 := Lib.hid (L3.out.trans (hb.mono L3.out.size))
  have Q4 := Lib.hid (Q3.out.below hb)
  clear hb L3 Q3 r3 HRT
  cases rt with
  | false =>
    go_wp2_with fail
    refine bodyPost_ret (v := .tuple #[.slice none 0 0, .int .i64 0, .int .i64 2]) (by simp [results, Try.results12, go_sem]) rfl ?_
    exact ⟨rfl, L4.out⟩
  | true =>
    have x9 : w4.cell? ⟨w.heap.size, 9, none⟩ = some (.int .i64 p.h) := Q4.out.cell 9
    have hh : p.h < 0 := by
      refine Classical.byContradiction fun hh => HBAD.out ⟨by rw [HZ.out]; exact k1, ⟨by omega, by omega⟩, ⟨by omega, by omega⟩, k6, HRR.out, by omega⟩
    have dh : decide (p.h < 0) = true := decide_eq_true hh
    go_wp2_with fail
    refine bodyPost_ret (v := .tuple #[.slice none 0 0, .int .i64 0, .int .i64 2]) (by simp [results, Try.results12, go_sem]) rfl ?_
    exact ⟨rfl, L4.out⟩
end Go.Proofs.Ytjflbfianncpfaa
