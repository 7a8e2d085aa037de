/-
  A slice or a block beside a base of layer 15; the law's learn (viaducttop); calls of bases that New did not make. Condition: what the other base knows may be.
-/
import Derived.Test.YtmfmjdkeoiebpaaTewB
namespace Go.Proofs.Ytmfmjdkeoiebpaa
set_option maxRecDepth 100000
set_option linter.unusedVariables false
open Go.RowKit

/-- A slice, and a block, beside a base. -/
structure RowO {α : Type} (enc : α → List Value) (w : World) (S : List Nat) (A : Option Addr) (n : Nat) (l : List α) : Prop where
  row : Row enc w w.heap.size A n l
  off : 0 < n → ∀ b o, A = some ⟨b, o, none⟩ → b ∉ S
structure BlkO (w : World) (S : List Nat) (q : Nat) (T : TypeId) (vs : List Value) : Prop where
  blk : Blk w q T vs
  off : q ∉ S
section
variable {α : Type} {enc : α → List Value} {w w' : World} {S : List Nat} {A : Option Addr} {n q : Nat} {l : List α} {T : TypeId} {vs : List Value}
theorem RowO.turn (h : RowO enc w S A n l) (hm : Turn S w w') : RowO enc w' S A n l := by
  refine ⟨⟨h.row.1, fun hn => ?_⟩, h.off⟩
  obtain ⟨b, o, e, hb, hc⟩ := h.row.2 hn
  exact ⟨b, o, e, Nat.lt_of_lt_of_le hb hm.size, fun i hi => (World.cell?_of_block (w := w) (hm.block b hb (h.off hn b o e))).trans (hc i hi)⟩
theorem RowO.below (h : RowO enc w S A n l) (hb : Below w.heap.size w w') : RowO enc w' S A n l := h.turn (Turn.of_below hb)
theorem BlkO.turn (h : BlkO w S q T vs) (hm : Turn S w w') : BlkO w' S q T vs := ⟨h.blk.same (hm.block q h.blk.lt h.off), h.off⟩
theorem BlkO.below (h : BlkO w S q T vs) (hb : Below w.heap.size w w') : BlkO w' S q T vs := h.turn (Turn.of_below hb)
/-- What a call gathered since a world in which the base was there. -/
theorem RowO.of_acc {k base c : Nat} (hlt : ∀ b ∈ S, b < base) (h : AccR enc k w base T A c l) : RowO enc w S A l.length l := by
  refine ⟨AccR.row h, fun hn b o e hS => ?_⟩
  obtain ⟨g, rfl⟩ := accr_addr15 h hn
  injection e with e
  injection e with e1 _
  subst e1
  have := (AccR.ge h (x := g) rfl).1
  have := hlt _ hS
  omega
/-- What was there before the base was made. -/
theorem RowO.old {w0 : World} (h : Row enc w0 w0.heap.size A n l) (hb : Below w0.heap.size w0 w) (hS : ∀ x ∈ S, w0.heap.size ≤ x) : RowO enc w S A n l := by
  refine ⟨(h.below hb).more hb.size, fun hn b o e hbS => ?_⟩
  obtain ⟨b', o', e', hb', _⟩ := h.2 hn
  rw [e'] at e
  injection e with e
  injection e with e1 _
  subst e1
  have := hS _ hbS
  omega
theorem BlkO.newb {w : World} (hlt : ∀ b ∈ S, b < w.heap.size) (T : TypeId) (vs : List Value) : BlkO (w.alloc (.cells vs.toArray T)) S w.heap.size T vs :=
  ⟨Blk.new w T vs, fun h => by have := hlt _ h; omega⟩
/-- A store into a block beside the base. -/
theorem RowO.stored {g : Nat} (h : RowO enc w S A n l) (hg : w.grownBy w' (some g)) (hne : 0 < n → ∀ b o, A = some ⟨b, o, none⟩ → b ≠ g) : RowO enc w' S A n l := by
  refine ⟨⟨h.row.1, fun hn => ?_⟩, h.off⟩
  obtain ⟨b, o, e, hb, hc⟩ := h.row.2 hn
  exact ⟨b, o, e, Nat.lt_of_lt_of_le hb hg.size, fun i hi => (World.cell?_of_block (w := w) (hg.block b hb (fun e2 => hne hn b o e (by injection e2)))).trans (hc i hi)⟩
theorem RowO.ne_new (h : RowO enc w S A n l) : 0 < n → ∀ b o, A = some ⟨b, o, none⟩ → b ≠ w.heap.size := by
  intro hn b o e e2
  obtain ⟨b', o', e', hb, _⟩ := h.row.2 hn
  rw [e'] at e
  injection e with e
  injection e with e1 _
  omega
end
theorem rowT15 {w : World} {base c n : Nat} {A : Option Addr} {l : List Ad} (h : AccT15 w base A c l) (hl : l.length = n) : Row adc w w.heap.size A n l := by
  subst hl
  exact AccR.row h
theorem row15 {w : World} {base c n : Nat} {A : Option Addr} {l : List Ad} (h : Acc15 w base A c l) (hl : l.length = n) : Row adc w w.heap.size A n l := by
  subst hl
  exact AccR.row h
theorem BasC.turn {w w' : World} {q : Nat} {b : List Ad} {S S' : List Nat} (h : BasC w q b S) (ht : Turn S' w w') (hd : ∀ x ∈ S, x ∉ S') : BasC w' q b S := h.keep fun x hx => ht.block x (h.lt x hx) (hd x hx)
theorem BasC.stored {w w' : World} {q g : Nat} {b : List Ad} {S : List Nat} (h : BasC w q b S) (hg : w.grownBy w' (some g)) (hn : g ∉ S) : BasC w' q b S := h.keep fun x hx => hg.block x (h.lt x hx) (fun e => hn (by injection e with e; subst e; exact hx))
theorem Liv.beside {w0 w w' : World} {q : Nat} {b : List Ad} {S S2 : List Nat} (h : Liv w0 w q b S) (ht : Turn S2 w w') (hd : ∀ x ∈ S, x ∉ S2) (ho : ∀ x ∈ S2, w0.heap.size ≤ x) : Liv w0 w' q b S := ⟨h.bas.turn ht hd, h.own, ht.bel h.bel (Nat.le_refl _) ho⟩
theorem Liv.stored {w0 w w' : World} {q g : Nat} {b : List Ad} {S : List Nat} (h : Liv w0 w q b S) (hg : w.grownBy w' (some g)) (hn : g ∉ S) (h0 : w0.heap.size ≤ g) : Liv w0 w' q b S := ⟨h.bas.stored hg hn, h.own, bel_upd h.bel hg (Nat.le_refl _) h0⟩
theorem Liv.new {w0 w : World} {q : Nat} {b : List Ad} {S : List Nat} (h : Liv w0 w q b S) : w.heap.size ∉ S := fun h9 => by have := h.bas.lt _ h9; omega
theorem enc_valid15 {b : List Ad} (hl : b.length ≤ 64) (hv : ∀ x ∈ b, vldA x = true) : aEnc b = (adsB b, 0) := by
  unfold aEnc
  rw [if_neg (by omega), if_pos (List.all_eq_true.2 hv)]
def Le15 (q : Nat) (b' : List Ad) (S : List Nat) (w : World) (e : Ending) (w' : World) : Prop := e = .returned (.bool true) ∧ BasC w' q b' S ∧ Turn S w w'
set_option maxHeartbeats 6400000 in
theorem learn15_calls (q q2 : Nat) (b b2 : List Ad) (S S2 : List Nat) (w : World) (h : BasC w q b S) (h2 : BasC w q2 b2 S2) (hv : ∀ x ∈ b2, vldA x = true) : Calls Try.prog 30 #[.pointer (some ⟨q, 0, none⟩), .pointer (some ⟨q2, 0, none⟩)] w (Le15 q (told b b2) S w) := by
  have hok2 := h2.ok
  have henc := enc_valid15 hok2.2 hv
  have hdec := aDec_enc (fun a ha => (hok2.1 a ha).1) henc
  have hbl : (adsB b2).length = 88 * b2.length := adsB_length fun a ha => (hok2.1 a ha).1
  have ha := all15c_calls q2 b2 S2 w h2
  unfold Cl15 at ha
  obtain ⟨N, hN⟩ : ∃ N, b2.length = N := ⟨_, rfl⟩
  obtain ⟨R, hR⟩ : ∃ R, told b b2 = R := ⟨_, rfl⟩
  rw [hN] at ha
  rw [hR]
  have HA := Lib.hid ha
  have HB := Lib.hid h
  have HN := Lib.hid hN
  have HRR := Lib.hid hR
  have HOK := Lib.hid hok2
  have HENC := Lib.hid henc
  have HDEC := Lib.hid hdec
  have HBL := Lib.hid hbl
  clear ha h h2 hN hok2 henc hdec hbl hR hv
  go_enter Try.func30, Try.ntmps30
  go_wp2_with fail
  ((with_reducible refine HA.out.mono ?_))
  rintro e w1 ⟨A1, c1, rfl, acc1, hb1⟩
  have B1 := Lib.hid (HB.out.below hb1)
  have T1 := Lib.hid (show Turn S w w1 from Turn.of_below hb1)
  have hen := encode15c_calls A1 N c1 b2 HOK.out.1 w1 (by have := AccR.row acc1; rw [HN.out] at this; exact this) (by have := HOK.out.2; have := HN.out; omega)
  rw [HENC.out] at hen
  unfold En15 at hen
  simp only at hen
  have HEN := Lib.hid hen
  clear acc1 hb1 HA hen HB
  go_wp2_with fail
  ((with_reducible refine HEN.out.mono ?_))
  rintro e w2 ⟨A2, c2, rfl, acc2, hb2⟩
  have B2 := Lib.hid (B1.out.below hb2)
  have T2 := Lib.hid (T1.out.trans (Turn.of_below hb2))
  have hde := decode15c_calls A2 (adsB b2).length c2 (adsB b2) w2 acc2.bts (by rw [HBL.out]; have := HOK.out.2; omega)
  rw [HDEC.out] at hde
  unfold De15 at hde
  simp only at hde
  rw [HN.out] at hde
  have HDE := Lib.hid hde
  clear acc2 hb2 HEN hde B1 T1
  go_wp2_with fail
  ((with_reducible refine HDE.out.mono ?_))
  rintro e w3 ⟨A3, c3, rfl, acc3, hb3⟩
  have B3 := Lib.hid (B2.out.below hb3)
  have T3 := Lib.hid (T2.out.trans (Turn.of_below hb3))
  have R3 := Lib.hid (show RowO adc w3 S A3 N b2 from by have := RowO.of_acc (S := S) (fun x hx => B2.out.lt x hx) acc3; rw [HN.out] at this; exact this)
  clear acc3 hb3 HDE B2 T2
  have hN64 : N ≤ 64 := by have := HOK.out.2; have := HN.out; omega
  go_wp2_with fail
  go_loopw [30] (fun t W => ∃ i : Nat, i ≤ N ∧ t = .int .i64 (i : Int) ∧ BasC W q (told b (b2.take i)) S ∧ RowO adc W S A3 N b2 ∧ Turn S w W) (fun t W => N - (intOf t).toNat)
  case atStart => exact ⟨0, by omega, rfl, B3.out, R3.out, T3.out⟩
  case round =>
    clear B3 R3 T3
    obtain ⟨i, hi, rfl, hb, hr, ht⟩ := hrel
    have B := Lib.hid hb
    have R := Lib.hid hr
    have T := Lib.hid ht
    clear hb hr ht
    by_cases hin : i < N
    · have i1 : (i : Int) < (N : Int) := by omega
      have HI := Lib.hid hin
      obtain ⟨bb, o, x, rfl, hx, hbb, hc⟩ := range15 R.out.row hin
      have hxo := HOK.out.1 x (List.mem_of_getElem? hx)
      have HXO := Lib.hid hxo
      have HX := Lib.hid hx
      have HC := Lib.hid (hc wr (Below.refl _ _))
      have HIN := Lib.hid (show (Try.prog.info? 40).map (·.size) = some (adc x).length from infoAdTS15)
      have hbz := bel_new (Below.refl wr.heap.size wr) (.cells #[.int .i64 0, .int .i64 0, .int .u64 0, .int .i64 0, .int .u32 0, .int .i64 0, .bool false, .int .u64 0, .int .u64 0, .int .u64 0, .int .u64 0, .int .u64 0, .int .u64 0, .int .u64 0, .int .u64 0] 40)
      have BZ := Lib.hid (show BlkO (wr.alloc (.cells #[.int .i64 0, .int .i64 0, .int .u64 0, .int .i64 0, .int .u32 0, .int .i64 0, .bool false, .int .u64 0, .int .u64 0, .int .u64 0, .int .u64 0, .int .u64 0, .int .u64 0, .int .u64 0, .int .u64 0] 40)) S wr.heap.size 40 zr15 from BlkO.newb (B.out.lt) _ zr15)
      have Bz := Lib.hid (B.out.below hbz)
      have Rz := Lib.hid (R.out.below hbz)
      have Tz := Lib.hid (T.out.trans (Turn.of_below hbz))
      have RN := Lib.hid R.out.ne_new
      have QZ := Lib.hid T.out.size
      clear hx hbb hc hxo hbz B R T hin hi
      go_upto_region 8 with (first | (refine step_load_at (o := ⟨some 33, _, _, _, _, _⟩) rfl rfl rfl HC.out Try.underlying40 rfl HIN.out ?_) | ((with_reducible refine step_store (o := ⟨none, _, _, _, _, _⟩) (vs := adc x) (ty := 40) (x := .tmp 10) (y := .tmp 33) ?_ ?_ ?_ ?_ BZ.out.blk HIN.out rfl (adc_one _) ?_); (rfl); (rfl); (rfl); (rfl); intro w5 hb5 hg5 hs5))
      have B5 := Lib.hid (Bz.out.stored hg5 BZ.out.off)
      have R5 := Lib.hid (Rz.out.stored hg5 RN.out)
      have T5 := Lib.hid (show Turn S w w5 from ⟨hg5.os.trans Tz.out.os, hg5.tape.trans Tz.out.tape, hg5.output.trans Tz.out.output, Nat.le_trans Tz.out.size hg5.size, fun k hk hS => (hg5.block k (Nat.lt_of_lt_of_le hk Tz.out.size) (fun e => by injection e with e; have := QZ.out; omega)).trans (Tz.out.block k hk hS)⟩)
      have K5 := Lib.hid (BlkO.mk hb5 BZ.out.off)
      clear hb5 hg5 hs5 Bz Rz Tz BZ RN QZ HC
      generalize wr.heap.size = q5 at *
      have hap := apply15c_calls q (told b (b2.take i)) S x HXO.out.1 HXO.out.2 w5 B5.out
      obtain ⟨r, hr⟩ : ∃ r, bApply (told b (b2.take i)) x = r := ⟨_, rfl⟩
      rw [hr] at hap
      unfold Ap15 at hap
      have HAP := Lib.hid hap
      have HR := Lib.hid hr
      clear hap hr
      go_wp2_with (refine step_load (o := ⟨some 35, _, _, _, _, _⟩) rfl rfl rfl K5.out.blk Try.underlying40 rfl HIN.out ?_)
      ((with_reducible refine HAP.out.mono ?_))
      rintro e w6 ⟨rfl, hb, ht⟩
      have B6 := Lib.hid (show BasC w6 q (told b (b2.take (i + 1))) S from by rw [take_snoc15 HX.out, told_snoc, HR.out]; exact hb)
      have R6 := Lib.hid (R5.out.turn ht)
      have T6 := Lib.hid (T5.out.trans ht)
      clear hb ht B5 R5 T5 K5 HAP
      go_wp2_with fail
      go_roundw
      case rel => exact ⟨i + 1, by have := HI.out; omega, by first | rfl | (simp; omega), B6.out, R6.out, T6.out⟩
      case measure => have := HI.out; simp [intOf]; omega
    · obtain rfl : i = N := by omega
      have i1 : ¬ (i : Int) < (i : Int) := by omega
      clear hin hi
      go_wp2_with fail
      go_ret
      refine ⟨rfl, ?_, T.out⟩
      have := B.out
      rwa [List.take_of_length_le (by rw [HN.out]; exact Nat.le_refl _), HRR.out] at this
end Go.Proofs.Ytmfmjdkeoiebpaa
