/-
  Contracts of package admit: a table in memory; enter. Condition: none beside what is said.
  Contracts of package admit: New, Admit, Drop, Entries, Ledger, Copy; and all that a table of layer 14 must keep (Tk14) holds for the landed code's table. No condition beside what is said.
  Contracts of package admit: Ledger, Copy; all that a table of layer 14 must keep (Tk14) holds for the landed code's table. No condition beside what is said.
-/
import Derived.Test.YtjflbfianncpfaaGreatAdcHJ
import Derived.Test.YtjflbfianncpfaaGreatAdcMN
import Derived.Test.YtjflbfianncpfaaGreatAdmTS
import Derived.Test.YtjflbfianncpfaaGreatGroupMC
import Derived.Deep.CutBlock
namespace Go.Proofs.YtjflbfianncpfaaGreat
set_option maxRecDepth 100000
set_option linter.unusedVariables false
open Go.RowKit

/-- The cells of a table. -/
def tbc (sz : Nat) (A : Option Addr) (n c : Nat) : List Value := [.bool true, .int .u64 (sz : Int), .slice A n c]
/-- A table in memory: its block, and the block of its entries. -/
structure TabI (w : World) (q sz : Nat) (l : List Et) (S : List Nat) (A : Option Addr) (c : Nat) : Prop where
  blk : Blk w q 65 (tbc sz A l.length c)
  acc : AccR ent 10 w 0 77 A c l
  ne : ∀ g, Go.Proofs.YtjflbfianncpfaaGreat.blk A = some g → g ≠ q
  own : S = q :: (Go.Proofs.YtjflbfianncpfaaGreat.blk A).toList
  tbl : Tbl14 sz l
  bw : ∀ x ∈ l, KyB x.k ∧ WnB x.w
  sz : sz < 18446744073709551616
def TabC (w : World) (q sz : Nat) (l : List Et) (S : List Nat) : Prop := ∃ A c, TabI w q sz l S A c
theorem accr_apart {α β : Type} {enc : α → List Value} {enc' : β → List Value} {k k' base base' c c' : Nat} {w : World} {T T' : TypeId} {A A' : Option Addr} {l : List α} {l' : List β} (h : AccR enc k w base T A c l) (h' : AccR enc' k' w base' T' A' c' l') (hne : T ≠ T') : ∀ g, blk A = some g → blk A' ≠ some g := by
  intro g hg hg'
  rcases h.2 with ⟨hv, _⟩ | ⟨a, cap, cur, hv, _, hh, _⟩
  · injection hv with e _ _
    subst e; cases hg
  · rcases h'.2 with ⟨hv', _⟩ | ⟨a', cap', cur', hv', _, hh', _⟩
    · injection hv' with e _ _
      subst e; cases hg'
    · injection hv with e _ _
      injection hv' with e' _ _
      subst e; subst e'
      injection hg with hg
      injection hg' with hg'
      simp only at hg hg'
      subst hg; subst hg'
      rw [hh] at hh'
      injection hh' with hh'
      injection hh' with _ hh' _
      exact hne hh'
theorem append_alike {P : Program} {w : World} {t t2 ty T : TypeId} {B : Option Addr} {n c : Nat} {b : Value} {i : TypeInfo} (ht : P.underlying t = some (.slice T)) (h2 : P.underlying t2 = some (.slice T)) (hi : P.info? T = some i) :
    (Builtin.append_ #[t, t2] ty #[.slice B n c, b]).run P w = (Builtin.append_ #[t, t] ty #[.slice B n c, b]).run P w := by
  simp [Builtin.append_, run_underlying ht, run_underlying h2, sizeOf, typeInfo, hi]
theorem catF_grp {fs : List SF} {l : List Et} (h : Grp l (fs.map (·.g))) : catF fs = l := h.flat
theorem Fof_grp {fs : List SF} : Fof fs = (fs.map (·.g)).map gF := by unfold Fof; rw [List.map_map]; rfl
theorem Sfs.some {w : World} {B : Nat} {fs : List SF} (h : Sfs w B fs) : Sfs0 w B fs := fun p hp => ⟨(h p hp).1, (h p hp).2.2.1⟩
theorem Sfs.erase {w : World} {B : Nat} {fs : List SF} (h : Sfs w B fs) (i : Nat) : Sfs w B (fs.eraseIdx i) := fun p hp => h p (List.mem_of_mem_eraseIdx hp)
theorem TabI.keep {w w' : World} {q sz c : Nat} {l : List Et} {S : List Nat} {A : Option Addr} (h : TabI w q sz l S A c) (hb : ∀ b ∈ S, w'.heap[b]? = w.heap[b]?) : TabI w' q sz l S A c :=
  ⟨h.blk.same (hb q (by rw [h.own]; exact List.mem_cons_self)), h.acc.keepB (fun x hx => hb x (by rw [h.own]; exact List.mem_cons_of_mem _ (by simpa using hx))), h.ne, h.own, h.tbl, h.bw, h.sz⟩
theorem TabI.lt {w : World} {q sz c : Nat} {l : List Et} {S : List Nat} {A : Option Addr} (h : TabI w q sz l S A c) : ∀ b ∈ S, b < w.heap.size := fun b hb => by
  rw [h.own] at hb
  rcases List.mem_cons.1 hb with rfl | hb
  · exact h.blk.lt
  · exact (h.acc.ge (by simpa using hb)).2
theorem TabI.below {w w' : World} {q sz c : Nat} {l : List Et} {S : List Nat} {A : Option Addr} (h : TabI w q sz l S A c) (hb : Below w.heap.size w w') : TabI w' q sz l S A c := h.keep fun b hS => hb.block b (h.lt b hS)
/-- What enter leaves. -/
def enr (sz : Nat) (l : List Et) (x : Et) : List Et × List Ky × Int := match aLoop l.length sz l x with | none => (l, [], 14) | some now => (wIns now x, gone14 l now, 0)
theorem below_grown {B : Nat} {a w w' : World} {r : Nat} (h : Below B a w) (hg : w.grownBy w' (some r)) (hr : B ≤ r) (hB : B ≤ a.heap.size) : Below B a w' := h.grown hg (Nat.le_trans hB h.size) (fun j hj => by cases hj; exact hr)
set_option maxHeartbeats 6400000 in
theorem enter14_calls (q sz : Nat) (l : List Et) (S : List Nat) (x : Et) (w : World) (h : TabC w q sz l S) (hr : wRight x.w = true) (hx : has14 l x.k = false) (hl : l.length < 64) (hkb : KyB x.k ∧ WnB x.w) :
    Calls Tryz.prog 20 #[.pointer (some ⟨q, 0, none⟩), .agg (ent x).toArray] w (Adt14 TabC S q sz (enr sz l x) w) := by
  obtain ⟨A, c, ht⟩ := h
  have HT := Lib.hid ht
  have HX := Lib.hid (And.intro hr (And.intro hx (And.intro hl hkb)))
  have HIN := Lib.hid (show (Tryz.prog.info? 77).map (·.size) = some (ent x).length from infoEntC14)
  have L1 := Lib.hid (bel_new (Below.refl w.heap.size w) (.cells (ent x).toArray 77))
  have B1 := Lib.hid (show Blk (w.alloc (.cells (ent x).toArray 77)) w.heap.size 77 (ent x) from Blk.new w _ _)
  have HQ := Lib.hid ht.blk.lt
  obtain ⟨R, hR⟩ : ∃ R, enr sz l x = R := ⟨_, rfl⟩
  rw [hR]
  have HR := Lib.hid hR
  unfold Adt14
  clear ht hr hx hl hkb hR
  go_enter Tryz.func20, Tryz.ntmps20
  go_upto_region 1 with fail
  generalize w.alloc (.cells (ent x).toArray 77) = w1 at *
  have TB1 := Lib.hid (HT.out.blk.below L1.out)
  have HROW := Lib.hid (show ∀ W, Below w.heap.size w W → Row ent W W.heap.size A l.length l from fun W hW => (HT.out.acc.row.below hW).more hW.size)
  go_wp2_with fail
  refine region_seq (fun W => Blk W w.heap.size 77 (ent x) ∧ Blk W q 65 (tbc sz A l.length c)) [(0, true), (1, true), (2, true), (3, true), (4, true), (5, false), (6, false), (7, true)]
    (by kernel_rfl) (by kernel_rfl) (by kernel_rfl) (by kernel_rfl) (fun _ _ _ _ _ h => h) ⟨B1.out.drew, TB1.out.drew⟩ ?_
  repeat first
    | refine seq_load8 (x := .tmp 3) rfl (by rfl) rfl rfl (fun W hW => hW.1) Tryz.underlying77 rfl HIN.out ?_
      simp only [Act.put, List.setIfInBounds_toArray, List.set_cons_zero, List.set_cons_succ]
    | refine seq_pure (v := ?_) rfl (by rfl) (fun W hW => ?_) ?_
      rotate_left
      · have t2 : W.cell? ⟨q, 2, none⟩ = some (.slice A l.length c) := hW.2.cell 2
        clear hW
        go_simp
        with_reducible rfl
      simp only [Act.put, List.setIfInBounds_toArray, List.set_cons_zero, List.set_cons_succ]
  refine seq_make rfl (by rfl) (fun K hK => ?_)
  go_simp
  have hcw := with14_calls A l.length c l x w1.drew (HROW.out _ L1.out.drew) HT.out.acc.pla HT.out.acc.cap.1 (by have := HX.out; omega) HX.out.2.1
  ((with_reducible refine hcw.mono ?_))
  rintro e w2 ⟨A2, c2, rfl, hacc, hb⟩
  have ACC2 := Lib.hid hacc
  have BL2 := Lib.hid (show Below w1.heap.size w1 w2 from below_of_drew hb)
  have L2 := Lib.hid (L1.out.trans (BL2.out.mono L1.out.size))
  have S2 := Lib.hid (show Blk w2 w.heap.size 77 (ent x) ∧ Blk w2 q 65 (tbc sz A l.length c) from ⟨B1.out.below BL2.out, TB1.out.below BL2.out⟩)
  clear hacc hb hcw
  obtain ⟨m, hm⟩ : ∃ m, wIns l x = m := ⟨_, rfl⟩
  have hml : m.length ≤ 1023 := by rw [← hm, wIns_length]; have := HX.out; omega
  have hms : Srt14 m := by rw [← hm]; exact srt_wIns HT.out.tbl.srt HX.out.2.1
  rw [hm] at ACC2 ⊢
  have HM := Lib.hid hm
  go_simp
  refine hK _ w2 (fun W => Blk W w.heap.size 77 (ent x) ∧ Blk W q 65 (tbc sz A l.length c)) (fun W h => h) S2.out ?_
  clear hK K
  refine seq_make rfl (by rfl) (fun K hK => ?_)
  go_simp
  have hcf := families14_calls A2 m.length c2 m w2 ACC2.out.row ACC2.out.pla ACC2.out.cap.1 (by omega) hms
  ((with_reducible refine hcf.mono ?_))
  rintro e w3 ⟨A3, c3, fs, rfl, hacc, hsf, hgrp, hb⟩
  have ACC3 := Lib.hid hacc
  have SF3 := Lib.hid (hsf.below hb)
  have L3 := Lib.hid (L2.out.trans (hb.mono L2.out.size))
  have S3 := Lib.hid (show Blk w3 w.heap.size 77 (ent x) ∧ Blk w3 q 65 (tbc sz A l.length c) from ⟨S2.out.1.below hb, S2.out.2.below hb⟩)
  have BQ := Lib.hid L2.out.size
  have BQ1 := Lib.hid S2.out.1.lt
  have BH := Lib.hid hb.size
  have D3 := Lib.hid (show Drv sz l x l.length l (fs.map (·.g)) [] from Drv.start (by rw [HM.out]; exact hgrp))
  clear hacc hsf hgrp hb hcf
  go_simp
  refine hK _ w3 (fun W => Blk W w.heap.size 77 (ent x) ∧ Blk W q 65 (tbc sz A l.length c)) (fun W h => h) S3.out ?_
  clear hK K S2 ACC2 BL2 TB1 B1 L1 HM hm hml hms
  generalize w2.heap.size = B2 at *
  repeat
    refine seq_pure (v := ?_) rfl (by rfl) (fun W hW => ?_) ?_
    rotate_left
    · clear hW
      go_simp
      try with_reducible rfl
    simp only [Act.put, List.setIfInBounds_toArray, List.set_cons_zero, List.set_cons_succ]
  refine seq_done ?_
  go_wp2_with fail
  go_loopw [6, 7] (fun s t wr => ∃ (fuel : Nat) (now : List Et) (fs : List SF) (G : List Et) (A3 : Option Addr) (c3 : Nat) (A4 : Option Addr) (c4 : Nat), s = .slice A3 fs.length c3 ∧ t = .slice A4 G.length c4 ∧ Drv sz l x fuel now (fs.map (·.g)) G ∧ AccR sfc 1 wr B2 99 A3 c3 fs ∧ AccR ent 10 wr B2 77 A4 c4 G ∧ Sfs wr B2 fs ∧ Below B2 w3 wr) (fun s t wr => lenV14 s)
  case atStart => exact ⟨l.length, l, fs, [], A3, c3, none, 0, rfl, rfl, D3.out, ACC3.out, AccR.nil _ _ _, SF3.out, Below.refl _ _⟩
  case round =>
    clear D3 ACC3 SF3
    obtain ⟨fuel, now, fs, G, A3, c3, A4, c4, rfl, rfl, hdrv, hacc3, hacc4, hsf, hbl⟩ := hrel
    have D := Lib.hid hdrv
    have AF := Lib.hid hacc3
    have AG := Lib.hid hacc4
    have SF := Lib.hid hsf
    have HB := Lib.hid hbl
    have LW := Lib.hid (L3.out.trans (hbl.mono BQ.out))
    have TB := Lib.hid (show Blk wr w.heap.size 77 (ent x) ∧ Blk wr q 65 (tbc sz A l.length c) from ⟨S3.out.1.same (hbl.block _ BQ1.out), S3.out.2.same (hbl.block _ (Nat.lt_of_lt_of_le HQ.out BQ.out))⟩)
    -- what is known of the families
    have hsn : Srt14 now := List.Pairwise.sublist hdrv.sub HT.out.tbl.srt
    have hxn := has_sub hdrv.sub HX.out.2.1
    have hlen : fs.length ≤ 65 := by
      have := hdrv.grp.length
      rw [List.length_map, wIns_length] at this
      have := hdrv.sub.length_le
      have := HX.out.2.2.1
      omega
    have hws : Srt14 (wIns now x) := srt_wIns hsn hxn
    have hmw : ∀ y ∈ wIns now x, wRight y.w = true ∧ KyB y.k ∧ WnB y.w := fun y hy => by
      rcases mem_wIns.1 hy with h1 | h1
      · exact ⟨HT.out.tbl.rgt y (hdrv.sub.subset h1), HT.out.bw y (hdrv.sub.subset h1)⟩
      · rw [h1]; exact ⟨HX.out.1, HX.out.2.2.2⟩
    have hfams : Fof fs = fams (wIns now x) := by rw [Fof_grp, hdrv.grp.fams]
    have hF : ∀ f ∈ Fof fs, 0 ≤ f.ho ∧ f.ho ≤ 7 := by rw [hfams]; exact fams_ho hws (fun y hy => (hmw y hy).1)
    have hFb : ∀ f ∈ Fof fs, f.bw < 18446744073709551616 := by
      rw [hfams]
      intro f hf
      obtain ⟨y, hy, _, e⟩ := (fams_ok hws).fms.from_ f hf
      rw [← e]
      exact (hmw y hy).2.2.1
    have HMW := Lib.hid (And.intro hws hmw)
    have hfit := fits14_calls sz HT.out.sz A3 fs.length c3 fs wr AF.out.row (hsf.more (Nat.le_trans BH.out HB.out.size)) (by omega) hF hFb
    unfold Yes14 at hfit
    have HLEN := Lib.hid hlen
    obtain ⟨N, hN⟩ : ∃ N, fs.length = N := ⟨_, rfl⟩
    obtain ⟨GN, hGN⟩ : ∃ GN, G.length = GN := ⟨_, rfl⟩
    have HGN := Lib.hid hGN
    have HNN := Lib.hid hN
    have hgl : GN ≤ 64 := by
      have := hdrv.perm.length_eq
      rw [List.length_append] at this
      have := HX.out.2.2.1
      omega
    have HGL := Lib.hid hgl
    rw [hN] at hfit
    have t1 : wr.cell? ⟨q, 1, none⟩ = some (.int .u64 (sz : Int)) := TB.out.2.cell 1
    obtain ⟨d, hd⟩ : ∃ d, decide (fsum (Fof fs) ≤ sz) = d := ⟨_, rfl⟩
    rw [hd] at hfit
    have HFIT := Lib.hid hfit
    have HD := Lib.hid hd
    clear hdrv hacc3 hacc4 hsf hbl hsn hxn hlen hws hmw hfams hF hFb hfit hd hgl
    rw [hN, hGN]
    clear hN hGN
    go_wp2_with fail
    ((with_reducible refine HFIT.out.mono ?_))
    rintro e w4 ⟨rfl, hb⟩
    have hB2 : B2 ≤ wr.heap.size := Nat.le_trans BH.out HB.out.size
    have AF4 := Lib.hid (AF.out.bel hb)
    have AG4 := Lib.hid (AG.out.bel hb)
    have SF4 := Lib.hid (SF.out.below (hb.mono hB2))
    have HB4 := Lib.hid (HB.out.trans (hb.mono hB2))
    have LW4 := Lib.hid (LW.out.trans (hb.mono LW.out.size))
    have TB4 := Lib.hid (And.intro (TB.out.1.below hb) (TB.out.2.below hb))
    have SZ4 := Lib.hid (Nat.le_trans hB2 hb.size)
    clear hb hB2 t1 HFIT AF AG SF HB LW TB
    cases d with
    | true =>
      have hal := D.out.fit (by rw [← Fof_grp]; exact of_decide_eq_true HD.out)
      have hcc := concatf14_calls A3 fs.length c3 fs w4 AF4.out.row ((SF4.out.more SZ4.out).some) (by have := HLEN.out; omega)
      rw [catF_grp D.out.grp, HNN.out] at hcc
      have HR2 := Lib.hid (show R = (wIns now x, gone14 l now, 0) by rw [← HR.out]; unfold enr; rw [hal])
      have HCC := Lib.hid hcc
      clear hal hcc
      go_wp2_with fail
      ((with_reducible refine HCC.out.mono ?_))
      rintro e w5 ⟨A5, c5, rfl, hacc, hb⟩
      have AC5 := Lib.hid hacc
      have AG5 := Lib.hid (AG4.out.bel hb)
      have LW5 := Lib.hid (LW4.out.trans (hb.mono LW4.out.size))
      have TB5 := Lib.hid (TB4.out.2.below hb)
      have SZ5 := Lib.hid hb.size
      have c2 : w5.cell? ⟨q, 2, none⟩ = some (.slice A l.length c) := TB5.out.cell 2
      have f2 := TB5.out.free 2
      obtain ⟨n5, hn5⟩ : ∃ n5, (wIns now x).length = n5 := ⟨_, rfl⟩
      have HN5 := Lib.hid hn5
      rw [hn5]
      clear hacc hb HCC hn5
      go_upto_region 10 with fail
      have hb6 := TB5.out.set 2 (.slice A5 n5 c5)
      have hq5 : q < w5.heap.size := TB5.out.lt
      have hne : ∀ g, blk A5 = some g → g ≠ q := fun g hg => by have := (AC5.out.ge hg).1; have := TB4.out.2.lt; omega
      have hneg : ∀ g, blk A4 = some g → g ≠ q := fun g hg => by have := (AG5.out.ge hg).1; have := HQ.out; have := BQ.out; omega
      have hst : ∀ i, i ≠ q → (w5.setCell ⟨q, 2, none⟩ (.slice A5 n5 c5)).heap[i]? = w5.heap[i]? := fun i hi => Below.heap_setCell _ _ _ _ hi
      have AC6 := Lib.hid (AC5.out.keepB (w' := w5.setCell ⟨q, 2, none⟩ (.slice A5 n5 c5)) fun g hg => hst g (hne g hg))
      have AG6 := Lib.hid (AG5.out.keepB (w' := w5.setCell ⟨q, 2, none⟩ (.slice A5 n5 c5)) fun g hg => hst g (hneg g hg))
      have HT6 := Lib.hid (show Turn S w (w5.setCell ⟨q, 2, none⟩ (.slice A5 n5 c5)) from ⟨LW5.out.os, LW5.out.tape, LW5.out.output, by simpa using LW5.out.size, fun i hi hS => by
        rw [hst i (fun e => hS (by rw [e, HT.out.own]; exact List.mem_cons_self))]
        exact LW5.out.block i hi⟩)
      have B6 := Lib.hid (show Blk (w5.setCell ⟨q, 2, none⟩ (.slice A5 n5 c5)) q 65 (tbc sz A5 n5 c5) from hb6)
      have SZ6 := Lib.hid (show (w5.setCell ⟨q, 2, none⟩ (.slice A5 n5 c5)).heap.size = w5.heap.size by simp)
      have HNE := Lib.hid hne
      clear hb6 hq5 hne hneg hst c2 f2
      generalize w5.setCell ⟨q, 2, none⟩ (.slice A5 n5 c5) = w6 at *
      have hkk := keysc14_calls A4 G.length c4 G w6 AG6.out.row (by rw [HGN.out]; have := HGL.out; omega)
      rw [HGN.out] at hkk
      have HKK := Lib.hid hkk
      clear hkk
      go_wp2_with fail
      ((with_reducible refine HKK.out.mono ?_))
      rintro e w7 ⟨A7, c7, ks, rfl, hacc, hp, hpw, hb⟩
      have hks := D.out.gone HT.out.tbl.srt hp hpw
      subst hks
      have AK := Lib.hid hacc
      have B7 := Lib.hid (B6.out.below hb)
      have AC7 := Lib.hid (AC6.out.bel hb)
      have HT7 := Lib.hid (HT6.out.trans (Turn.of_below hb))
      clear hacc hp hpw hb HKK
      obtain ⟨ks, hks⟩ : ∃ ks, gone14 l now = ks := ⟨_, rfl⟩
      rw [hks] at AK HR2 ⊢
      obtain ⟨n7, hn7⟩ : ∃ n7, ks.length = n7 := ⟨_, rfl⟩
      have HN7 := Lib.hid hn7
      rw [hn7]
      clear hks hn7
      go_wp2_with fail
      refine bodyPost_ret (v := .tuple #[.slice A7 n7 c7, .int .i64 0]) (by simp [results, Tryz.results20, go_sem]) rfl ?_
      rw [HR2.out]
      have h5 : ∀ g, blk A5 = some g → w.heap.size ≤ g ∧ g < w6.heap.size := fun g hg => ⟨by have := (AC5.out.ge hg).1; have := LW4.out.size; omega, (AC6.out.ge hg).2⟩
      have htb : Tbl14 sz (wIns now x) := by
        have := tbl_admit (size := sz) HT.out.tbl x.k x.w
        unfold aAdmit at this
        rw [if_neg (by rw [HX.out.1]; simp), if_neg (by rw [HX.out.2.1]; simp), if_neg (by have := HX.out.2.2.1; omega), D.out.fit (by rw [← Fof_grp]; exact of_decide_eq_true HD.out)] at this
        exact this
      refine ⟨q :: (blk A5).toList, A7, c7, by rw [HN7.out], ⟨A5, c5, ⟨by rw [HN5.out]; exact B7.out, AC7.out.lower (Nat.zero_le _), HNE.out, rfl, htb, fun y hy => (HMW.out.2 y hy).2, HT.out.sz⟩⟩, ⟨HT7.out, fun b hb => ?_⟩, ⟨AK.out.row, fun hn b o e hS => ?_⟩⟩
      · rcases List.mem_cons.1 hb with rfl | hb
        · exact .inl (by rw [HT.out.own]; exact List.mem_cons_self)
        · exact .inr (h5 b (by simpa using hb)).1
      · subst e
        have hge := (AK.out.ge (x := b) rfl).1
        rcases List.mem_cons.1 hS with rfl | hS
        · have := B6.out.lt; omega
        · have := (h5 b (by simpa using hS)).2; omega
    | false =>
      have hnx := next14_calls A3 fs.length c3 fs x w4 AF4.out.row (SF4.out.more SZ4.out) (by have := HLEN.out; omega)
      rw [HNN.out] at hnx
      have HNX := Lib.hid hnx
      have TX := Lib.hid TB4.out.1
      clear hnx
      go_wp2_with ((with_reducible refine step_load (o := ⟨some 24, _, _, _, _, _⟩) (x := .tmp 3) ?_ ?_ ?_ TX.out Tryz.underlying77 ?_ HIN.out ?_); (rfl); (rfl); (rfl); (rfl))
      ((with_reducible refine HNX.out.mono ?_))
      rintro e w5 ⟨r, rfl, hbst, hb⟩
      have AF5 := Lib.hid (AF4.out.bel hb)
      have AG5 := Lib.hid (AG4.out.bel hb)
      have SF5 := Lib.hid (SF4.out.below (hb.mono SZ4.out))
      have HB5 := Lib.hid (HB4.out.trans (hb.mono SZ4.out))
      have LW5 := Lib.hid (LW4.out.trans (hb.mono LW4.out.size))
      have SZ5 := Lib.hid (Nat.le_trans SZ4.out hb.size)
      clear hb HNX TX AF4 AG4 SF4 HB4 LW4 TB4
      have hnf : ¬ fsum ((fs.map (·.g)).map gF) ≤ sz := by rw [← Fof_grp]; exact of_decide_eq_false HD.out
      have hfold : (Fof (fs.take N)).foldl (vstep x.k x.w.su) none = ((fs.map (·.g)).map gF).foldl (vstep x.k x.w.su) none := by rw [← HNN.out, List.take_length, Fof_grp]
      unfold Bst at hbst
      rw [hfold] at hbst
      rcases hbst with ⟨rfl, hv⟩ | ⟨i, hi, _, rfl, hv⟩
      · have hal := D.out.stuck HT.out.tbl.srt HX.out.2.1 hnf hv
        have HR2 := Lib.hid (show R = (l, [], 14) by rw [← HR.out]; unfold enr; rw [hal])
        clear hal hv hnf hfold
        go_wp2_with fail
        refine bodyPost_ret (v := .tuple #[.slice none 0 0, .int .i64 14]) (by simp [results, Tryz.results20, go_sem]) rfl ?_
        rw [HR2.out]
        exact ⟨S, none, 0, rfl, ⟨A, c, HT.out.below LW5.out⟩, Mv14.of_below LW5.out, RowT.nil⟩
      · have hstep := D.out.step HT.out.tbl.srt HX.out.2.1 hnf (i := i) (by rw [List.length_map]; exact hi) (by rw [List.getElem_map]; exact hv)
        rw [List.getElem_map] at hstep
        have hN0 : 0 < fs.length := by omega
        obtain ⟨g, rfl⟩ := AF5.out.at0 hN0
        obtain ⟨b, o, e, hbw, hcell⟩ := row_sf AF5.out.row hN0
        injection e with e
        injection e with e1 e2 _
        subst e1; subst e2
        have ci := hcell i hi w5 rfl
        rw [Nat.zero_add] at ci
        obtain ⟨hrow, hp0, hpn, hpc⟩ := SF5.out fs[i] (List.getElem_mem hi)
        obtain ⟨p, hp⟩ : ∃ p, fs[i] = p := ⟨_, rfl⟩
        rw [hp] at ci hrow hp0 hpn hpc hstep
        obtain ⟨fuel', now', hdrv⟩ := hstep
        have hmap : (fs.map (·.g)).eraseIdx i = (fs.eraseIdx i).map (·.g) := by rw [List.eraseIdx_eq_take_drop_succ, List.eraseIdx_eq_take_drop_succ, List.map_append, List.map_take, List.map_drop]
        rw [hmap] at hdrv
        obtain ⟨m, hm⟩ : ∃ m, N = m + 1 := ⟨N - 1, by have := HNN.out; omega⟩
        subst hm
        -- what goes is gathered
        obtain ⟨A6, c6, w6, hrun, hacc, hgr, _⟩ := accr_append (P := Tryz.prog) (ty := 63) (cc := p.c) ent_length ent_one (by omega) AG5.out hrow Tryz.underlying63 infoEntZ14 rfl SZ5.out (by have := HGL.out; have := HGN.out; omega) (by have := HGL.out; have := HGN.out; omega)
        obtain ⟨ti, hti, _⟩ := Option.map_eq_some_iff.1 infoEntZ14
        rw [HGN.out, ← append_alike (t2 := 99) Tryz.underlying63 Tryz.underlying99 hti] at hrun
        have hgb : ∀ j, blk A4 = some j → B2 ≤ j := fun j hj => (AG5.out.ge hj).1
        have AF6 := Lib.hid (AF5.out.kept hgr (fun z hz e => accr_apart AF5.out AG5.out (by decide) z hz e))
        have hb6 : Below B2 w5 w6 := (Below.refl B2 w5).grown hgr SZ5.out hgb
        have SF6 := Lib.hid (SF5.out.below hb6)
        have AG6 := Lib.hid hacc
        have HRUN := Lib.hid hrun
        have HB6 := Lib.hid (HB5.out.trans hb6)
        have SZ6 := Lib.hid (Nat.le_trans SZ5.out hgr.size)
        have hgA : B2 ≤ g := (AF5.out.ge rfl).1
        have hdel := deletef14_calls g c3 m i B2 fs w6 AF6.out HNN.out hi (by have := HLEN.out; omega)
        obtain ⟨i', hi'⟩ : ∃ i', i + 1 = i' := ⟨_, rfl⟩
        rw [hi'] at hdel
        have HDEL := Lib.hid hdel
        have i1 : ¬ (i : Int) < 0 := by omega
        have i2 : (i : Int) < ((m + 1 : Nat) : Int) := by have := HNN.out; omega
        have i3 : IntKind.i64.wrap ((i : Int) + 1) = (i' : Int) := by have := HLEN.out; rw [IntWalk.i64_in _ (by omega)]; omega
        have HDR := Lib.hid hdrv
        have HER := Lib.hid (show (fs.eraseIdx i).length = m by rw [List.length_eraseIdx, if_pos hi]; have := HNN.out; omega)
        have HGR := Lib.hid (show GN + p.n = (G ++ p.g).length by rw [List.length_append, HGN.out, hrow.1])
        have HGA := Lib.hid hgA
        obtain ⟨n6, hn6⟩ : ∃ n6, GN + p.n = n6 := ⟨_, rfl⟩
        rw [hn6] at HRUN HGR
        have HPW := Lib.hid hi
        clear hcell hbw hrow hp0 hpn hpc hdrv hmap hrun hacc hgr hgb hb6 hgA hdel hv hnf hfold hN0 hp hi hi' hn6 AF5 AG5 SF5 HB5
        go_wp2_with (at_builtin; refine Lib.wpList_append_run w5 rfl _ _ _ _ rfl _ _ rfl rfl _ _ HRUN.out ?_)
        ((with_reducible refine HDEL.out.mono ?_))
        rintro e w7 ⟨rfl, hacc, hgr⟩
        have AF7 := Lib.hid hacc
        have AG7 := Lib.hid (AG6.out.kept hgr (fun z hz e => accr_apart AF6.out AG6.out (by decide) g rfl (by rw [hz]; exact e.symm)))
        have hb7 : Below B2 w6 w7 := (Below.refl B2 w6).grown hgr SZ6.out (fun j hj => by cases hj; exact HGA.out)
        have SF7 := Lib.hid (SF6.out.erase i |>.below hb7)
        have HB7 := Lib.hid (HB6.out.trans hb7)
        clear hacc hgr hb7 HDEL ci
        go_wp2_with fail
        go_roundw
        case rel => exact ⟨fuel', now', fs.eraseIdx i, G ++ p.g, some ⟨g, 0, none⟩, c3, A6, c6, by rw [HER.out], by rw [← HGR.out], HDR.out, AF7.out, AG7.out, SF7.out, HB7.out⟩
        case measure => simp [lenV14]
end Go.Proofs.YtjflbfianncpfaaGreat

namespace Go.Proofs.YtjflbfianncpfaaGreat
set_option maxRecDepth 100000
set_option linter.unusedVariables false
open Go.RowKit

theorem new14_calls (sz : Nat) (hsz : sz < 18446744073709551616) (w : World) : Calls Tryz.prog 4 #[.int .u64 (sz : Int)] w (New14 TabC sz w) := by
  have hb : Blk (w.alloc (.cells #[.bool true, .int .u64 (sz : Int), .slice none 0 0] 65)) w.heap.size 65 (tbc sz none 0 0) := Blk.new w _ _
  have hl : Below w.heap.size w (w.alloc (.cells #[.bool true, .int .u64 (sz : Int), .slice none 0 0] 65)) := bel_new (Below.refl _ _) _
  have HB := Lib.hid hb
  have HL := Lib.hid hl
  unfold New14
  clear hb hl
  go_enter Tryz.func4, Tryz.ntmps4
  go_wp2_with fail
  generalize w.alloc (.cells #[.bool true, .int .u64 (sz : Int), .slice none 0 0] 65) = w1 at *
  go_ret
  exact ⟨w.heap.size, [w.heap.size], rfl, ⟨none, 0, ⟨HB.out, AccR.nil _ _ _, fun g hg => (by simp [blk] at hg), rfl, tbl_new sz, fun x hx => (by simp at hx), hsz⟩⟩, HL.out, fun b hb => by simp at hb; omega⟩
theorem idx_has {l : List Et} {k : Ky} : (0 ≤ idxF (fun x => decide (x.k = k)) l) ↔ has14 l k = true := by
  rcases idxF_cases (fun x : Et => decide (x.k = k)) l with ⟨h1, h2⟩ | ⟨i, hi, h1, h2, _⟩
  · rw [h1]
    constructor
    · intro h; omega
    · intro h
      obtain ⟨x, hx, he⟩ := has14_iff.1 h
      have := h2 x hx
      simp [he] at this
  · rw [h1]
    constructor
    · intro _
      exact has14_iff.2 ⟨l[i], List.getElem_mem hi, by simpa using h2⟩
    · intro _; omega
theorem TabI.row {w : World} {q sz c : Nat} {l : List Et} {S : List Nat} {A : Option Addr} (h : TabI w q sz l S A c) : Row ent w w.heap.size A l.length l := h.acc.row
set_option maxHeartbeats 6400000 in
theorem admit14_calls (q sz : Nat) (l : List Et) (S : List Nat) (k : Ky) (v : Wn) (w : World) (h : TabC w q sz l S) (hk : KyB k) (hv : WnB v) :
    Calls Tryz.prog 10 #[.pointer (some ⟨q, 0, none⟩), .agg #[.int .i64 k.tail, .int .i64 k.tun, .int .i64 k.head, .int .i64 k.lsp], .agg #[.int .u64 (v.bw : Int), .int .i64 v.su, .int .i64 v.ho, .int .u32 (v.an : Int), .int .u32 (v.al : Int), .int .u32 (v.no : Int)]] w (Adt14 TabC S q sz (aAdmit sz l k v) w) := by
  obtain ⟨A, c, ht⟩ := h
  have HT := Lib.hid ht
  have HL64 := Lib.hid ht.tbl.len
  have hl1 : Below w.heap.size w ((w.alloc (.cells #[.int .i64 k.tail, .int .i64 k.tun, .int .i64 k.head, .int .i64 k.lsp] 25)).alloc (.cells #[.int .u64 (v.bw : Int), .int .i64 v.su, .int .i64 v.ho, .int .u32 (v.an : Int), .int .u32 (v.al : Int), .int .u32 (v.no : Int)] 29)) := bel_new (bel_new (Below.refl _ _) _) _
  have hb1 : Blk ((w.alloc (.cells #[.int .i64 k.tail, .int .i64 k.tun, .int .i64 k.head, .int .i64 k.lsp] 25)).alloc (.cells #[.int .u64 (v.bw : Int), .int .i64 v.su, .int .i64 v.ho, .int .u32 (v.an : Int), .int .u32 (v.al : Int), .int .u32 (v.no : Int)] 29)) w.heap.size 25 (kyc k) := (Blk.new w _ (kyc k)).alloc _
  have hb2 : Blk ((w.alloc (.cells #[.int .i64 k.tail, .int .i64 k.tun, .int .i64 k.head, .int .i64 k.lsp] 25)).alloc (.cells #[.int .u64 (v.bw : Int), .int .i64 v.su, .int .i64 v.ho, .int .u32 (v.an : Int), .int .u32 (v.al : Int), .int .u32 (v.no : Int)] 29)) (w.heap.size + 1) 29 (wnc v) := by
    have := Blk.new (w.alloc (.cells #[.int .i64 k.tail, .int .i64 k.tun, .int .i64 k.head, .int .i64 k.lsp] 25)) 29 (wnc v)
    rw [show (w.alloc (.cells #[.int .i64 k.tail, .int .i64 k.tun, .int .i64 k.head, .int .i64 k.lsp] 25)).heap.size = w.heap.size + 1 by simp] at this
    exact this
  have L1 := Lib.hid hl1
  have KB1 := Lib.hid hb1
  have WB1 := Lib.hid hb2
  have HKV := Lib.hid (And.intro hk hv)
  have hR : ∃ R, aAdmit sz l k v = R := ⟨_, rfl⟩
  obtain ⟨R, hR⟩ := hR
  rw [hR]
  have HR := Lib.hid hR
  have HRI := Lib.hid (fun W => right12_calls v W)
  unfold Adt14
  clear ht hl1 hb1 hb2 hk hv hR
  go_enter Tryz.func10, Tryz.ntmps10
  go_upto_region 1 with fail
  generalize (w.alloc (.cells #[.int .i64 k.tail, .int .i64 k.tun, .int .i64 k.head, .int .i64 k.lsp] 25)).alloc (.cells #[.int .u64 (v.bw : Int), .int .i64 v.su, .int .i64 v.ho, .int .u32 (v.an : Int), .int .u32 (v.al : Int), .int .u32 (v.no : Int)] 29) = w1 at *
  have T1 := Lib.hid (HT.out.below L1.out)
  have hmade := made14_calls q true w1 (T1.out.blk.cell 0)
  go_wp2_with fail
  ((with_reducible refine hmade.mono ?_))
  rintro e w2 ⟨rfl, h9⟩
  rw [h9]
  clear h9 w2 hmade
  have v0 : w1.cell? ⟨w.heap.size + 1, 0, none⟩ = some (.int .u64 (v.bw : Int)) := WB1.out.cell 0
  have v1 : w1.cell? ⟨w.heap.size + 1, 1, none⟩ = some (.int .i64 v.su) := WB1.out.cell 1
  have v2 : w1.cell? ⟨w.heap.size + 1, 2, none⟩ = some (.int .i64 v.ho) := WB1.out.cell 2
  have v3 : w1.cell? ⟨w.heap.size + 1, 3, none⟩ = some (.int .u32 (v.an : Int)) := WB1.out.cell 3
  have v4 : w1.cell? ⟨w.heap.size + 1, 4, none⟩ = some (.int .u32 (v.al : Int)) := WB1.out.cell 4
  have v5 : w1.cell? ⟨w.heap.size + 1, 5, none⟩ = some (.int .u32 (v.no : Int)) := WB1.out.cell 5
  go_wp2_with fail
  ((with_reducible refine (HRI.out w1).mono ?_))
  rintro e w2 ⟨rfl, hb⟩
  have L2 := Lib.hid (L1.out.trans (hb.mono L1.out.size))
  have KB2 := Lib.hid (KB1.out.below hb)
  have WB2 := Lib.hid (WB1.out.below hb)
  have T2 := Lib.hid (T1.out.below hb)
  clear hb v0 v1 v2 v3 v4 v5 L1 KB1 WB1 T1 HRI
  obtain ⟨rg, hrg⟩ : ∃ rg, wRight v = rg := ⟨_, rfl⟩
  have HRG := Lib.hid hrg
  rw [hrg]
  clear hrg
  cases rg with
  | false =>
    have HR2 := Lib.hid (show R = (l, [], 2) by rw [← HR.out]; unfold aAdmit; rw [if_pos HRG.out])
    go_wp2_with fail
    refine bodyPost_ret (v := .tuple #[.slice none 0 0, .int .i64 2]) (by simp [results, Tryz.results10, go_sem]) rfl ?_
    rw [HR2.out]
    exact ⟨S, none, 0, rfl, ⟨A, c, T2.out⟩, Mv14.of_below L2.out, RowT.nil⟩
  | true =>
    have k0 : w2.cell? ⟨w.heap.size, 0, none⟩ = some (.int .i64 k.tail) := KB2.out.cell 0
    have k1 : w2.cell? ⟨w.heap.size, 1, none⟩ = some (.int .i64 k.tun) := KB2.out.cell 1
    have k2 : w2.cell? ⟨w.heap.size, 2, none⟩ = some (.int .i64 k.head) := KB2.out.cell 2
    have k3 : w2.cell? ⟨w.heap.size, 3, none⟩ = some (.int .i64 k.lsp) := KB2.out.cell 3
    have hf := find14c_calls q l.length c A l k w2 (T2.out.blk.cell 2) T2.out.row (by have := HL64.out; omega)
    have hidx := idx_has (l := l) (k := k)
    obtain ⟨r, hr⟩ : ∃ r, idxF (fun x => decide (x.k = k)) l = r := ⟨_, rfl⟩
    rw [hr] at hf hidx
    have HF := Lib.hid hf
    have HIX := Lib.hid hidx
    clear hf hidx hr
    go_wp2_with fail
    ((with_reducible refine HF.out.mono ?_))
    rintro e w3 ⟨rfl, hb⟩
    have L3 := Lib.hid (L2.out.trans (hb.mono L2.out.size))
    have KB3 := Lib.hid (KB2.out.below hb)
    have WB3 := Lib.hid (WB2.out.below hb)
    have T3 := Lib.hid (T2.out.below hb)
    clear hb k0 k1 k2 k3 L2 KB2 WB2 T2 HF
    by_cases hh : has14 l k = true
    · have g1 : 0 ≤ r := HIX.out.2 hh
      have HR2 := Lib.hid (show R = (l, [], 9) by rw [← HR.out]; unfold aAdmit; rw [if_neg (by rw [HRG.out]; simp), if_pos hh])
      clear hh
      go_wp2_with fail
      refine bodyPost_ret (v := .tuple #[.slice none 0 0, .int .i64 9]) (by simp [results, Tryz.results10, go_sem]) rfl ?_
      rw [HR2.out]
      exact ⟨S, none, 0, rfl, ⟨A, c, T3.out⟩, Mv14.of_below L3.out, RowT.nil⟩
    · have g1 : ¬ 0 ≤ r := fun h9 => hh (HIX.out.1 h9)
      have HH := Lib.hid (show has14 l k = false by simpa using hh)
      have t2 : w3.cell? ⟨q, 2, none⟩ = some (.slice A l.length c) := T3.out.blk.cell 2
      obtain ⟨N, hN⟩ : ∃ N, l.length = N := ⟨_, rfl⟩
      rw [hN] at t2
      have HN := Lib.hid hN
      clear hh hN
      by_cases hl : 64 ≤ N
      · have g2 : (64 : Int) ≤ (N : Int) := by omega
        have HR2 := Lib.hid (show R = (l, [], 7) by rw [← HR.out]; unfold aAdmit; rw [if_neg (by rw [HRG.out]; simp), if_neg (by rw [HH.out]; simp), if_pos (by rw [HN.out]; exact hl)])
        clear hl
        go_wp2_with fail
        refine bodyPost_ret (v := .tuple #[.slice none 0 0, .int .i64 7]) (by simp [results, Tryz.results10, go_sem]) rfl ?_
        rw [HR2.out]
        exact ⟨S, none, 0, rfl, ⟨A, c, T3.out⟩, Mv14.of_below L3.out, RowT.nil⟩
      · have g2 : ¬ (64 : Int) ≤ (N : Int) := by omega
        have HR2 := Lib.hid (show enr sz l ⟨k, v⟩ = R by rw [← HR.out]; unfold aAdmit enr; rw [if_neg (by rw [HRG.out]; simp), if_neg (by rw [HH.out]; simp), if_neg (by rw [HN.out]; exact hl)]; rfl)
        have hen := enter14_calls q sz l S ⟨k, v⟩ w3 ⟨A, c, T3.out⟩ HRG.out HH.out (by rw [HN.out]; omega) HKV.out
        rw [HR2.out] at hen
        unfold Adt14 at hen
        have HEN := Lib.hid (show Calls Tryz.prog 20 #[.pointer (some ⟨q, 0, none⟩), .agg #[.int .i64 k.tail, .int .i64 k.tun, .int .i64 k.head, .int .i64 k.lsp, .int .u64 (v.bw : Int), .int .i64 v.su, .int .i64 v.ho, .int .u32 (v.an : Int), .int .u32 (v.al : Int), .int .u32 (v.no : Int)]] w3 _ from hen)
        have k0 : w3.cell? ⟨w.heap.size, 0, none⟩ = some (.int .i64 k.tail) := KB3.out.cell 0
        have k1 : w3.cell? ⟨w.heap.size, 1, none⟩ = some (.int .i64 k.tun) := KB3.out.cell 1
        have k2 : w3.cell? ⟨w.heap.size, 2, none⟩ = some (.int .i64 k.head) := KB3.out.cell 2
        have k3 : w3.cell? ⟨w.heap.size, 3, none⟩ = some (.int .i64 k.lsp) := KB3.out.cell 3
        have v0 : w3.cell? ⟨w.heap.size + 1, 0, none⟩ = some (.int .u64 (v.bw : Int)) := WB3.out.cell 0
        have v1 : w3.cell? ⟨w.heap.size + 1, 1, none⟩ = some (.int .i64 v.su) := WB3.out.cell 1
        have v2 : w3.cell? ⟨w.heap.size + 1, 2, none⟩ = some (.int .i64 v.ho) := WB3.out.cell 2
        have v3 : w3.cell? ⟨w.heap.size + 1, 3, none⟩ = some (.int .u32 (v.an : Int)) := WB3.out.cell 3
        have v4 : w3.cell? ⟨w.heap.size + 1, 4, none⟩ = some (.int .u32 (v.al : Int)) := WB3.out.cell 4
        have v5 : w3.cell? ⟨w.heap.size + 1, 5, none⟩ = some (.int .u32 (v.no : Int)) := WB3.out.cell 5
        clear hl hen
        go_wp2_with fail
        ((with_reducible refine HEN.out.mono ?_))
        rintro e w4 ⟨S4, A4, c4, rfl, p4, m4, r4⟩
        have P4 := Lib.hid p4
        have M4 := Lib.hid ((Mv14.of_below L3.out).trans m4)
        have R4 := Lib.hid r4
        clear p4 m4 r4
        go_wp2_with fail
        refine bodyPost_ret (v := .tuple #[.slice A4 R.2.1.length c4, .int .i64 R.2.2]) (by simp [results, Tryz.results10, go_sem]) rfl ?_
        exact ⟨S4, A4, c4, rfl, P4.out, M4.out, R4.out⟩
theorem drop_erase {l : List Et} (hs : Srt14 l) {i : Nat} (hi : i < l.length) {k : Ky} (hk : l[i].k = k) : l.filter (fun x => decide (x.k ≠ k)) = l.eraseIdx i := by
  subst hk
  have h : (l.map (·.k)).Nodup := List.Pairwise.imp (fun {a b} hab => kBef_ne hab) (ky_pairwise hs)
  rw [← erase_filter (fun x : Et => x.k) l i hi h]
  refine List.filter_congr fun x _ => ?_
  by_cases e : x.k = l[i].k
  · simp [e]
  · simp [e]
set_option maxHeartbeats 6400000 in
theorem drop14_calls (q sz : Nat) (l : List Et) (S : List Nat) (k : Ky) (w : World) (h : TabC w q sz l S) (hk : KyB k) :
    Calls Tryz.prog 8 #[.pointer (some ⟨q, 0, none⟩), .agg #[.int .i64 k.tail, .int .i64 k.tun, .int .i64 k.head, .int .i64 k.lsp]] w (Drt14 TabC S q sz (aDrop l k) w) := by
  obtain ⟨A, c, ht⟩ := h
  have HT := Lib.hid ht
  have HL64 := Lib.hid ht.tbl.len
  have hl1 : Below w.heap.size w (w.alloc (.cells #[.int .i64 k.tail, .int .i64 k.tun, .int .i64 k.head, .int .i64 k.lsp] 25)) := bel_new (Below.refl _ _) _
  have hb1 : Blk (w.alloc (.cells #[.int .i64 k.tail, .int .i64 k.tun, .int .i64 k.head, .int .i64 k.lsp] 25)) w.heap.size 25 (kyc k) := Blk.new w _ (kyc k)
  have L1 := Lib.hid hl1
  have KB1 := Lib.hid hb1
  obtain ⟨R, hR⟩ : ∃ R, aDrop l k = R := ⟨_, rfl⟩
  rw [hR]
  have HR := Lib.hid hR
  unfold Drt14
  clear ht hl1 hb1 hk hR
  go_enter Tryz.func8, Tryz.ntmps8
  go_upto_region 1 with fail
  generalize w.alloc (.cells #[.int .i64 k.tail, .int .i64 k.tun, .int .i64 k.head, .int .i64 k.lsp] 25) = w1 at *
  have T1 := Lib.hid (HT.out.below L1.out)
  have hmade := made14_calls q true w1 (T1.out.blk.cell 0)
  go_wp2_with fail
  ((with_reducible refine hmade.mono ?_))
  rintro e w2 ⟨rfl, h9⟩
  rw [h9]
  clear h9 w2 hmade
  have k0 : w1.cell? ⟨w.heap.size, 0, none⟩ = some (.int .i64 k.tail) := KB1.out.cell 0
  have k1 : w1.cell? ⟨w.heap.size, 1, none⟩ = some (.int .i64 k.tun) := KB1.out.cell 1
  have k2 : w1.cell? ⟨w.heap.size, 2, none⟩ = some (.int .i64 k.head) := KB1.out.cell 2
  have k3 : w1.cell? ⟨w.heap.size, 3, none⟩ = some (.int .i64 k.lsp) := KB1.out.cell 3
  have hf := find14c_calls q l.length c A l k w1 (T1.out.blk.cell 2) T1.out.row (by have := HL64.out; omega)
  have hidx := idxF_cases (fun x : Et => decide (x.k = k)) l
  obtain ⟨r, hr⟩ : ∃ r, idxF (fun x => decide (x.k = k)) l = r := ⟨_, rfl⟩
  rw [hr] at hf hidx
  have HF := Lib.hid hf
  have HIX := Lib.hid hidx
  clear hf hidx hr
  go_wp2_with fail
  ((with_reducible refine HF.out.mono ?_))
  rintro e w3 ⟨rfl, hb⟩
  have L3 := Lib.hid (L1.out.trans (hb.mono L1.out.size))
  have T3 := Lib.hid (T1.out.below hb)
  clear hb k0 k1 k2 k3 L1 KB1 T1 HF
  rcases HIX.out with ⟨rfl, hno⟩ | ⟨i, hi, rfl, hyes, _⟩
  · have HR2 := Lib.hid (show R = (l, 8) by
      rw [← HR.out]; unfold aDrop
      rw [if_neg]
      rw [Bool.not_eq_true, has14_false]
      exact fun x hx e => by have := hno x hx; simp [e] at this)
    clear hno
    go_wp2_with fail
    go_ret
    rw [HR2.out]
    exact ⟨S, rfl, ⟨A, c, T3.out⟩, Mv14.of_below L3.out⟩
  · have hik : l[i].k = k := by simpa using hyes
    have HR2 := Lib.hid (show R = (l.eraseIdx i, 0) by
      rw [← HR.out]; unfold aDrop
      rw [if_pos (has14_iff.2 ⟨l[i], List.getElem_mem hi, hik⟩), drop_erase HT.out.tbl.srt hi hik])
    have htb : Tbl14 sz (l.eraseIdx i) := by
      have := tbl_drop HT.out.tbl k
      rw [HR.out, HR2.out] at this
      exact this
    obtain ⟨g, rfl⟩ := T3.out.acc.at0 (by omega : 0 < l.length)
    obtain ⟨m, hm⟩ : ∃ m, l.length = m + 1 := ⟨l.length - 1, by omega⟩
    have hdel := deletee14_calls g c m i 0 l w3 T3.out.acc hm hi (by have := HL64.out; omega)
    obtain ⟨i', hi'⟩ : ∃ i', i + 1 = i' := ⟨_, rfl⟩
    rw [hi'] at hdel
    have HDEL := Lib.hid hdel
    have t2 : w3.cell? ⟨q, 2, none⟩ = some (.slice (some ⟨g, 0, none⟩) (m + 1) c) := by rw [← hm]; exact T3.out.blk.cell 2
    have i1 : ¬ (i : Int) < 0 := by omega
    have i3 : IntKind.i64.wrap ((i : Int) + 1) = (i' : Int) := by have := HL64.out; rw [IntWalk.i64_in _ (by omega)]; omega
    have HTB := Lib.hid htb
    have HER := Lib.hid (show (l.eraseIdx i).length = m by rw [List.length_eraseIdx, if_pos hi]; omega)
    have HGQ := Lib.hid (T3.out.ne g rfl)
    clear hik htb hdel hi' hm hyes
    go_wp2_with fail
    ((with_reducible refine HDEL.out.mono ?_))
    rintro e w4 ⟨rfl, hacc, hgr⟩
    have A4 := Lib.hid hacc
    have B4 := Lib.hid (blk_kept14 T3.out.blk hgr (fun e => HGQ.out e.symm))
    have HS := Lib.hid T3.out.own
    have HM4 := Lib.hid (show Turn S w w4 from ((Mv14.of_below (S := S) L3.out).turn).trans (Turn.of_grown hgr (by rw [T3.out.own]; simp [blk])))
    have c2 : w4.cell? ⟨q, 2, none⟩ = some (.slice (some ⟨g, 0, none⟩) l.length c) := B4.out.cell 2
    have f2 := B4.out.free 2
    clear hacc hgr HDEL t2
    go_upto_region 7 with fail
    have B5 := Lib.hid (show Blk (w4.setCell ⟨q, 2, none⟩ (.slice (some ⟨g, 0, none⟩) m c)) q 65 (tbc sz (some ⟨g, 0, none⟩) m c) from B4.out.set 2 (.slice (some ⟨g, 0, none⟩) m c))
    have hst : ∀ i, i ≠ q → (w4.setCell ⟨q, 2, none⟩ (.slice (some ⟨g, 0, none⟩) m c)).heap[i]? = w4.heap[i]? := fun i hi => Below.heap_setCell _ _ _ _ hi
    have A5 := Lib.hid (A4.out.keepB (w' := w4.setCell ⟨q, 2, none⟩ (.slice (some ⟨g, 0, none⟩) m c)) fun j hj => hst j (by cases hj; exact HGQ.out))
    have HM5 := Lib.hid (show Turn S w (w4.setCell ⟨q, 2, none⟩ (.slice (some ⟨g, 0, none⟩) m c)) from ⟨HM4.out.os, HM4.out.tape, HM4.out.output, by simpa using HM4.out.size, fun i hi hS => by
      rw [hst i (fun e => hS (by rw [e, HS.out]; exact List.mem_cons_self))]
      exact HM4.out.block i hi hS⟩)
    clear hst c2 f2
    generalize w4.setCell ⟨q, 2, none⟩ (.slice (some ⟨g, 0, none⟩) m c) = w5 at *
    go_wp2_with fail
    go_ret
    rw [HR2.out]
    exact ⟨S, rfl, ⟨some ⟨g, 0, none⟩, c, ⟨by rw [HER.out]; exact B5.out, A5.out, HT.out.ne, HS.out, HTB.out, fun x hx => HT.out.bw x (List.mem_of_mem_eraseIdx hx), HT.out.sz⟩⟩, ⟨HM5.out, fun b hb => .inl hb⟩⟩
end Go.Proofs.YtjflbfianncpfaaGreat

namespace Go.Proofs.YtjflbfianncpfaaGreat
set_option maxRecDepth 100000
set_option linter.unusedVariables false
open Go.RowKit

set_option maxHeartbeats 6400000 in
theorem ledger14c_calls (q sz : Nat) (l : List Et) (S : List Nat) (w : World) (h : TabC w q sz l S) :
    Calls Tryz.prog 5 #[.pointer (some ⟨q, 0, none⟩)] w (Lgt14 TabC S q sz l w) := by
  obtain ⟨A, c, ht⟩ := h
  have HT := Lib.hid ht
  obtain ⟨cs, hcs⟩ : ∃ cs, lgc (ledgOf sz (fams l)) = cs := ⟨_, rfl⟩
  have hho := fams_ho ht.tbl.srt ht.tbl.rgt
  have hlk : LgOk (ledgOf sz (fams l)) := ledgOf_ok hho ht.sz (by have := ht.tbl.fit; have := ht.sz; omega)
  have HNR := Lib.hid (show (Tryz.prog.info? 38).map (·.size) = some cs.length by rw [← hcs, lgc_length hlk]; exact infoLedgL)
  have HZR := Lib.hid (show ([.int .u64 0, .int .u64 0, .int .u64 0, .int .u64 0, .int .u64 0, .int .u64 0, .int .u64 0, .int .u64 0, .int .u64 0] : List Value).length = cs.length by rw [← hcs, lgc_length hlk]; rfl)
  have HOR := Lib.hid (show ∀ u ∈ cs, u.oneCell' = true by rw [← hcs]; exact lgc_one _)
  have hl1 : Below w.heap.size w (w.alloc (.cells #[.int .u64 0, .int .u64 0, .int .u64 0, .int .u64 0, .int .u64 0, .int .u64 0, .int .u64 0, .int .u64 0, .int .u64 0] 38)) := bel_new (Below.refl _ _) _
  have L1 := Lib.hid hl1
  have R1 := Lib.hid (show Blk (w.alloc (.cells #[.int .u64 0, .int .u64 0, .int .u64 0, .int .u64 0, .int .u64 0, .int .u64 0, .int .u64 0, .int .u64 0, .int .u64 0] 38)) w.heap.size 38 [.int .u64 0, .int .u64 0, .int .u64 0, .int .u64 0, .int .u64 0, .int .u64 0, .int .u64 0, .int .u64 0, .int .u64 0] from Blk.new w _ _)
  unfold Lgt14
  rw [hcs]
  have HBO : Hid (∀ (A3 : Option Addr) (c3 : Nat) (fs : List SF) (wa wb : World), AccR sfc 1 wb wa.heap.size 99 A3 c3 fs → Sfs wb wa.heap.size fs → Grp l (fs.map (·.g)) → wa.heap.size ≤ wb.heap.size → ∀ W, Below wb.heap.size wb W → Calls Tryz.prog 14 #[.int .u64 (sz : Int), .slice A3 fs.length c3] W fun e w' => e = .returned (.tuple #[.agg cs.toArray, .bool true]) ∧ Below W.heap.size W w') := by
    intro A3 c3 fs wa wb hacc hsf hgrp hsz W hW
    have hlen : fs.length ≤ 64 := by
      have := hgrp.length
      rw [List.length_map] at this
      have := HT.out.tbl.len
      omega
    have hfo : Fof fs = fams l := by rw [Fof_grp, hgrp.fams]
    have hb := book14_calls sz HT.out.sz A3 fs.length c3 fs W ((hacc.row.below hW).more hW.size) ((hsf.more hsz |>.below hW).more hW.size) (by omega) (by rw [hfo]; exact hho) (by
      rw [hfo]
      intro f hf
      obtain ⟨y, hy, _, e⟩ := (fams_ok HT.out.tbl.srt).fms.from_ f hf
      rw [← e]
      exact (HT.out.bw y hy).2.1)
    rw [hfo] at hb
    have hfit := HT.out.tbl.fit
    unfold bookL at hb
    rw [if_pos hfit, decide_eq_true hfit, hcs] at hb
    exact hb
  have HFA : Hid (∀ W, Below (w.alloc (.cells #[.int .u64 0, .int .u64 0, .int .u64 0, .int .u64 0, .int .u64 0, .int .u64 0, .int .u64 0, .int .u64 0, .int .u64 0] 38)).heap.size (w.alloc (.cells #[.int .u64 0, .int .u64 0, .int .u64 0, .int .u64 0, .int .u64 0, .int .u64 0, .int .u64 0, .int .u64 0, .int .u64 0] 38)) W → Calls Tryz.prog 15 #[.slice A l.length c] W (FamC14 l W)) := fun W hW =>
    families14_calls A l.length c l W (((HT.out.below (hl1.trans (hW.mono hl1.size))).row)) HT.out.acc.pla HT.out.acc.cap.1 (by have := HT.out.tbl.len; omega) HT.out.tbl.srt
  unfold FamC14 at HFA
  obtain ⟨N, hN⟩ : ∃ N, l.length = N := ⟨_, rfl⟩
  have HN := Lib.hid hN
  rw [hN] at HFA
  have T1 := Lib.hid (HT.out.below hl1)
  clear ht hcs hho hlk hl1 hN
  go_enter Tryz.func5, Tryz.ntmps5
  go_upto_region 1 with fail
  generalize w.alloc (.cells #[.int .u64 0, .int .u64 0, .int .u64 0, .int .u64 0, .int .u64 0, .int .u64 0, .int .u64 0, .int .u64 0, .int .u64 0] 38) = w1 at *
  have hmade := made14_calls q true w1 (T1.out.blk.cell 0)
  go_wp2_with fail
  ((with_reducible refine hmade.mono ?_))
  rintro e w2 ⟨rfl, h9⟩
  rw [h9]
  clear h9 w2 hmade
  go_upto_region 3 with fail
  go_cut [3] from 8 to 21 (fun s W => ∃ b : Nat, s = .pointer (some ⟨b, 0, none⟩) ∧ Blk W b 38 cs ∧ Below w1.heap.size w1 W ∧ w.heap.size < b)
  case first =>
    refine region_way (fun W => Below w1.heap.size w1 W) (.step 0 true (.step 1 true (.step 2 true (.step 3 true (.step 4 true (.step 5 true (.step 6 true (.step 7 true (.both 8 13 (.both 9 13 (.step 10 true (.step 11 true (.step 12 true (.step 13 false (.step 14 false (.step 15 true .done)))))) (.step 9 false (.step 10 true (.step 11 true (.step 12 true (.step 14 false (.step 15 true .done))))))) (.step 8 false (.step 9 false (.step 10 true (.step 11 true (.step 12 true (.step 14 false (.step 15 true .done))))))))))))))))
      (by kernel_rfl) (by kernel_rfl) (by kernel_rfl) (by kernel_rfl) (fun _ _ _ _ _ h => h) (Below.refl _ _).drew ?_
    repeat first
      | refine way_pure (v := ?_) rfl (by rfl) (fun W hW => ?_) ?_
        rotate_left
        · have t1 : W.cell? ⟨q, 1, none⟩ = some (.int .u64 (sz : Int)) := (T1.out.blk.below hW).cell 1
          have t2 : W.cell? ⟨q, 2, none⟩ = some (.slice A N c) := by rw [← HN.out]; exact (T1.out.blk.below hW).cell 2
          clear hW
          go_simp
          with_reducible rfl
        simp only [Act.put, List.setIfInBounds_toArray, List.set_cons_zero, List.set_cons_succ]
    have hbd : Below w1.heap.size w1 w1.drew := (Below.refl _ _).drew
    generalize w1.drew = v2 at hbd ⊢
    have SBv2 := Lib.hid hbd
    clear hbd
    refine way_both rfl (by rfl) rfl (by rfl) (fun K hK => ?_) (fun K hK => ?_)
    · skip
      go_simp
      ((with_reducible refine (HFA.out v2 SBv2.out).mono ?_))
      rintro e v3 ⟨A3, c3, fs, rfl, hacc, hsf, hgrp, hb⟩
      have SBv3 := Lib.hid (show Below w1.heap.size w1 v3 from SBv2.out.trans (hb.mono SBv2.out.size))
      have BOOK := Lib.hid (HBO.out A3 c3 fs v2 v3 hacc (hsf.below hb) hgrp hb.size)
      obtain ⟨M, hM⟩ : ∃ M, fs.length = M := ⟨_, rfl⟩
      rw [hM] at BOOK ⊢
      clear hM
      clear hb hacc hsf hgrp
      go_simp
      refine hK _ _ (fun W => Below w1.heap.size w1 W) (fun W h => h) SBv3.out ?_
      clear hK K
      refine way_both rfl (by rfl) rfl (by rfl) (fun K hK => ?_) (fun K hK => ?_)
      · skip
        go_simp
        ((with_reducible refine (BOOK.out v3 (Below.refl _ _)).mono ?_))
        rintro e v4 ⟨rfl, hb⟩
        have SBv4 := Lib.hid (show Below w1.heap.size w1 v4 from SBv3.out.trans (hb.mono SBv3.out.size))
        clear hb
        go_simp
        refine hK _ _ (fun W => Below w1.heap.size w1 W) (fun W h => h) SBv4.out ?_
        clear hK K
        repeat first
          | refine way_pure (v := ?_) rfl (by rfl) (fun W hW => ?_) ?_
            rotate_left
            · have t1 : W.cell? ⟨q, 1, none⟩ = some (.int .u64 (sz : Int)) := (T1.out.blk.below hW).cell 1
              have t2 : W.cell? ⟨q, 2, none⟩ = some (.slice A N c) := by rw [← HN.out]; exact (T1.out.blk.below hW).cell 2
              clear hW
              go_simp
              with_reducible rfl
            simp only [Act.put, List.setIfInBounds_toArray, List.set_cons_zero, List.set_cons_succ]
        refine way_make rfl (by rfl) (fun K hK => ?_)
        go_simp
        have hbn : Below v4.heap.size v4 (v4.alloc (.cells #[.int .u64 0, .int .u64 0, .int .u64 0, .int .u64 0, .int .u64 0, .int .u64 0, .int .u64 0, .int .u64 0, .int .u64 0] 38)) := bel_new (Below.refl _ _) _
        have hpn : Blk (v4.alloc (.cells #[.int .u64 0, .int .u64 0, .int .u64 0, .int .u64 0, .int .u64 0, .int .u64 0, .int .u64 0, .int .u64 0, .int .u64 0] 38)) v4.heap.size 38 [.int .u64 0, .int .u64 0, .int .u64 0, .int .u64 0, .int .u64 0, .int .u64 0, .int .u64 0, .int .u64 0, .int .u64 0] := Blk.new _ _ _
        have hqn : w1.heap.size ≤ v4.heap.size := SBv4.out.size
        generalize v4.alloc (.cells #[.int .u64 0, .int .u64 0, .int .u64 0, .int .u64 0, .int .u64 0, .int .u64 0, .int .u64 0, .int .u64 0, .int .u64 0] 38) = v5 at *
        have SBv5 := Lib.hid (show Below w1.heap.size w1 v5 from SBv4.out.trans (hbn.mono SBv4.out.size))
        generalize v4.heap.size = qN at *
        have Nv5 := Lib.hid hpn
        have QN := Lib.hid hqn
        clear hbn hpn hqn
        refine hK _ _ (fun W => Below w1.heap.size w1 W) (fun W h => h) SBv5.out ?_
        clear hK K
        refine way_make rfl (by rfl) (fun K hK => ?_)
        refine wp_store8 (vs := cs) rfl rfl rfl Nv5.out HNR.out HZR.out HOR.out ?_
        intro v6 hbs hgs hss
        have SBv6 := Lib.hid (show Below w1.heap.size w1 v6 from bel_upd SBv5.out hgs (Nat.le_refl _) QN.out)
        have Nv6 := Lib.hid hbs
        clear hbs hgs hss
        refine hK _ _ (fun W => Below w1.heap.size w1 W) (fun W h => h) SBv6.out ?_
        clear hK K
        repeat first
          | refine way_pure (v := ?_) rfl (by rfl) (fun W hW => ?_) ?_
            rotate_left
            · have t1 : W.cell? ⟨q, 1, none⟩ = some (.int .u64 (sz : Int)) := (T1.out.blk.below hW).cell 1
              have t2 : W.cell? ⟨q, 2, none⟩ = some (.slice A N c) := by rw [← HN.out]; exact (T1.out.blk.below hW).cell 2
              clear hW
              go_simp
              with_reducible rfl
            simp only [Act.put, List.setIfInBounds_toArray, List.set_cons_zero, List.set_cons_succ]
        refine way_done ?_
        go_wp2_with fail
        go_meet
        exact ⟨_, rfl, Nv6.out, SBv6.out, by have := R1.out.lt; have := QN.out; omega⟩
      · skip
        go_simp
        have hbn : Below v3.heap.size v3 (v3.alloc (.cells #[.int .u64 0, .int .u64 0, .int .u64 0, .int .u64 0, .int .u64 0, .int .u64 0, .int .u64 0, .int .u64 0, .int .u64 0] 38)) := bel_new (Below.refl _ _) _
        have hpn : Blk (v3.alloc (.cells #[.int .u64 0, .int .u64 0, .int .u64 0, .int .u64 0, .int .u64 0, .int .u64 0, .int .u64 0, .int .u64 0, .int .u64 0] 38)) v3.heap.size 38 [.int .u64 0, .int .u64 0, .int .u64 0, .int .u64 0, .int .u64 0, .int .u64 0, .int .u64 0, .int .u64 0, .int .u64 0] := Blk.new _ _ _
        have hqn : w1.heap.size ≤ v3.heap.size := SBv3.out.size
        generalize v3.alloc (.cells #[.int .u64 0, .int .u64 0, .int .u64 0, .int .u64 0, .int .u64 0, .int .u64 0, .int .u64 0, .int .u64 0, .int .u64 0] 38) = v7 at *
        have SBv7 := Lib.hid (show Below w1.heap.size w1 v7 from SBv3.out.trans (hbn.mono SBv3.out.size))
        have FBv7 := Lib.hid (show Below v3.heap.size v3 v7 from hbn)
        obtain ⟨qN, hqN⟩ : ∃ qN, v3.heap.size = qN := ⟨_, rfl⟩
        rw [hqN] at hpn hqn ⊢
        clear hqN
        have Nv7 := Lib.hid hpn
        have QN := Lib.hid hqn
        clear hbn hpn hqn
        refine hK _ _ (fun W => Below w1.heap.size w1 W) (fun W h => h) SBv7.out ?_
        clear hK K
        refine way_make rfl (by rfl) (fun K hK => ?_)
        go_simp
        ((with_reducible refine (BOOK.out v7 FBv7.out).mono ?_))
        rintro e v8 ⟨rfl, hb⟩
        have SBv8 := Lib.hid (show Below w1.heap.size w1 v8 from SBv7.out.trans (hb.mono SBv7.out.size))
        have Nv8 := Lib.hid (Nv7.out.below hb)
        clear hb
        go_simp
        refine hK _ _ (fun W => Below w1.heap.size w1 W) (fun W h => h) SBv8.out ?_
        clear hK K
        repeat first
          | refine way_pure (v := ?_) rfl (by rfl) (fun W hW => ?_) ?_
            rotate_left
            · have t1 : W.cell? ⟨q, 1, none⟩ = some (.int .u64 (sz : Int)) := (T1.out.blk.below hW).cell 1
              have t2 : W.cell? ⟨q, 2, none⟩ = some (.slice A N c) := by rw [← HN.out]; exact (T1.out.blk.below hW).cell 2
              clear hW
              go_simp
              with_reducible rfl
            simp only [Act.put, List.setIfInBounds_toArray, List.set_cons_zero, List.set_cons_succ]
        refine way_make rfl (by rfl) (fun K hK => ?_)
        refine wp_store8 (vs := cs) rfl rfl rfl Nv8.out HNR.out HZR.out HOR.out ?_
        intro v9 hbs hgs hss
        have SBv9 := Lib.hid (show Below w1.heap.size w1 v9 from bel_upd SBv8.out hgs (Nat.le_refl _) QN.out)
        have Nv9 := Lib.hid hbs
        clear hbs hgs hss
        refine hK _ _ (fun W => Below w1.heap.size w1 W) (fun W h => h) SBv9.out ?_
        clear hK K
        repeat first
          | refine way_pure (v := ?_) rfl (by rfl) (fun W hW => ?_) ?_
            rotate_left
            · have t1 : W.cell? ⟨q, 1, none⟩ = some (.int .u64 (sz : Int)) := (T1.out.blk.below hW).cell 1
              have t2 : W.cell? ⟨q, 2, none⟩ = some (.slice A N c) := by rw [← HN.out]; exact (T1.out.blk.below hW).cell 2
              clear hW
              go_simp
              with_reducible rfl
            simp only [Act.put, List.setIfInBounds_toArray, List.set_cons_zero, List.set_cons_succ]
        refine way_done ?_
        go_wp2_with fail
        go_meet
        exact ⟨_, rfl, Nv9.out, SBv9.out, by have := R1.out.lt; have := QN.out; omega⟩
    · skip
      go_simp
      have hbn : Below v2.heap.size v2 (v2.alloc (.cells #[.int .u64 0, .int .u64 0, .int .u64 0, .int .u64 0, .int .u64 0, .int .u64 0, .int .u64 0, .int .u64 0, .int .u64 0] 38)) := bel_new (Below.refl _ _) _
      have hpn : Blk (v2.alloc (.cells #[.int .u64 0, .int .u64 0, .int .u64 0, .int .u64 0, .int .u64 0, .int .u64 0, .int .u64 0, .int .u64 0, .int .u64 0] 38)) v2.heap.size 38 [.int .u64 0, .int .u64 0, .int .u64 0, .int .u64 0, .int .u64 0, .int .u64 0, .int .u64 0, .int .u64 0, .int .u64 0] := Blk.new _ _ _
      have hqn : w1.heap.size ≤ v2.heap.size := SBv2.out.size
      generalize v2.alloc (.cells #[.int .u64 0, .int .u64 0, .int .u64 0, .int .u64 0, .int .u64 0, .int .u64 0, .int .u64 0, .int .u64 0, .int .u64 0] 38) = v10 at *
      have SBv10 := Lib.hid (show Below w1.heap.size w1 v10 from SBv2.out.trans (hbn.mono SBv2.out.size))
      generalize v2.heap.size = qN at *
      have Nv10 := Lib.hid hpn
      have QN := Lib.hid hqn
      clear hbn hpn hqn
      refine hK _ _ (fun W => Below w1.heap.size w1 W) (fun W h => h) SBv10.out ?_
      clear hK K
      refine way_make rfl (by rfl) (fun K hK => ?_)
      go_simp
      ((with_reducible refine (HFA.out v10 SBv10.out).mono ?_))
      rintro e v11 ⟨A3, c3, fs, rfl, hacc, hsf, hgrp, hb⟩
      have SBv11 := Lib.hid (show Below w1.heap.size w1 v11 from SBv10.out.trans (hb.mono SBv10.out.size))
      have BOOK := Lib.hid (HBO.out A3 c3 fs v10 v11 hacc (hsf.below hb) hgrp hb.size)
      obtain ⟨M, hM⟩ : ∃ M, fs.length = M := ⟨_, rfl⟩
      rw [hM] at BOOK ⊢
      clear hM
      have Nv11 := Lib.hid (Nv10.out.below hb)
      clear hb hacc hsf hgrp
      go_simp
      refine hK _ _ (fun W => Below w1.heap.size w1 W) (fun W h => h) SBv11.out ?_
      clear hK K
      refine way_make rfl (by rfl) (fun K hK => ?_)
      go_simp
      ((with_reducible refine (BOOK.out v11 (Below.refl _ _)).mono ?_))
      rintro e v12 ⟨rfl, hb⟩
      have SBv12 := Lib.hid (show Below w1.heap.size w1 v12 from SBv11.out.trans (hb.mono SBv11.out.size))
      have Nv12 := Lib.hid (Nv11.out.below hb)
      clear hb
      go_simp
      refine hK _ _ (fun W => Below w1.heap.size w1 W) (fun W h => h) SBv12.out ?_
      clear hK K
      repeat first
        | refine way_pure (v := ?_) rfl (by rfl) (fun W hW => ?_) ?_
          rotate_left
          · have t1 : W.cell? ⟨q, 1, none⟩ = some (.int .u64 (sz : Int)) := (T1.out.blk.below hW).cell 1
            have t2 : W.cell? ⟨q, 2, none⟩ = some (.slice A N c) := by rw [← HN.out]; exact (T1.out.blk.below hW).cell 2
            clear hW
            go_simp
            with_reducible rfl
          simp only [Act.put, List.setIfInBounds_toArray, List.set_cons_zero, List.set_cons_succ]
      refine way_make rfl (by rfl) (fun K hK => ?_)
      refine wp_store8 (vs := cs) rfl rfl rfl Nv12.out HNR.out HZR.out HOR.out ?_
      intro v13 hbs hgs hss
      have SBv13 := Lib.hid (show Below w1.heap.size w1 v13 from bel_upd SBv12.out hgs (Nat.le_refl _) QN.out)
      have Nv13 := Lib.hid hbs
      clear hbs hgs hss
      refine hK _ _ (fun W => Below w1.heap.size w1 W) (fun W h => h) SBv13.out ?_
      clear hK K
      repeat first
        | refine way_pure (v := ?_) rfl (by rfl) (fun W hW => ?_) ?_
          rotate_left
          · have t1 : W.cell? ⟨q, 1, none⟩ = some (.int .u64 (sz : Int)) := (T1.out.blk.below hW).cell 1
            have t2 : W.cell? ⟨q, 2, none⟩ = some (.slice A N c) := by rw [← HN.out]; exact (T1.out.blk.below hW).cell 2
            clear hW
            go_simp
            with_reducible rfl
          simp only [Act.put, List.setIfInBounds_toArray, List.set_cons_zero, List.set_cons_succ]
      refine way_done ?_
      go_wp2_with fail
      go_meet
      exact ⟨_, rfl, Nv13.out, SBv13.out, by have := R1.out.lt; have := QN.out; omega⟩
  case rest =>
    obtain ⟨b, rfl, hb, hbl, hq⟩ := hcut
    have B3 := Lib.hid hb
    have R3 := Lib.hid (R1.out.below hbl)
    have L3 := Lib.hid (L1.out.trans (hbl.mono L1.out.size))
    clear hb hbl
    go_wp2_with (first | ((with_reducible refine step_load (o := ⟨some 22, _, _, _, _, _⟩) (x := .tmp 3) ?_ ?_ ?_ B3.out Tryz.underlying38 ?_ HNR.out ?_); (rfl); (rfl); (rfl); (rfl)) | ((with_reducible refine step_store (o := ⟨none, _, _, _, _, _⟩) (vs := cs) (ty := 38) (x := .tmp 2) (y := .tmp 22) ?_ ?_ ?_ ?_ R3.out HNR.out HZR.out HOR.out ?_); (rfl); (rfl); (rfl); (rfl); intro w4 hb5 hg5 hs5))
    refine bodyPost_ret (v := .agg cs.toArray) (results_one8 rfl _ rfl hb5 Tryz.underlying38 rfl HNR.out) rfl ?_
    have hl4 : Below w.heap.size w w4 := bel_upd L3.out hg5 (Nat.le_refl _) (Nat.le_refl _)
    exact ⟨S, rfl, ⟨A, c, HT.out.below hl4⟩, Mv14.of_below hl4⟩
end Go.Proofs.YtjflbfianncpfaaGreat
