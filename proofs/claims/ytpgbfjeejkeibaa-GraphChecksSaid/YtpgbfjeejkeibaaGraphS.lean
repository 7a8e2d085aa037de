/-
  Contracts of package graph: Reach. Condition: at most 2^30 links.
-/
import Derived.Test.YtpgbfjeejkeibaaGraphR
import Derived.Test.YtpgbfjeejkeibaaGraphD
namespace Go.Proofs.Ytpgbfjeejkeibaa
open Go.RowKit

theorem infoBoolG : (Try.prog.info? 4).map (fun i => (i.zero, i.size, i.bytes)) = some (some (.bool false), 1, 1) := by kernel_rfl
theorem make_bools (n : Nat) (hn : n ≤ 1099511627776) (W : World) : (Instr.makeSlice 39 (.int .i64 (n : Int)) (.int .i64 (n : Int))).run Try.prog W =
      .ok (.slice (some ⟨W.heap.size, 0, none⟩) n n) (W.alloc (.cells (Array.replicate n (Value.bool false)) 4)) := by
  have h := run_make_row' (P := Try.prog) 39 4 (.bool false) 1 Try.underlying39 infoBoolG rfl .i64 .i64 n (by omega) (by omega) W
  have hm : madeCells (Value.bool false).cells n = Array.replicate n (Value.bool false) := by
    apply Array.ext
    · simp [madeCells]
    · intro i h1 h2
      simp [madeCells, Value.cells, Nat.mod_one]
  rw [← hm]
  exact h
/-- Marks in a block. -/
def Mks (w : World) (q : Nat) (bs : List Bool) : Prop := Blk w q 4 (bs.map Value.bool)
theorem Mks.cell {w : World} {q : Nat} {bs : List Bool} (h : Mks w q bs) (x : Int) (h0 : 0 ≤ x) (hx : x < bs.length) : w.cell? ⟨q, x.toNat, none⟩ = some (.bool (bat bs x)) := by
  have := Blk.cell h x.toNat
  rw [this, List.getElem?_map]
  have hk : x.toNat < bs.length := by omega
  simp [bat, List.getElem?_eq_getElem hk]
theorem Mks.set {w : World} {q : Nat} {bs : List Bool} (h : Mks w q bs) (k : Nat) : Mks (w.setCell ⟨q, k, none⟩ (.bool true)) q (bs.set k true) := by
  have := Blk.set h k (.bool true)
  unfold Mks
  rw [List.map_set]; exact this
/-- How many are not marked. -/
def cfW (w : World) (q : Nat) : Nat := match w.heap[q]? with
  | some (.cells cs _ _) => cs.toList.countP (fun v => match v with | .bool false => true | _ => false)
  | _ => 0
theorem Mks.count {w : World} {q : Nat} {bs : List Bool} (h : Mks w q bs) : cfW w q = bs.count false := by
  unfold cfW
  unfold Mks Blk at h
  rw [h]
  simp only
  rw [List.countP_map, List.count]
  congr 1
  funext b
  cases b <;> rfl
def lenS : Value → Nat
  | .slice _ n _ => n
  | _ => 0
/-- What Reach answers. -/
def RchPost (w : World) (n : Int) (L : List Lk) (a : Int) (e : Ending) (w' : World) : Prop :=
  Below w.heap.size w w' ∧ ((¬ (chk n L = 0 ∧ 0 ≤ a ∧ a < n) ∧ e = .returned (.slice none 0 0)) ∨
    (chk n L = 0 ∧ 0 ≤ a ∧ a < n ∧ ∃ (rb : Nat) (bs : List Bool), e = .returned (.slice (some ⟨rb, 0, none⟩) bs.length bs.length) ∧ w.heap.size ≤ rb ∧ Mks w' rb bs ∧ (bs.length : Int) = n ∧ ∀ x : Int, 0 ≤ x → x < n → (bat bs x = true ↔ Rch L a x)))
theorem chk_zero {n : Int} {L : List Lk} (h : chk n L = 0) : 1 ≤ n ∧ n ≤ 16 ∧ L.length ≤ 64 ∧ netB n L = true := by
  unfold chk at h
  split at h
  · split at h
    · omega
    · split at h
      · rename_i h1 h2 h3; exact ⟨h1.1, h1.2, by omega, h3⟩
      · omega
  · omega
/-- What of a node's links is still to be followed. -/
def Pend (L : List Lk) (o : List Int) (i : Nat) (z : Lk) : Prop := ∃ k ∈ o.drop i, L.getD k.toNat default = z
theorem pend_start {n : Nat} {L : List Lk} {a : Int} {bs : List Bool} {left o : List Int} {x : Int} (h : Srch n L a bs left (fun z => z.f = x)) (ho : OutsOk L x o) : Srch n L a bs left (Pend L o 0) :=
  h.weaken fun z hz hf => by
    obtain ⟨k, hk, rfl⟩ := List.mem_iff_getElem.1 hz
    have e : L.getD k default = L[k] := by simp [List.getD_eq_getElem?_getD, List.getElem?_eq_getElem hk]
    exact .inl ⟨(k : Int), by rw [List.drop_zero]; exact (ho.mem _).2 ⟨k, hk, by rw [e]; exact hf, rfl⟩, by simpa using e⟩
theorem pend_step {n : Nat} {L : List Lk} {a : Int} {bs : List Bool} {left o : List Int} {i : Nat} (h : Srch n L a bs left (Pend L o i)) (hi : i < o.length) (ht : bat bs (L.getD (o[i]).toNat default).t = true) : Srch n L a bs left (Pend L o (i + 1)) :=
  h.weaken fun z _ hp => by
    obtain ⟨k, hk, e⟩ := hp
    rw [List.drop_eq_getElem_cons hi] at hk
    rcases List.mem_cons.1 hk with hk | hk
    · subst hk; subst e; exact .inr ht
    · exact .inl ⟨k, hk, e⟩
theorem pend_end {n : Nat} {L : List Lk} {a : Int} {bs : List Bool} {left o : List Int} {i : Nat} (h : Srch n L a bs left (Pend L o i)) (hi : o.length ≤ i) : Srch n L a bs left (fun _ => False) :=
  h.weaken fun z _ hp => by
    obtain ⟨k, hk, _⟩ := hp
    rw [List.drop_eq_nil_of_le hi] at hk; cases hk

set_option maxRecDepth 100000 in
set_option maxHeartbeats 3200000 in
theorem reach_calls (n a : Int) (p : Option Addr) (m c : Nat) (L : List Lk) (w : World) (h : Row lkc w w.heap.size p m L) (h1 : -9223372036854775808 ≤ n) (h2 : n ≤ 9223372036854775807) (hm : m ≤ 1073741824) :
    Calls Try.prog 22 #[.int .i64 n, .slice p m c, .int .i64 a] w (RchPost w n L a) := by
  have hck := check_calls n p m c L w h h1 h2 (by omega)
  by_cases hz : chk n L = 0
  case neg =>
    have hzb : (chk n L != 0) = true := by simp [hz]
    have HZ := Lib.hid hz
    clear hz h
    go_enter Try.func22, Try.ntmps22
    go_wp2_with fail
    ((with_reducible refine hck.mono ?_))
    rintro e w1 ⟨rfl, b1⟩
    go_wp2_with fail
    all_goals
      go_ret
      exact ⟨b1, .inl ⟨fun hc => HZ.out hc.1, rfl⟩⟩
  obtain ⟨z1, z2, z3, z4⟩ := chk_zero hz
  have hzb : (chk n L != 0) = false := by simp [hz]
  have hnode := isnode_calls n a (by omega) (by omega)
  by_cases ha : 0 ≤ a ∧ a < n
  case neg =>
    have hg : gwn a 0 (n - 1) = false := by simp [gwn]; omega
    rw [hg] at hnode
    have HZ := Lib.hid ha
    clear hz h ha hg z4
    go_enter Try.func22, Try.ntmps22
    go_wp2_with fail
    ((with_reducible refine hck.mono ?_))
    rintro e w1 ⟨rfl, b1⟩
    go_wp2_with fail
    ((with_reducible refine (hnode _).mono ?_))
    rintro e w2 ⟨rfl, rfl⟩
    go_wp2_with fail
    all_goals
      go_ret
      exact ⟨b1, .inl ⟨fun hc => HZ.out hc.2, rfl⟩⟩
  have hg : gwn a 0 (n - 1) = true := by simp [gwn]; omega
  rw [hg] at hnode
  obtain ⟨N, rfl⟩ : ∃ N : Nat, n = (N : Int) := ⟨n.toNat, by omega⟩
  have hE := net_ends z4
  have HE := Lib.hid hE
  have HZ := Lib.hid hz
  have HA := Lib.hid ha
  have HR := Lib.hid h
  have hmk := make_bools N (by omega)
  have hN16 : N ≤ 16 := by omega
  have HS := Lib.hid (Srch.begin (L := L) ha hE)
  obtain ⟨k0, hk0⟩ : ∃ k : Nat, a = (k : Int) := ⟨a.toNat, by omega⟩
  subst hk0
  have hk1 : k0 < N := by omega
  have hk2 : (k0 : Int) < (N : Int) := by omega
  clear hz h ha hg z4 hE
  go_enter Try.func22, Try.ntmps22
  go_wp2_with fail
  ((with_reducible refine hck.mono ?_))
  rintro e w1 ⟨rfl, b1⟩
  have HB1 := Lib.hid b1
  clear b1 hck
  go_wp2_with fail
  ((with_reducible refine (hnode _).mono ?_))
  rintro e w2 ⟨rfl, rfl⟩
  clear hnode
  go_upto_region 4 with fail
  obtain ⟨rb, hrb⟩ : ∃ rb, rb = w2.heap.size := ⟨_, rfl⟩
  have HRB := Lib.hid hrb
  have M0 := Lib.hid (show Mks (w2.alloc (.cells (Array.replicate N (Value.bool false)) 4)) rb (List.replicate N false) by
    have e : Array.replicate N (Value.bool false) = ((List.replicate N false).map Value.bool).toArray := by simp
    rw [hrb, e]; exact Blk.new w2 _ _)
  have B0 := Lib.hid (bel_alloc HB1.out (Nat.le_refl _) (.cells (Array.replicate N (Value.bool false)) 4))
  have hs0 : (w2.alloc (.cells (Array.replicate N (Value.bool false)) 4)).heap.size = rb + 1 := by simp [hrb]
  have hwrb : w.heap.size ≤ rb := by have := HB1.out.size; omega
  rw [← hrb]
  clear hrb hmk
  generalize hw3 : w2.alloc (.cells (Array.replicate N (Value.bool false)) 4) = w3 at *
  clear hw3
  have cc := M0.out.cell (k0 : Int) (by omega) (by simp; omega)
  rw [Int.toNat_natCast] at cc
  have ff := Blk.free M0.out k0
  have HS0 := Lib.hid hs0
  go_upto_region 5 with fail
  have M1 := Lib.hid (M0.out.set k0)
  have B1 := Lib.hid (bel_upd B0.out (upd_set_p w3 rb k0 (.bool true)) (Nat.le_refl _) hwrb)
  have hs1 : (w3.setCell ⟨rb, k0, none⟩ (.bool true)).heap.size = rb + 1 := by simp [World.setCell, hs0]
  clear cc ff hs0
  generalize hw4 : w3.setCell ⟨rb, k0, none⟩ (.bool true) = w4 at *
  clear hw4
  have M2 := Lib.hid (show Mks (w4.alloc (.cells #[.int .i64 (k0 : Int)] 3)) rb ((List.replicate N false).set k0 true) from Blk.alloc M1.out _)
  have Q2 := Lib.hid (que_new w4 (rb + 1) (k0 : Int) (by omega))
  have B2 := Lib.hid (bel_alloc B1.out (Nat.le_refl _) (.cells #[.int .i64 (k0 : Int)] 3))
  have HS1 := Lib.hid hs1
  clear hs1
  have S2 := HS.out
  rw [Int.toNat_natCast] at S2
  have HS2 := Lib.hid S2
  clear S2
  go_wp2_with fail
  go_loopw [8] (fun s wr => ∃ (bs : List Bool) (left : List Int) (cq : Nat) (A : Option Addr), s = .slice A left.length cq ∧ Que wr (rb + 1) A cq left ∧ Mks wr rb bs ∧ Srch N L (k0 : Int) bs left (fun _ => False) ∧ 2 * bs.count false + left.length ≤ 2 * N ∧ rb + 1 ≤ wr.heap.size ∧ Below w.heap.size w wr) (fun s wr => 2 * cfW wr rb + lenS s)
  case atStart => exact ⟨_, [(k0 : Int)], 1, _, rfl, Q2.out, M2.out, HS2.out, by
    have := count_set (List.replicate N false) k0 (by simpa using hk1) (by rw [List.getD_eq_getElem?_getD, List.getElem?_replicate]; split <;> rfl)
    rw [List.count_replicate_self] at this
    simp only [List.length_singleton]
    omega, by have := HS1.out; simp; omega, B2.out⟩
  case round =>
    obtain ⟨bs, left, cq, A, rfl, hQ, hM, hS, hcb, hsz, hB⟩ := hrel
    have HCB := Lib.hid hcb
    clear hcb
    have HQ := Lib.hid hQ
    have HM := Lib.hid hM
    have HSR := Lib.hid hS
    have HB := Lib.hid hB
    clear hQ hM hS hB M2 Q2 B2 M1 B1 M0 B0 HS2
    cases left with
    | nil =>
      go_wp2_with fail
      go_ret
      have hln := HSR.out.len
      refine ⟨HB.out, .inr ⟨HZ.out, HA.out.1, HA.out.2, rb, bs, by rw [hln]; rfl, hwrb, HM.out, by rw [hln], fun x h0 h1 => HSR.out.done x h0 h1⟩⟩
    | cons x r =>
      obtain ⟨b, o, rfl, hx⟩ := HQ.out.cell (by simp)
      have hx2 : wr.cell? ⟨b, o, none⟩ = some (.int .i64 x) := hx
      clear hx
      have hwt := HSR.out.wait x (by simp)
      have HWT := Lib.hid hwt
      clear hwt
      have hlen1 : ((x :: r).length : Int) = ((r.length + 1 : Nat) : Int) := rfl
      obtain ⟨A1, c1, hQ1, hsl⟩ : ∃ A1 c1, Que wr (rb + 1) A1 c1 r ∧ ∀ W, (Instr.sliceAt 30 (.slice (some ⟨b, o, none⟩) (r.length + 1) cq) (some (.int .i64 1)) none none).run Try.prog W = .ok (.slice A1 r.length c1) W := by
        have hcq : r.length + 1 ≤ cq := by
          obtain ⟨_, _, _, _, _, _, hl, _⟩ := HQ.out
          simpa using hl
        have hel : Try.prog.underlying 30 = some (.slice (Try.prog.elem 30)) := by rw [Try.underlying30]; kernel_rfl
        have hso : ∀ W, (sizeOf (Try.prog.elem 30)).run Try.prog W = .ok 1 W := fun W => by kernel_rfl
        have hrun := fun W : World => (run_sliceAt_slice (P := Try.prog) (w := W) 30 (.slice (some ⟨b, o, none⟩) (r.length + 1) cq) (some (.int .i64 1)) none none hel).trans (run_slice_l (P := Try.prog) (w := W) 30 (some ⟨b, o, none⟩) (r.length + 1) cq hel .i64 1 (by omega) (by omega))
        by_cases hc1 : cq ≤ 1
        · have hr0 : r = [] := List.eq_nil_of_length_eq_zero (by omega)
          have hc2 : cq = 1 := by omega
          subst hr0
          subst hc2
          refine ⟨_, _, HQ.out.none_left, fun W => ?_⟩
          rw [hrun W, hso W]
          rfl
        · rcases HQ.out.rest with hr | hr
          · refine ⟨_, _, hr, fun W => ?_⟩
            rw [hrun W, hso W]
            show Result.ok (sliced (some ⟨b, o, none⟩) 1 (r.length + 1) cq 1) W = _
            unfold sliced
            rw [if_neg (by omega), Option.map_some, add_plain]
            simp
          · exact absurd hr hc1
      have HQ1 := Lib.hid hQ1
      have S1 := Lib.hid HSR.out.pop
      have hRw : Row lkc wr wr.heap.size p m L := (HR.out.below HB.out).more HB.out.size
      have hout := outs_calls x p m c L wr hRw (by omega)
      have hcnt := HM.out.count
      rw [List.length_cons]
      clear hQ1 hlen1 hRw
      go_wp2_with fail
      refine hout.mono ?_
      rintro e w5 ⟨ol, A5, c5, rfl, a5, ho, b5⟩
      have HO := Lib.hid ho
      have A5' := Lib.hid a5
      have Q5 := Lib.hid (HQ1.out.bel b5)
      have M5 := Lib.hid (show Mks w5 rb bs from Blk.below HM.out b5)
      have B5 := Lib.hid (bel_more HB.out (Nat.le_refl _) b5)
      have P5 := Lib.hid (pend_start S1.out ho)
      have D5 := Lib.hid (show ∀ y z, blk A1 = some y → blk A5 = some z → y ≠ z from fun y z hy hz => by
        have h1 := (HQ1.out.ge hy).2
        have h2 := (AccR.ge a5 hz).1
        omega)
      have hs5 : rb + 1 ≤ w5.heap.size := Nat.le_trans hsz b5.size
      have hol : ol.length ≤ 1073741824 := by have := ho.len; have := gat_len L x L.length; omega
      clear a5 ho b5 hout hsl hx2
      go_wp2_with fail
      go_loopw [8, 42] (fun s t wi => ∃ (bs' : List Bool) (left' : List Int) (cq' i : Nat) (A' : Option Addr), i ≤ ol.length ∧ t = .int .i64 (i : Int) ∧ s = .slice A' left'.length cq' ∧ Que wi (rb + 1) A' cq' left' ∧ Mks wi rb bs' ∧ Srch N L (k0 : Int) bs' left' (Pend L ol i) ∧ AccI wi wr.heap.size A5 c5 ol ∧
        (∀ y z, blk A' = some y → blk A5 = some z → y ≠ z) ∧ bat bs' x = true ∧ 2 * bs'.count false + left'.length ≤ 2 * bs.count false + r.length ∧ rb + 1 ≤ wi.heap.size ∧ Below w.heap.size w wi) (fun s t wi => ol.length - (intOf t).toNat)
      case atStart => exact ⟨bs, r, c1, 0, A1, Nat.zero_le _, rfl, rfl, Q5.out, M5.out, P5.out, A5'.out, D5.out, HWT.out.2.2, Nat.le_refl _, hs5, B5.out⟩
      case round =>
        obtain ⟨bs', left', cq', i, A', hi, rfl, rfl, hQ, hM, hP, hA, hD, hbx, hme, hsi, hB⟩ := hrel
        clear Q5 M5 B5 P5 D5 A5' HQ HM HSR HB HQ1 S1
        have HQ := Lib.hid hQ
        have HM := Lib.hid hM
        have HP := Lib.hid hP
        have HAO := Lib.hid hA
        have HD := Lib.hid hD
        have HBX := Lib.hid hbx
        have HB := Lib.hid hB
        have HME := Lib.hid hme
        clear hQ hM hP hA hD hbx hB hme
        by_cases hlt : i < ol.length
        · obtain ⟨b6, o6, rfl, hb6, hc6⟩ := (AccR.row HAO.out).cells ei_length (by omega)
          have hkm := (HO.out.mem ol[i]).1 (List.getElem_mem hlt)
          obtain ⟨kk, hkL, hkf, hke⟩ := hkm
          have d1 : wr.cell? ⟨b6, o6 + i, none⟩ = some (.int .i64 (kk : Int)) := by
            have := hc6 i hlt 0 (by omega)
            rw [Nat.mul_one, Nat.add_zero, hke] at this; exact this
          have hRw : Row lkc wr w.heap.size p m L := HR.out.below HB.out
          have hlen := HR.out.1
          obtain ⟨b7, o7, rfl, hb7, hc7⟩ := row_link hRw (by omega)
          have hat := hc7 kk hkL
          have hz : L[kk] = L.getD kk default := by simp [List.getD_eq_getElem?_getD, List.getElem?_eq_getElem hkL]
          have hzm : L.getD kk default ∈ L := by rw [← hz]; exact List.getElem_mem hkL
          rw [hz] at hat
          have hze := HE.out _ hzm
          have hpd : (L.getD (ol[i]).toNat default) = L.getD kk default := by rw [hke, Int.toNat_natCast]
          obtain ⟨z, hzz⟩ : ∃ z, z = L.getD kk default := ⟨_, rfl⟩
          rw [← hzz] at hat hzm hze hpd hkf
          have d2 := (link_cells hat).2.1
          obtain ⟨tt, htt⟩ : ∃ tt : Nat, z.t = (tt : Int) := ⟨z.t.toNat, by omega⟩
          rw [htt] at d2
          have hbl := HP.out.len
          have d3 := HM.out.cell (tt : Int) (by omega) (by omega)
          rw [Int.toNat_natCast] at d3
          have hkm : kk < m := by omega
          have htn : tt < N := by omega
          have htn2 : (tt : Int) < (N : Int) := by omega
          have hkm2 : (kk : Int) < (m : Int) := by omega
          have hil : i < 9223372036854775807 := by omega
          have HZZ := Lib.hid (And.intro hzm (And.intro hpd (And.intro hkf htt)))
          clear hc6 hc7 hat hz hzm hpd hzz hkf htt hRw hke hze
          cases hbt : bat bs' (tt : Int) with
          | true =>
            have P6 := Lib.hid (pend_step HP.out hlt (by rw [HZZ.out.2.1, HZZ.out.2.2.2]; exact hbt))
            rw [hbt] at d3
            clear hbt
            go_wp2_with fail
            go_roundw
            case rel => exact ⟨bs', left', cq', i + 1, A', by omega, rfl, rfl, HQ.out, HM.out, P6.out, HAO.out, HD.out, HBX.out, HME.out, hsi, HB.out⟩
            case measure => simp [intOf]; omega
          | false =>
            rw [hbt] at d3
            have f3 := Blk.free HM.out tt
            have HBT := Lib.hid hbt
            clear hbt
            go_upto_region 15 with fail
            have M6 := Lib.hid (HM.out.set tt)
            have hgs := upd_set_p wr rb tt (.bool true)
            have Q6 := Lib.hid (HQ.out.kept hgs (fun y hy e => by have := (HQ.out.ge hy).1; injection e with e; omega))
            have A6 := Lib.hid (AccR.kept HAO.out hgs (fun y hy e => by have := (AccR.ge HAO.out hy).1; injection e with e; omega))
            have B6 := Lib.hid (bel_upd HB.out hgs (Nat.le_refl _) hwrb)
            have hs6 : rb + 1 ≤ (wr.setCell ⟨rb, tt, none⟩ (.bool true)).heap.size := by simpa [World.setCell] using hsi
            clear hgs d1 d2 d3 f3
            generalize hw6 : wr.setCell ⟨rb, tt, none⟩ (.bool true) = w6 at *
            clear hw6
            have S6 := Lib.hid (HP.out.mark HE.out HZZ.out.1 (by rw [HZZ.out.2.2.1]; exact HBX.out))
            have hcs := count_set bs' tt (by omega) (by have := HBT.out; simpa [bat] using this)
            obtain ⟨A7, c7, w7, r7, q7, g7, l7⟩ := que_push Q6.out (tt : Int) (by have h1 := HME.out; have h2 := HCB.out; rw [List.length_cons] at h2; omega) 30
            have R7 := Lib.hid r7
            have Q7 := Lib.hid q7
            have B7 := Lib.hid (B6.out.grown g7 (Nat.le_trans (by omega) hs6) (fun y hy => by have := (Q6.out.ge hy).1; omega))
            have M7 := Lib.hid (show Mks w7 rb (bs'.set tt true) from Blk.same M6.out (g7.block _ (Blk.lt M6.out) (fun e => by have := (Q6.out.ge e.symm).1; omega)))
            have A7' := Lib.hid (AccR.kept A6.out g7 (fun y hy e => HD.out y y e hy rfl))
            have D7 := Lib.hid (show ∀ y z, blk A7 = some y → blk (some ⟨b6, o6, none⟩) = some z → y ≠ z from fun y z hy hz => by
              rcases l7 with h7 | ⟨g, h7, h8⟩
              · rw [h7] at hy; exact HD.out y z hy hz
              · rw [h7] at hy
                injection hy with hy
                have := (AccR.ge A6.out hz).2
                omega)
            have hs7 : rb + 1 ≤ w7.heap.size := Nat.le_trans hs6 g7.size
            clear r7 q7 g7 l7
            have S7 := S6.out
            rw [HZZ.out.2.2.2, Int.toNat_natCast] at S7
            have hb7 : ∀ y : Int, 0 ≤ y → bat (bs'.set tt true) y = (if y = (tt : Int) then true else bat bs' y) := fun y hy => bat_set (by omega) y hy
            have P7 := Lib.hid (pend_step S7 hlt (by rw [HZZ.out.2.1, HZZ.out.2.2.2, hb7 _ (by omega), if_pos rfl]))
            have X7 := Lib.hid (show bat (bs'.set tt true) x = true by rw [hb7 x HWT.out.1]; split; rfl; exact HBX.out)
            have ME7 := Lib.hid (show 2 * (bs'.set tt true).count false + (left' ++ [(tt : Int)]).length ≤ 2 * bs.count false + r.length by
              have := HME.out
              rw [List.length_append, List.length_singleton]; omega)
            have LL7 := Lib.hid (show (left' ++ [(tt : Int)]).length = left'.length + 1 by simp)
            clear S7 hb7 hcs
            go_wp2_with (at_builtin; refine step_append rfl rfl rfl rfl R7.out ?_)
            go_roundw
            case rel => exact ⟨bs'.set tt true, left' ++ [(tt : Int)], c7, i + 1, A7, by omega, rfl, by rw [LL7.out], Q7.out, M7.out, P7.out, A7'.out, D7.out, X7.out, ME7.out, hs7, B7.out⟩
            case measure => simp [intOf]; omega
        · have P8 := Lib.hid (pend_end HP.out (by omega))
          have hc8 := HM.out.count
          have ME8 := HME.out
          have CB8 := HCB.out
          rw [List.length_cons] at CB8
          go_wp2_with fail
          go_roundw
          case rel => exact ⟨bs', left', cq', A', rfl, HQ.out, HM.out, P8.out, by omega, hsi, HB.out⟩
          case measure => rw [hc8, hcnt]; simp only [lenS]; omega
end Go.Proofs.Ytpgbfjeejkeibaa
