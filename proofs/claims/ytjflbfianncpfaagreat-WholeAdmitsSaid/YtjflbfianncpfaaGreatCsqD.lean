/-
  Contract of leave (cspf): the routes that go on from a place by one link are offered. Condition: the links are a network's, the place is the one that came out of the queue.
-/
import Derived.Test.YtjflbfianncpfaaGreatCsqC
import Derived.Test.YtjflbfianncpfaaGreatGraphDL
import Derived.Deep.CutBlock
namespace Go.Proofs.YtjflbfianncpfaaGreat
set_option maxRecDepth 100000
set_option linter.unusedVariables false
open Go.RowKit

/-- The links that were offered. -/
def offd17 (L : List Lk) (D : List (Int × Nat)) (j : Nat) (o : List Int) (i : Nat) (z : Lk) (h : Nat) : Prop := (z.f, h) ∈ D ∨ (h = j ∧ z ∈ (o.take i).map (fun y => L.getD y.toNat default))
theorem offd17_step {L : List Lk} {D : List (Int × Nat)} {j : Nat} {o : List Int} {i : Nat} {y : Int} (h : o[i]? = some y) (z : Lk) (m : Nat) : offd17 L D j o (i + 1) z m → offd17 L D j o i z m ∨ (z = L.getD y.toNat default ∧ m = j) := by
  unfold offd17
  rw [List.take_add_one, h, List.map_append, List.mem_append]
  rintro (h | ⟨e, h | h⟩)
  · exact .inl (.inl h)
  · exact .inl (.inr ⟨e, h⟩)
  · exact .inr ⟨by simpa using h, e⟩
theorem offd17_left {L : List Lk} {D : List (Int × Nat)} {x : Int} {j : Nat} {o : List Int} (ho : OutsOk L x o) {i : Nat} {z : Lk} {m : Nat} (h : offd17 L D j o i z m) : (z.f, m) ∈ (x, j) :: D := by
  rcases h with h | ⟨rfl, h⟩
  · exact List.mem_cons_of_mem _ h
  · obtain ⟨y, hy, rfl⟩ := List.mem_map.1 h
    obtain ⟨k, hk⟩ := List.mem_iff_getElem?.1 (List.mem_of_mem_take hy)
    rw [(ho.link hk).2.2.2]
    exact List.mem_cons_self ..
/-- What leave leaves. -/
def LeavePost17 (w0 w : World) (K : Sk17) (g : Nat) (L : List Lk) (a : Int) (M : Nat) (D : List (Int × Nat)) (k x : Int) (j : Nat) (qb ub : Nat) (e : Ending) (w' : World) : Prop :=
  e = .returned (.tuple #[]) ∧ ∃ g' u' S' Q', Fr17 K w g w' g' ∧ Sy17 w0 w' K g' u' L S' Q' ∧ Dj17 L a M S' Q' ((x, j) :: D) (fun z i => (z.f, i) ∈ (x, j) :: D) k ∧ Q'.length + rest17 L ((x, j) :: D) M ≤ qb ∧ u' + rest17 L ((x, j) :: D) M ≤ ub
/-- The search between two links. -/
def MidL17 (w0 w1 : World) (K : Sk17) (g : Nat) (L : List Lk) (a : Int) (M : Nat) (D : List (Int × Nat)) (k x : Int) (j : Nat) (cx : Int) (rx : List Int) (o : List Int) (ql ul i : Nat) (W : World) : Prop :=
  ∃ g' u' S' Q', Fr17 K w1 g W g' ∧ Sy17 w0 W K g' u' L S' Q' ∧ Dj17 L a M S' Q' ((x, j) :: D) (offd17 L D j o i) k ∧ S' x j = some (cx, rx) ∧ ((x, j) ∈ D → Q'.length ≤ ql ∧ u' ≤ ul) ∧ Q'.length ≤ ql + i ∧ u' ≤ ul + i
theorem Fr17.block {K : Sk17} {w w' : World} {g g' : Nat} (h : Fr17 K w g w' g') {b : Nat} (hb : b < w.heap.size) (hn : b ∉ [K.b, K.p, g]) : w'.heap[b]? = w.heap[b]? := h.1.block b hb hn
theorem cell_same {w w' : World} {p : Addr} (h : w'.heap[p.block]? = w.heap[p.block]?) : w'.cell? p = w.cell? p := by unfold World.cell?; rw [h]

/-- What is read for one link. -/
def ReadOk17 (W : World) (s : Nat) (h : List Value) (ob : Nat) (cx : Int) (ya : Option Addr) (yn yc b7 o1 o3 : Nat) (zt zm : Int) : Prop :=
  Blk W s 93 h ∧ Blk W ob 86 [.int .i64 cx, .slice ya yn yc] ∧ W.cell? ⟨b7, o1, none⟩ = some (.int .i64 zt) ∧ W.cell? ⟨b7, o3, none⟩ = some (.int .i64 zm)

set_option maxHeartbeats 4000000 in
theorem leave17_calls {w0 w : World} {K : Sk17} {g u : Nat} {L : List Lk} {S : Nt} {Q : List Itm} (h : Sy17 w0 w K g u L S Q) {n a : Int} {M : Nat} {D : List (Int × Nat)} {k x : Int} {j : Nat} (hL : NetOk n L) (ha : 0 ≤ a ∧ a < n) (hn : n ≤ 16) (hL64 : L.length ≤ 64) (hM : M ≤ 15) (hj : j < M)
    (hD : Dj17 L a M S Q ((x, j) :: D) (fun z i => (z.f, i) ∈ D) k) (hfr : (x, j) ∉ D → ∃ r, S x j = some (k, r)) (hlen : Q.length + rest17 L D M ≤ 1000 ∧ u + rest17 L D M ≤ 1000) :
    Calls Tryz.prog 27 #[.pointer (some ⟨K.s, 0, none⟩), .agg #[.int .i64 x, .int .i64 (j : Int)]] w (LeavePost17 w0 w K g L a M D k x j (Q.length + rest17 L D M) (u + rest17 L D M)) := by
  obtain ⟨E, h⟩ := h
  obtain ⟨cx, rx, hsx, hcx⟩ := hD.done x j (List.mem_cons_self ..)
  obtain ⟨hwk, hrl, hjM⟩ := hD.way _ _ _ _ hsx
  have hxn := hwk.inn hL ha
  have hcost := hwk.cost hL
  have hwf : WfP x j := wfp_of hxn.1 (by omega) (by omega)
  have hnote := h.ok x j
  rw [hsx] at hnote
  obtain ⟨⟨c1, ⟨ya, yn, yc⟩⟩, hE⟩ : ∃ p, E x j = some p := by
    cases hs : E x j with
    | none => rw [hs] at hnote; exact absurd hnote (by simp [NoteOk17])
    | some p => exact ⟨p, rfl⟩
  rw [hE] at hnote
  obtain ⟨e1, hc0, hyn, hy1, hya⟩ := hnote
  subst e1
  replace hyn : yn = rx.length := hyn
  replace hy1 : 1 ≤ yn ∧ yn ≤ 1073741824 := hy1
  replace hya : AccI w w0.heap.size ya yc rx := hya
  have hcap := (AccR.cap hya).1
  rw [← hyn] at hcap
  have heget : eget E x j = (c1, ⟨ya, yn, yc⟩) := by unfold eget; rw [hE]; rfl
  have hl1 := bel_new (Below.refl w.heap.size w) (.cells #[.int .i64 x, .int .i64 (j : Int)] 96)
  have HP := Lib.hid (Blk.new w 96 [.int .i64 x, .int .i64 (j : Int)])
  have HL1 := Lib.hid hl1
  have H := Lib.hid (h.below hl1)
  have HYA := Lib.hid (show AccI (w.alloc (.cells #[.int .i64 x, .int .i64 (j : Int)] 96)) w0.heap.size ya yc rx from AccR.bel hya hl1)
  have HEG := Lib.hid heget
  have HWF := Lib.hid hwf
  have HNET := Lib.hid hL
  have HA := Lib.hid ha
  have HN := Lib.hid (And.intro hn hxn)
  have HL64 := Lib.hid hL64
  have HJ := Lib.hid (And.intro hM hj)
  have HD := Lib.hid hD
  have HF := Lib.hid hfr
  have HLEN := Lib.hid hlen
  have HSX := Lib.hid hsx
  have HRL := Lib.hid hrl
  have HYN := Lib.hid hyn
  have HCAP := Lib.hid hcap
  have HCO := Lib.hid (And.intro hcost (And.intro hcx hc0))
  have HY := Lib.hid hy1
  clear hl1 h hya heget hwf hL ha hn hL64 hM hj hD hfr hlen hsx hrl hyn hcap hcost hcx hc0 hy1 hwk hjM hxn hE
  go_enter Tryz.func27, Tryz.ntmps27
  go_upto_region 1 with fail
  obtain ⟨pb, hpb⟩ : ∃ pb, pb = w.heap.size := ⟨_, rfl⟩
  rw [← hpb] at HP ⊢
  have HPB := Lib.hid hpb
  clear hpb
  generalize (w.alloc (.cells #[.int .i64 x, .int .i64 (j : Int)] 96)) = w1 at *
  have HLK := Lib.hid (fun W (hW : Below w1.heap.size w1 W) => (show (Instr.lookup 90 (.map (some K.b)) (.agg #[.int .i64 x, .int .i64 (j : Int)]) false).run Tryz.prog W = .ok (.agg #[.int .i64 c1, .slice ya yn yc]) W from by
    have := (H.out.below hW).notes.look HWF.out
    rw [HEG.out] at this
    exact this))
  have HS := Lib.hid (fun W (hW : Below w1.heap.size w1 W) => And.intro (H.out.below hW).head (HP.out.below hW))
  go_wp2_with fail
  refine region_seq (fun W => Below w1.heap.size w1 W) [(0, true), (1, true), (2, true), (3, true), (4, true), (5, true), (6, false), (7, false)]
    (by kernel_rfl) (by kernel_rfl) (by kernel_rfl) (by kernel_rfl) (fun _ _ _ _ _ h => h) (Below.refl _ _).drew ?_
  repeat first
    | refine seq_look17 (T := 90) (b := false) (mb := K.b) rfl (by rfl) rfl rfl rfl HLK.out ?_
      simp only [Act.put, List.setIfInBounds_toArray, List.set_cons_zero, List.set_cons_succ]
    | refine seq_pure (v := ?_) rfl (by rfl) (fun W hW => ?_) ?_
      rotate_left
      · obtain ⟨h1, h2⟩ := HS.out W hW
        have c0 : W.cell? ⟨K.s, 1, none⟩ = some (.map (some K.b)) := h1.cell 1
        have c1 : W.cell? ⟨pb, 0, none⟩ = some (.int .i64 x) := h2.cell 0
        have c2 : W.cell? ⟨pb, 1, none⟩ = some (.int .i64 (j : Int)) := h2.cell 1
        clear h1 h2 hW
        go_simp
        with_reducible rfl
      simp only [Act.put, List.setIfInBounds_toArray, List.set_cons_zero, List.set_cons_succ]
  refine seq_make rfl (by rfl) (fun K' hK' => ?_)
  go_simp
  have P4 := Lib.hid (show Blk (w1.alloc (.cells #[.int .i64 0, .slice none 0 0] 86)).drew w1.heap.size 86 [.int .i64 0, .slice none 0 0] from Blk.new w1 86 [.int .i64 0, .slice none 0 0])
  have L4 := Lib.hid (show Below w1.heap.size w1 (w1.alloc (.cells #[.int .i64 0, .slice none 0 0] 86)).drew from (bel_new (Below.refl _ _) (.cells #[.int .i64 0, .slice none 0 0] 86)).drew)
  refine hK' _ _ (fun W => Below w1.heap.size w1 W) (fun W h => h) L4.out ?_
  clear hK' K'
  obtain ⟨ob, hob⟩ : ∃ ob, ob = w1.heap.size := ⟨_, rfl⟩
  rw [← hob] at P4 ⊢
  have HOB := Lib.hid hob
  clear hob
  generalize (w1.alloc (.cells #[.int .i64 0, .slice none 0 0] 86)).drew = w2 at *
  have p0 : w2.cell? ⟨ob, 0, none⟩ = some (.int .i64 0) := P4.out.cell 0
  have p1 : w2.cell? ⟨ob, 1, none⟩ = some (.slice none 0 0) := P4.out.cell 1
  have f0 := P4.out.free 0
  have f1 := P4.out.free 1
  refine seq_make rfl (by rfl) (fun K' hK' => ?_)
  go_simp
  have hp := put2 P4.out (.int .i64 c1) (.slice ya yn yc)
  clear p0 p1 f0 f1
  generalize ((w2.setCell ⟨ob, 0, none⟩ (.int .i64 c1)).setCell ⟨ob, 1, none⟩ (.slice ya yn yc)) = w3 at *
  have P3 := Lib.hid hp.1
  have L3 := Lib.hid (show Below w1.heap.size w1 w3 from bel_upd L4.out hp.2 (Nat.le_refl _) (Nat.le_of_eq HOB.out.symm))
  clear hp P4 L4
  refine hK' _ _ (fun W => Below ob w1 W) (fun W h => h) (by rw [HOB.out]; exact L3.out) ?_
  clear hK' K'
  refine seq_done ?_
  have H3 := Lib.hid (H.out.below L3.out)
  have Q3 := Lib.hid (HP.out.below L3.out)
  have A3 := Lib.hid (show AccI w3 w0.heap.size ya yc rx from AccR.bel HYA.out L3.out)
  have LT := Lib.hid (show Below w.heap.size w w3 from HL1.out.trans (L3.out.mono HL1.out.size))
  have HS3 := Lib.hid (fun W (hW : Below w3.heap.size w3 W) => And.intro (H3.out.below hW).head (Q3.out.below hW))
  have hOUT := fun W (hW : Below w3.heap.size w3 W) => outs_calls x K.la L.length K.lc L W ((AccR.row (H3.out.below hW).links)) (by have := HL64.out; omega)
  unfold OutsPost at hOUT
  have HOUT := Lib.hid hOUT
  clear hOUT HLK HS HOB H HP HYA HL1 L3
  go_wp2_with fail
  refine region_seq (fun W => Below w3.heap.size w3 W) [(0, true), (1, true), (2, true), (3, true), (4, true), (5, true), (8, true), (6, false), (7, true)]
    (by kernel_rfl) (by kernel_rfl) (by kernel_rfl) (by kernel_rfl) (fun _ _ _ _ _ h => h) (Below.refl _ _).drew ?_
  repeat
    refine seq_pure (v := ?_) rfl (by rfl) (fun W hW => ?_) ?_
    rotate_left
    · obtain ⟨h1, h2⟩ := HS3.out W hW
      have c0 : W.cell? ⟨K.s, 0, none⟩ = some (.slice K.la L.length K.lc) := h1.cell 0
      have c1 : W.cell? ⟨pb, 0, none⟩ = some (.int .i64 x) := h2.cell 0
      clear h1 h2 hW
      go_simp
      with_reducible rfl
    simp only [Act.put, List.setIfInBounds_toArray, List.set_cons_zero, List.set_cons_succ]
  refine seq_make rfl (by rfl) (fun K' hK' => ?_)
  go_simp
  ((with_reducible refine (HOUT.out w3.drew (Below.refl _ _).drew).mono ?_))
  rintro e w5 ⟨o, A5, c5, rfl, a5, ho, b5⟩
  have L5 := Lib.hid (show Below w3.heap.size w3 w5 from below_of_drew b5)
  have A5' := Lib.hid (show AccI w5 w3.heap.size A5 c5 o from a5)
  have HO := Lib.hid ho
  have hol : o.length ≤ 64 := by have := ho.count; have := List.countP_le_length (p := fun z : Lk => z.f == x) (l := L); have := HL64.out; omega
  have HOL := Lib.hid hol
  clear a5 ho b5 hol
  go_simp
  refine hK' _ _ (fun W => Below w3.heap.size w3 W) (fun W h => h) L5.out ?_
  clear hK' K'
  repeat
    refine seq_pure (v := ?_) rfl (by rfl) (fun W hW => ?_) ?_
    rotate_left
    · clear hW
      go_simp
      with_reducible rfl
    simp only [Act.put, List.setIfInBounds_toArray, List.set_cons_zero, List.set_cons_succ]
  refine seq_done ?_
  have H5 := Lib.hid (H3.out.below L5.out)
  have P5 := Lib.hid (P3.out.below L5.out)
  have A6 := Lib.hid (show AccI w5 w0.heap.size ya yc rx from AccR.bel A3.out L5.out)
  have LT5 := Lib.hid (show Below w.heap.size w w5 from LT.out.trans (L5.out.mono LT.out.size))
  clear H3 Q3 A3 LT HS3 HOUT P3 L5
  go_wp2_with fail
  go_loopw [21] (fun t W => ∃ i : Nat, i ≤ o.length ∧ t = .int .i64 (i : Int) ∧ MidL17 w0 w5 K g L a M D k x j c1 rx o Q.length u i W) (fun t W => o.length - (intOf t).toNat)
  case atStart =>
    refine ⟨0, Nat.zero_le _, rfl, g, u, S, Q, Fr17.refl _ _ _, ⟨E, H5.out⟩, HD.out.less (fun z _ i _ hz => ?_) (fun z _ i hz => offd17_left HO.out hz), HSX.out, fun _ => ⟨Nat.le_refl _, Nat.le_refl _⟩, by omega, by omega⟩
    rcases hz with hz | ⟨_, hz⟩
    · exact hz
    · simp at hz
  case round =>
    obtain ⟨i, hi, rfl, g', u', S', Q', hfr, ⟨E', hs⟩, hdj, hsx', hq1, hq2, hq3⟩ := hrel
    have F2 := Lib.hid hfr
    have DJ := Lib.hid hdj
    have HX2 := Lib.hid hsx'
    have HQ := Lib.hid (And.intro hq1 (And.intro hq2 hq3))
    have H2 := Lib.hid hs
    have A2 := Lib.hid (show AccI wr w3.heap.size A5 c5 o from accr_off11 A5'.out hfr.1 (fun b hb => H5.out.off (accr_ty A5'.out hb) (by decide) (by decide)))
    have Y2 := Lib.hid (show AccI wr w0.heap.size ya yc rx from accr_off11 A6.out hfr.1 (fun b hb => H5.out.off (accr_ty A6.out hb) (by decide) (by decide)))
    have P2 := Lib.hid (show Blk wr ob 86 [.int .i64 c1, .slice ya yn yc] from P5.out.same (hfr.block P5.out.lt (H5.out.off P5.out.ty (by decide) (by decide))))
    clear hfr hdj hsx' hq1 hq2 hq3 hs
    by_cases hlt : i < o.length
    · obtain ⟨y, hy⟩ : ∃ y, o[i]? = some y := ⟨_, List.getElem?_eq_getElem hlt⟩
      obtain ⟨y0, y1, hzL, hzf⟩ := HO.out.link hy
      obtain ⟨kk, rfl⟩ : ∃ i : Nat, y = (i : Int) := ⟨y.toNat, by omega⟩
      rw [Int.toNat_natCast] at hzL hzf
      have hkL : kk < L.length := by omega
      obtain ⟨b6, o6, rfl, hb6, hc6⟩ := row_int (AccR.row A2.out) (by omega)
      have d1 : wr.cell? ⟨b6, o6 + i, none⟩ = some (.int .i64 (kk : Int)) := by
        rw [hc6 i hlt]
        rw [List.getElem?_eq_getElem hlt] at hy
        injection hy with hy
        rw [hy]
      obtain ⟨b7, o7, hla, hb7, hc7⟩ := row_link (AccR.row H2.out.links) (by omega)
      have hat := hc7 kk hkL
      have hze : L[kk] = L.getD kk default := by simp [List.getD_eq_getElem?_getD, List.getElem?_eq_getElem hkL]
      rw [hze] at hat
      obtain ⟨z, hz⟩ : ∃ z, z = L.getD kk default := ⟨_, rfl⟩
      rw [← hz] at hat hzL hzf
      obtain ⟨_, l1, _, l3, _⟩ := link_cells hat
      have hnz := HNET.out z hzL
      obtain ⟨zf, zt, zc, zm, zg⟩ := z
      simp only at hzf hnz l1 l3
      subst hzf
      have hhd := H2.out.head
      rw [hla] at hhd
      have ty7 : tyAt wr b7 = some 44 := accr_ty H2.out.links (by rw [hla]; rfl)
      have SS := Lib.hid (show ∀ W, ReadOk17 W K.s [.slice (some ⟨b7, o7, none⟩) L.length K.lc, .map (some K.b), .pointer (some ⟨K.q, 0, none⟩)] ob c1 ya yn yc b7 (o7 + kk * 5 + 1) (o7 + kk * 5 + 3) zt zm → _ ∧ _ ∧ _ ∧ _ ∧ _ from fun W h => And.intro (h.1.cell 0) (And.intro (h.2.1.cell 0) (And.intro (h.2.1.cell 1) h.2.2)))
      have S0 := Lib.hid (show ∀ W, Below wr.heap.size wr W → ReadOk17 W K.s [.slice (some ⟨b7, o7, none⟩) L.length K.lc, .map (some K.b), .pointer (some ⟨K.q, 0, none⟩)] ob c1 ya yn yc b7 (o7 + kk * 5 + 1) (o7 + kk * 5 + 3) zt zm from fun W hW =>
        ⟨hhd.below hW, P2.out.below hW, (hW.cell (p := ⟨b7, o7 + kk * 5 + 1, none⟩) hb7).trans l1, (hW.cell (p := ⟨b7, o7 + kk * 5 + 3, none⟩) hb7).trans l3⟩)
      have hcost := HCO.out.1
      have hrl := HRL.out
      have hyn := HYN.out
      have hjm := HJ.out
      have i0 : (i : Int) < (o.length : Int) := by omega
      have hol := HOL.out
      have i2 : (kk : Int) < (L.length : Int) := by omega
      have hwr : IntKind.i64.wrap (c1 + zm) = c1 + zm := by rw [IntKind.wrap_i64]; omega
      have HZ := Lib.hid (And.intro hz (And.intro hzL (And.intro hnz (And.intro hb7 (And.intro hla ty7)))))
      have HYY := Lib.hid hy
      have hy2 := HY.out.1
      have YROW := Lib.hid (show Row ei wr wr.heap.size ya yn rx from by have := AccR.row Y2.out; rwa [← HYN.out] at this)
      clear hz hzL hnz hat hze hc7 hc6 hcost hrl hyn hjm hb6 hb7 hy y0 y1 l1 l3 hla hhd ty7 hkL
      go_wp2_with fail
      refine region_seq (fun W => ReadOk17 W K.s [.slice (some ⟨b7, o7, none⟩) L.length K.lc, .map (some K.b), .pointer (some ⟨K.q, 0, none⟩)] ob c1 ya yn yc b7 (o7 + kk * 5 + 1) (o7 + kk * 5 + 3) zt zm) [(0, true), (1, true), (2, true), (3, true), (4, true), (5, true), (6, true), (7, true), (8, true), (9, true), (10, true), (11, true), (12, true), (13, true), (14, true), (15, true), (16, true), (17, true), (18, true), (19, true), (20, true), (21, true), (22, false), (23, true), (24, false)]
        (by kernel_rfl) (by kernel_rfl) (by kernel_rfl) (by kernel_rfl) (fun _ _ _ _ _ h => h) (S0.out _ (Below.refl _ _).drew) ?_
      repeat
        refine seq_pure (v := ?_) rfl (by rfl) (fun W hW => ?_) ?_
        rotate_left
        · obtain ⟨t0, t1, t2, t3, t4⟩ := SS.out W hW
          clear hW
          go_simp
          with_reducible rfl
        simp only [Act.put, List.setIfInBounds_toArray, List.set_cons_zero, List.set_cons_succ]
      refine seq_make rfl (by rfl) (fun K' hK' => ?_)
      go_simp
      ((with_reducible refine (extend17_calls ya yn yc rx zt wr.drew (Row.drewS YROW.out) hy2 HCAP.out HY.out.2).mono ?_))
      rintro e w6 ⟨A9, c9, he, a9, hb5⟩
      rw [← HYN.out] at he
      subst he
      have B6 := Lib.hid (show Below wr.heap.size wr w6 from below_of_drew hb5)
      have H6 := Lib.hid (H2.out.below B6.out)
      have A9' := Lib.hid (show AccI w6 wr.heap.size A9 c9 (rx ++ [zt]) from a9)
      clear a9 hb5
      go_simp
      refine hK' _ _ (fun W => ReadOk17 W K.s [.slice (some ⟨b7, o7, none⟩) L.length K.lc, .map (some K.b), .pointer (some ⟨K.q, 0, none⟩)] ob c1 ya yn yc b7 (o7 + kk * 5 + 1) (o7 + kk * 5 + 3) zt zm) (fun W h => h) (S0.out _ B6.out) ?_
      clear hK' K'
      repeat
        refine seq_pure (v := ?_) rfl (by rfl) (fun W hW => ?_) ?_
        rotate_left
        · clear hW
          go_simp
          with_reducible rfl
        simp only [Act.put, List.setIfInBounds_toArray, List.set_cons_zero, List.set_cons_succ]
      have hrr : (rx ++ [zt]).length = yn + 1 := by simp [HYN.out]
      have hql : Q'.length < 1024 ∧ u' ≤ 1000000 := by
        have h1 := HLEN.out
        have h2 := HQ.out.2
        have h3 := HOL.out
        have h5 := HO.out.count
        by_cases hxd : (zf, j) ∈ D
        · have := HQ.out.1 hxd; omega
        · have := rest17_new L hxd M HJ.out.2; omega
      have hoff := offer17_calls (w0 := w0) (w := w6) (K := K) (g := g') (u := u') (L := L) (S := S') (Q := Q') ⟨E', H6.out⟩ A9 (yn + 1) c9 (c1 + zm) (rx ++ [zt]) zt (j + 1) (AccR.lower A9'.out H2.out.bel.size) hrr (by have := HYN.out; have := HRL.out; omega) (by have := HYN.out; have := HRL.out; have := HJ.out; omega)
        (by rw [← HRL.out]; simp) (by have := HZ.out.2.2.1; have := HN.out; omega) (by have := HCO.out.2.2; have := HZ.out.2.2.1; omega) hql.1 hql.2
      have HOFF := Lib.hid hoff
      clear hrr hql hoff
      refine seq_make rfl (by rfl) (fun K' hK' => ?_)
      go_simp
      ((with_reducible refine HOFF.out.mono ?_))
      rintro e w7 ⟨rfl, g6, hf6, hcase⟩
      have F6 := Lib.hid ((F2.out.trans (Fr17.of_below B6.out)).trans hf6)
      have hrd := S0.out _ B6.out
      have hd7 : Blk w7 K.s 93 [.slice (some ⟨b7, o7, none⟩) L.length K.lc, .map (some K.b), .pointer (some ⟨K.q, 0, none⟩)] := by
        have hla := HZ.out.2.2.2.2.1
        rcases hcase with ⟨_, _, _, _, h⟩ | ⟨_, _, h⟩
        · have := h.head; rwa [hla] at this
        · have := h.head; rwa [hla] at this
      have b7off := H6.out.off (show tyAt w6 b7 = some 44 from by have := HZ.out.2.2.2.2.2; unfold tyAt at this ⊢; rw [B6.out.block b7 HZ.out.2.2.2.1]; exact this) (by decide) (by decide)
      have b7lt : b7 < w6.heap.size := Nat.lt_of_lt_of_le HZ.out.2.2.2.1 B6.out.size
      have R7 := Lib.hid (show ReadOk17 w7 K.s [.slice (some ⟨b7, o7, none⟩) L.length K.lc, .map (some K.b), .pointer (some ⟨K.q, 0, none⟩)] ob c1 ya yn yc b7 (o7 + kk * 5 + 1) (o7 + kk * 5 + 3) zt zm from
        ⟨hd7, hrd.2.1.same (hf6.block hrd.2.1.lt (H6.out.off hrd.2.1.ty (by decide) (by decide))), (cell_same (p := ⟨b7, o7 + kk * 5 + 1, none⟩) (hf6.block b7lt b7off)).trans hrd.2.2.1, (cell_same (p := ⟨b7, o7 + kk * 5 + 3, none⟩) (hf6.block b7lt b7off)).trans hrd.2.2.2⟩)
      have CASE := Lib.hid hcase
      clear hf6 hcase hd7 hrd b7off b7lt HOFF
      go_simp
      refine hK' _ _ (fun W => ReadOk17 W K.s [.slice (some ⟨b7, o7, none⟩) L.length K.lc, .map (some K.b), .pointer (some ⟨K.q, 0, none⟩)] ob c1 ya yn yc b7 (o7 + kk * 5 + 1) (o7 + kk * 5 + 3) zt zm) (fun W h => h) R7.out ?_
      clear hK' K'
      refine seq_done ?_
      have hmid : MidL17 w0 w5 K g L a M D k zf j c1 rx o Q.length u (i + 1) w7 := by
        have hgk : L.getD ((kk : Int)).toNat default = ⟨zf, zt, zc, zm, zg⟩ := by rw [Int.toNat_natCast]; exact HZ.out.1.symm
        have hsat := HX2.out
        have hyk : o[i]? = some (kk : Int) := HYY.out
        rcases CASE.out with ⟨p', hp', hnb, hsy⟩ | ⟨hyes, hsy⟩
        · refine ⟨g6, u', S', Q', F6.out, hsy, (DJ.out.no (z := ⟨zf, zt, zc, zm, zg⟩) hsat (List.mem_cons_self ..) hp' hnb).less (fun z _ m _ hF => ?_) (fun z _ m hF => offd17_left HO.out hF), hsat, HQ.out.1, by have := HQ.out.2; omega, by have := HQ.out.2; omega⟩
          have := offd17_step hyk z m hF
          rw [hgk] at this
          exact this
        · have hk' : c1 = k ∨ offd17 L D j o i ⟨zf, zt, zc, zm, zg⟩ j := by
            by_cases hxd : (zf, j) ∈ D
            · exact .inr (.inl hxd)
            · obtain ⟨r', hr'⟩ := HF.out hxd
              rw [HSX.out] at hr'
              injection hr' with hr'
              injection hr' with e1 _
              exact .inl e1
          obtain ⟨hnF, htD, hdj⟩ := DJ.out.yes HNET.out (z := ⟨zf, zt, zc, zm, zg⟩) HZ.out.2.1 HJ.out.2 hsat (List.mem_cons_self ..) hk' hyes
          have hxd : (zf, j) ∉ D := fun hm => hnF (.inl hm)
          refine ⟨g6, u' + 1, _, _, F6.out, hsy, hdj.less (fun z _ m _ hF => ?_) (fun z _ m hF => offd17_left HO.out hF), ?_, fun hx => absurd hx hxd, by rw [insQ_length]; have := HQ.out.2; omega, by have := HQ.out.2; omega⟩
          · have := offd17_step hyk z m hF
            rw [hgk] at this
            exact this
          · rw [nset_other _ _ (by omega)]
            exact hsat
      have HMID := Lib.hid hmid
      clear hmid
      go_wp2_with fail
      go_roundw
      case rel => exact ⟨i + 1, by omega, rfl, HMID.out⟩
      case measure => simp [intOf]; omega
    · obtain rfl : i = o.length := by omega
      have i1 : ¬ (o.length : Int) < (o.length : Int) := by omega
      go_wp2
      go_end0
      have h3 := HO.out.count
      refine ⟨rfl, g', u', S', Q', (Fr17.of_below LT5.out).trans F2.out, ⟨E', H2.out⟩, DJ.out.less (fun z hz m _ hF => ?_) (fun z _ m hF => hF), ?_, ?_⟩
      · rcases List.mem_cons.1 hF with hF | hF
        · injection hF with e1 e2
          right
          refine ⟨e2, ?_⟩
          rw [List.take_length]
          exact HO.out.all hz e1
        · exact .inl hF
      · by_cases hxd : (x, j) ∈ D
        · rw [rest17_old L hxd]
          have := HQ.out.1 hxd
          omega
        · have := rest17_new L hxd M HJ.out.2
          have := HQ.out.2
          omega
      · by_cases hxd : (x, j) ∈ D
        · rw [rest17_old L hxd]
          have := HQ.out.1 hxd
          omega
        · have := rest17_new L hxd M HJ.out.2
          have := HQ.out.2
          omega
end Go.Proofs.YtjflbfianncpfaaGreat
