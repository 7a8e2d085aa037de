/-
  Contract of cspf.Find: what the code must keep (FindOk17) is kept. Condition: numbers as large as their types allow; at most 2^30 elements in each list.
-/
import Derived.Test.YtjflbfianncpfaaGreatCsqB
import Derived.Test.YtjflbfianncpfaaGreatCsqD
import Derived.Deep.CutBlock
namespace Go.Proofs.YtjflbfianncpfaaGreat
set_option maxRecDepth 100000
set_option linter.unusedVariables false
open Go.RowKit

section
variable {w0 w w' : World} {K : Sk17} {g u : Nat} {L : List Lk} {E : En} {S : Nt} {Q : List Itm}
/-- An item beside the search turns. -/
theorem Sea17.beside (h : Sea17 w0 w K g u L E S Q) {r : Nat} {vs : List Value} (hb : Blk w r 88 vs) (hrg : r ≠ g) (hlo : w0.heap.size ≤ r) (hg : w.grownBy w' (some r)) : Sea17 w0 w' K g u L E S Q := by
  have t0 := hb.ty
  obtain ⟨t1, t2, t3⟩ := h.queue.ty
  have n1 := ne_ty h.head.ty t0 (by decide)
  have n4 := ne_ty t1 t0 (by decide)
  have n5 := ne_ty t2 t0 (by decide)
  have n6 := ne_ty0 t0 h.notes.ty
  have ht := Turn.of_grown (S := [r]) hg (by simp)
  refine ⟨ht.bel h.bel (Nat.le_refl _) (by simp; omega), h.head.same (ht.block _ h.head.lt (by simp; exact n1)), accr_off11 h.links ht (fun b hb' => by have := ne_ty (accr_ty h.links hb') t0 (by decide); simpa using this), h.notes.same (ht.block _ h.notes.lt (by simp; omega)), h.queue.other hg n4 n5 (Ne.symm hrg), h.lob, fun x j => (h.ok x j).same (fun A c r' ha => accr_off11 ha ht (fun b hb' => by
    have := ne_ty (accr_ty ha hb') t0 (by decide)
    simpa using this))⟩
end
/-- The search when an item has come out of the queue, or none: the item lies in a block of its own. -/
def Rnd17 (w0 : World) (K : Sk17) (ab : Nat) (ac : List Value) (L : List Lk) (f t : Int) (M : Nat) (m : Nat) (z : Value × Value × World) : Prop :=
  ∃ g u S D k bx, z.1 = .pointer (some ⟨bx, 0, none⟩) ∧ w0.heap.size ≤ bx ∧ bx ≠ g ∧ Blk z.2.2 ab 60 ac ∧ (∀ i, (t, i) ∉ D) ∧
    ((z.2.1 = .int .i64 8 ∧ Sy17 w0 z.2.2 K g u L S [] ∧ Dj17 L f M S [] D (fun z i => (z.f, i) ∈ D) k ∧ m = 0) ∨
     (∃ q Q, z.2.1 = .int .i64 0 ∧ Sy17 w0 z.2.2 K g u L S Q ∧ Dj17 L f M S (q :: Q) D (fun z i => (z.f, i) ∈ D) k ∧ Blk z.2.2 bx 88 [.int .i64 q.cost, .int .i64 q.hops, .int .i64 q.node] ∧ Q.length + 1 + rest17 L D M = m ∧ m ≤ 1000 ∧ u + rest17 L D M ≤ 1000))
/-- A queue with all that it was, or what has come out of it. -/
theorem rnd_of17 {w0 W : World} {K : Sk17} {ab : Nat} {ac : List Value} {L : List Lk} {f t : Int} {M : Nat} {g u bx : Nat} {S : Nt} {Ql : List Itm} {D : List (Int × Nat)} {k : Int} (hlo : w0.heap.size ≤ bx) (hg : bx ≠ g) (hab : Blk W ab 60 ac) (hno : ∀ i, (t, i) ∉ D) (hs : Sy17 w0 W K g u L S Ql.tail) (hd : Dj17 L f M S Ql D (fun z i => (z.f, i) ∈ D) k)
    (hb : Blk W bx 88 [.int .i64 (hdQ Ql).cost, .int .i64 (hdQ Ql).hops, .int .i64 (hdQ Ql).node]) (hm : Ql.length + rest17 L D M ≤ 1000) (hu : u + rest17 L D M ≤ 1000) : ∃ m, Rnd17 w0 K ab ac L f t M m (.pointer (some ⟨bx, 0, none⟩), .int .i64 (erQ Ql), W) ∧ m ≤ Ql.length + rest17 L D M := by
  cases Ql with
  | nil => exact ⟨0, ⟨g, u, S, D, k, bx, rfl, hlo, hg, hab, hno, .inl ⟨rfl, hs, hd, rfl⟩⟩, Nat.zero_le _⟩
  | cons q Q => exact ⟨Q.length + 1 + rest17 L D M, ⟨g, u, S, D, k, bx, rfl, hlo, hg, hab, hno, .inr ⟨q, Q, rfl, hs, hd, hb, rfl, by simpa using hm, hu⟩⟩, by simp⟩
/-- The first one that comes to the end, as what is asked for. -/
theorem dj17_best {n H f t : Int} {L : List Lk} {S : Nt} {Q : List Itm} {D : List (Int × Nat)} {k : Int} {q : Itm} (hL : NetOk n L) (ha : 0 ≤ f ∧ f < n) (hn : n ≤ 16) (hH : 0 ≤ H) (h : Dj17 L f (most17 H) S (q :: Q) D (fun z i => (z.f, i) ∈ D) k) (hq : q.node = t) (hno : ∀ i, (t, i) ∉ D) :
    ∃ (j : Nat) (r : List Int), q.hops = (j : Int) ∧ S t j = some (q.cost, r) ∧ Best17 L H f t q.cost r := by
  subst hq
  obtain ⟨j, r, h1, h2, h3, h4, h5, h6⟩ := h.best hL hno
  exact ⟨j, r, h1, h2, ⟨h3, (lim_most hL ha hn hH h3).2 (by omega)⟩, fun c' r' hw hl => h6 c' r' hw.wk ((lim_most hL ha hn hH hw).1 hl)⟩
theorem dj17_none {n H f t : Int} {L : List Lk} {S : Nt} {D : List (Int × Nat)} {k : Int} (hL : NetOk n L) (ha : 0 ≤ f ∧ f < n) (hn : n ≤ 16) (hH : 0 ≤ H) (h : Dj17 L f (most17 H) S [] D (fun z i => (z.f, i) ∈ D) k) (hno : ∀ i, (t, i) ∉ D) :
    ∀ c' r', Wy L f t c' r' → ¬ Lim17 H r' :=
  fun c' r' hw hl => h.none hL hno c' r' hw.wk ((lim_most hL ha hn hH hw).1 hl)
theorem most17_le (H : Int) : most17 H ≤ 15 := by unfold most17; split <;> omega

set_option maxHeartbeats 8000000 in
theorem find_ok17 : FindOk17 := by
  intro n f t b m c l a p w hx ha hi hr hm hn hf ht hh
  have hl1 := bel_new (Below.refl w.heap.size w) (.cells (akc a.w p).toArray 60)
  have B1 := Lib.hid (Blk.new w 60 (akc a.w p))
  have L1 := Lib.hid hl1
  have HIA := Lib.hid (show (Tryz.prog.info? 60).map (·.size) = some (akc a.w p).length from infoAkP)
  have R1 := Lib.hid ((hr.below hl1).more hl1.size)
  have I1 := Lib.hid (hi.below hl1)
  have HMF := Lib.hid (fun W (h : Row adc W W.heap.size b m l) => mayfind17_calls n f t b m c l a p W h hm hn)
  have HLK := Lib.hid (fun W (h : AkIn W W.heap.size a p) (h2 : Row adc W W.heap.size b m l) => links16c_calls a ha p b m c l hx W h h2 hm)
  unfold Lks16 at HLK
  obtain ⟨M, hM⟩ : ∃ M, most17 p.h = M := ⟨_, rfl⟩
  have HMO := Lib.hid (fun (h : 0 ≤ p.h) W => most17_calls a.w p h W)
  rw [hM] at HMO
  have HM := Lib.hid hM
  have HM15 := Lib.hid (show M ≤ 15 from hM ▸ most17_le p.h)
  obtain ⟨L, hL⟩ : ∃ L, lks16 l a = L := ⟨_, rfl⟩
  have HLL := Lib.hid (show L.length ≤ m from by rw [← hL, ← hr.1]; exact lks16_length l a)
  unfold Fnd17
  rw [hL] at HLK ⊢
  have HLD := Lib.hid hL
  have HFI := Lib.hid (And.intro hf hr.1)
  clear hl1 hx ha hi hr hm hn hf ht hh hM hL
  go_enter Tryz.func11, Tryz.ntmps11
  go_upto_region 1 with fail
  obtain ⟨ab, hab⟩ : ∃ ab, ab = w.heap.size := ⟨_, rfl⟩
  rw [← hab] at B1 ⊢
  have HAB := Lib.hid hab
  clear hab
  generalize (w.alloc (.cells (akc a.w p).toArray 60)) = w1 at *
  go_wp2_with (refine step_load (o := ⟨some 19, _, _, _, _, _⟩) rfl rfl rfl B1.out Tryz.underlying60 rfl HIA.out ?_)
  ((with_reducible refine (HMF.out w1 R1.out).mono ?_))
  rintro e w2 ⟨d, rfl, hd, hb⟩
  have L2 := Lib.hid (show Below w1.heap.size w1 w2 from hb)
  have LW2 := Lib.hid (show Below w.heap.size w w2 from by
    have h0 : Below w.heap.size w w1 := L1.out
    exact h0.trans (hb.mono h0.size))
  have HD := Lib.hid hd
  clear hd hb HMF
  cases d with
  | false =>
    have HV := Lib.hid (show ¬ ok17 n l a p.h f t from fun h => by have := HD.out.2 h; cases this)
    go_wp2
    refine bodyPost_ret (v := .tuple #[.slice none 0 0, .int .i64 0, .int .i64 2]) (by simp [results, Tryz.results11, go_sem]) rfl ?_
    exact ⟨none, 0, [], 0, 2, rfl, AccR.nil _ _ _, LW2.out, fun _ => ⟨rfl, rfl, rfl⟩, fun h => absurd h HV.out⟩
  | true =>
  have hok : ok17 n l a p.h f t := HD.out.1 rfl
  have HOK := Lib.hid hok
  have hnet := ok17_net hok
  rw [HLD.out] at hnet
  have HNET := Lib.hid hnet
  have HL64 := Lib.hid (show L.length ≤ 64 from by
    have h1 := (net_of_chk hok.1).2.2.1
    rw [List.length_map, HFI.out.2] at h1
    exact Nat.le_trans HLL.out h1)
  have HFN := Lib.hid hok.2.1
  have HH := Lib.hid hok.2.2.2.2.2
  have B2 := Lib.hid (B1.out.below L2.out)
  have R2 := Lib.hid ((R1.out.below L2.out).more L2.out.size)
  have I2 := Lib.hid (I1.out.below L2.out)
  clear hok hnet HD B1 R1 I1
  go_upto_region 3 with fail
  go_wp2_with (refine step_load (o := ⟨some 25, _, _, _, _, _⟩) rfl rfl rfl B2.out Tryz.underlying60 rfl HIA.out ?_)
  ((with_reducible refine (HLK.out w2 I2.out R2.out).mono ?_))
  rintro e w3 ⟨A3, c3, rfl, a3, hb⟩
  have LW3 := Lib.hid (show Below w.heap.size w w3 from LW2.out.trans (hb.mono LW2.out.size))
  have B3 := Lib.hid (B2.out.below hb)
  have A3' := Lib.hid (show AccL16 w3 w.heap.size A3 c3 L from AccR.lower a3 LW2.out.size)
  clear a3 hb B2 R2 I2 HLK
  go_wp2_with fail
  ((with_reducible refine (newsearch17_calls A3 c3 L w w3 A3'.out LW3.out).mono ?_))
  rintro e w4 ⟨K, g, rfl, _, _, hs4, hb⟩
  have H4 := Lib.hid hs4
  have B4 := Lib.hid (B3.out.below hb)
  clear hs4 hb B3 A3'
  go_wp2_with fail
  have X5 := Lib.hid (Blk.new w4 3 [.int .i64 f])
  have hb5 := bel_new (Below.refl w4.heap.size w4) (.cells #[.int .i64 f] 3)
  have H5 := Lib.hid (H4.out.below hb5)
  have B5 := Lib.hid (B4.out.below hb5)
  have L5 := Lib.hid H4.out.bel.size
  clear hb5
  generalize hxb : w4.heap.size = xb at *
  clear hxb
  generalize w4.alloc (.cells #[.int .i64 f] 3) = w5 at *
  have hoff := offer17_calls (w0 := w) (w := w5) (K := K) (g := g) (u := 0) (L := L) (S := fun _ _ => none) (Q := []) ⟨_, H5.out⟩ (some ⟨xb, 0, none⟩) 1 1 0 [f] f 0
    (Blk.acci (l := [f]) X5.out L5.out (by simp)) rfl rfl (by omega) rfl (by have h1 := HFN.out; have h2 := HNET.out.2; omega) (Int.le_refl _) (by simp) (by omega)
  ((with_reducible refine hoff.mono ?_))
  rintro e w6 ⟨rfl, g6, hf6, hcase⟩
  have h6 : Sy17 w w6 K g6 1 L (nt0 f) [⟨0, 0, f⟩] := by
    rcases hcase with ⟨p0, hp0, _⟩ | ⟨_, h⟩
    · cases hp0
    · exact h
  have B6 := Lib.hid (show Blk w6 ab 60 (akc a.w p) from B5.out.same (hf6.block B5.out.lt (H5.out.off B5.out.ty (by decide) (by decide))))
  have D6 := Lib.hid (dj17_first (L := L) (a := f) (M := M))
  obtain ⟨E6, hs6⟩ := h6
  have H6 := Lib.hid hs6
  clear hoff hcase hs6 hf6 X5 L5 H5 B5 H4 B4
  have cq6 : w6.cell? ⟨K.s, 2, none⟩ = some (.pointer (some ⟨K.q, 0, none⟩)) := H6.out.head.cell 2
  have hp5 := qpop_calls H6.out.queue
  unfold QPopPost at hp5
  rw [show (Value.agg (itL (hdQ [⟨0, 0, f⟩])).toArray) = .agg #[.int .i64 0, .int .i64 0, .int .i64 f] from rfl, show erQ [⟨0, 0, f⟩] = 0 from rfl] at hp5
  have HP5 := Lib.hid hp5
  clear hp5
  go_wp2_with fail
  ((with_reducible refine HP5.out.mono ?_))
  rintro e w7 ⟨rfl, hq7, ht7⟩
  have ht7' : Turn [K.b, K.p, g6] w6 w7 := turn_more ht7 (by simp)
  have H7 := Lib.hid (H6.out.turn ht7' (H6.out.notes.same (ht7.block _ H6.out.notes.lt (by have := H6.out.apart.2; simp; omega))) hq7 (fun x i => .inl ⟨rfl, rfl⟩))
  have B7 := Lib.hid (show Blk w7 ab 60 (akc a.w p) from B6.out.same (ht7'.block ab B6.out.lt (H6.out.off B6.out.ty (by decide) (by decide))))
  clear hq7 ht7 ht7' cq6 H6 B6 HP5
  go_wp2_with fail
  obtain ⟨ff, hff⟩ := least_of (Rnd17 w K ab (akc a.w p) L f t M)
  have HFF := Lib.hid hff
  clear hff
  have hst : ∃ m0, Rnd17 w K ab (akc a.w p) L f t M m0 (.pointer (some ⟨w7.heap.size, 0, none⟩), .int .i64 0, w7.alloc (.cells #[.int .i64 0, .int .i64 0, .int .i64 f] 88)) := by
    have hb8 := bel_new (Below.refl w7.heap.size w7) (.cells #[.int .i64 0, .int .i64 0, .int .i64 f] 88)
    have h1 := rest17_le L [] M
    have h2 : M * L.length ≤ 15 * 64 := Nat.mul_le_mul HM15.out HL64.out
    obtain ⟨m0, h0, _⟩ := rnd_of17 (Ql := [⟨0, 0, f⟩]) (D := []) (k := 0) (t := t) (u := 1) (show w.heap.size ≤ w7.heap.size from H7.out.bel.size) (show w7.heap.size ≠ g6 from by have := H7.out.queue.lt; omega) (B7.out.below hb8) (fun i => by simp) ⟨E6, H7.out.below hb8⟩ D6.out (Blk.new w7 _ [.int .i64 0, .int .i64 0, .int .i64 f])
      (by simp; omega) (by omega)
    exact ⟨m0, h0⟩
  have HST := Lib.hid hst
  clear hst H7 B7 D6
  go_loopw [14, 15] (fun s t' W => ∃ m0, Rnd17 w K ab (akc a.w p) L f t M m0 (s, t', W)) (fun s t' W => ff (s, t', W))
  case atStart => exact HST.out
  case round =>
    have hm0 := HFF.out (u14, u15, wr) hrel
    obtain ⟨mm, hM⟩ : ∃ M, M = ff (u14, u15, wr) := ⟨_, rfl⟩
    rw [← hM] at hm0
    have HM0 := Lib.hid hM
    obtain ⟨⟨g', u', S, D, kk, bx, he1, hlo, hbg, hba, hno, hcase⟩, _⟩ := hm0
    simp only at he1
    subst he1
    have NO := Lib.hid hno
    have BA := Lib.hid (show Blk wr ab 60 (akc a.w p) from hba)
    clear hrel HST hM hno hba
    rcases hcase with ⟨he2, hsy, hdj, _⟩ | ⟨q, Q, he2, hsy, hdj, hbk, hq1, hq2, hq3⟩
    · simp only at he2
      subst he2
      obtain ⟨E', hs⟩ := hsy
      simp only at hs
      have BB := Lib.hid hs.bel
      have NN := Lib.hid (show ∀ c' r', Wy L f t c' r' → ¬ Lim17 p.h r' from dj17_none HNET.out.1 HFN.out HNET.out.2 HH.out (by rw [HM.out]; exact hdj) NO.out)
      clear hs hdj
      go_wp2
      refine bodyPost_ret (v := .tuple #[.slice none 0 0, .int .i64 0, .int .i64 8]) (by simp [results, Tryz.results11, go_sem]) rfl ?_
      exact ⟨none, 0, [], 0, 8, rfl, AccR.nil _ _ _, BB.out, fun h => absurd HOK.out h, fun _ => .inr ⟨rfl, rfl, rfl, NN.out⟩⟩
    · simp only at he2
      subst he2
      obtain ⟨E', hs⟩ := hsy
      simp only at hs hbk
      obtain ⟨_, j, hj, hjM, _⟩ := hdj.que q (List.mem_cons_self ..)
      obtain ⟨hpop, hfr⟩ := hdj.pop hj
      obtain ⟨qc, qh, qn⟩ := q
      simp only at hj hbk hpop hfr
      subst hj
      have DJ := Lib.hid hdj
      have H := Lib.hid hs
      have XX := Lib.hid hbk
      have HPOP := Lib.hid (And.intro hpop hfr)
      have HQM := Lib.hid (And.intro hq1 (And.intro hq2 hq3))
      have HLO := Lib.hid (And.intro hlo hbg)
      have HJM := Lib.hid hjM
      have x0 : wr.cell? ⟨bx, 0, none⟩ = some (.int .i64 qc) := hbk.cell 0
      have x1 : wr.cell? ⟨bx, 1, none⟩ = some (.int .i64 (j : Int)) := hbk.cell 1
      have x2 : wr.cell? ⟨bx, 2, none⟩ = some (.int .i64 qn) := hbk.cell 2
      clear hs hbk hdj hpop hfr hq1 hq2 hq3 hlo hbg hjM
      go_upto_region 9 with fail
      have hb9 := bel_new (Below.refl wr.heap.size wr) (.cells #[.int .i64 qn, .int .i64 (j : Int)] 96)
      have T9 := Lib.hid (Blk.new wr 96 [.int .i64 qn, .int .i64 (j : Int)])
      have L9 := Lib.hid hb9
      have H9 := Lib.hid (H.out.below hb9)
      have B9 := Lib.hid (BA.out.below hb9)
      have X9 := Lib.hid (XX.out.below hb9)
      clear hb9 x0 x1 x2
      obtain ⟨tb, htb⟩ : ∃ tb, tb = wr.heap.size := ⟨_, rfl⟩
      rw [← htb] at T9 ⊢
      have HTB := Lib.hid htb
      clear htb
      generalize (wr.alloc (.cells #[.int .i64 qn, .int .i64 (j : Int)] 96)) = w9 at *
      have t0 : w9.cell? ⟨tb, 0, none⟩ = some (.int .i64 qn) := T9.out.cell 0
      have t1 : w9.cell? ⟨tb, 1, none⟩ = some (.int .i64 (j : Int)) := T9.out.cell 1
      clear H BA XX
      by_cases hqt : qn = t
      · have q1 : (qn == t) = true := by simpa using hqt
        obtain ⟨j2, r, hj2, hsj, hbest⟩ := dj17_best HNET.out.1 HFN.out HNET.out.2 HH.out (by rw [HM.out]; exact DJ.out) hqt NO.out
        simp only at hj2 hbest hsj
        obtain rfl : j = j2 := by omega
        rw [← hqt] at hsj
        have hnote := H9.out.ok qn j
        rw [hsj] at hnote
        obtain ⟨⟨c1, ⟨ya, yn, yc⟩⟩, hE⟩ : ∃ p, E' qn j = some p := by
          cases hs : E' qn j with
          | none => rw [hs] at hnote; exact absurd hnote (by simp [NoteOk17])
          | some p => exact ⟨p, rfl⟩
        rw [hE] at hnote
        obtain ⟨e1, _, hyn, _, hya⟩ := hnote
        subst e1
        replace hyn : yn = r.length := hyn
        subst hyn
        have YA := Lib.hid (show AccI w9 w.heap.size ya yc r from hya)
        have HB := Lib.hid hbest
        have hwf : WfP qn j := by
          have h1 := HOK.out.2.2.1
          have h2 := HNET.out.2
          have h3 := HJM.out
          have h4 := HM15.out
          exact wfp_of (by omega) (by omega) (by omega)
        have heget : eget E' qn j = (c1, ⟨ya, r.length, yc⟩) := by unfold eget; rw [hE]; rfl
        have HLK := Lib.hid (fun W (hW : Below w9.heap.size w9 W) => (show (Instr.lookup 90 (.map (some K.b)) (.agg #[.int .i64 qn, .int .i64 (j : Int)]) false).run Tryz.prog W = .ok (.agg #[.int .i64 c1, .slice ya r.length yc]) W from by
          have := (H9.out.below hW).notes.look hwf
          rw [heget] at this
          exact this))
        have HS := Lib.hid (fun W (hW : Below w9.heap.size w9 W) => And.intro (H9.out.below hW).head (T9.out.below hW))
        have BB := Lib.hid H9.out.bel
        obtain ⟨N, hN⟩ : ∃ N, r.length = N := ⟨_, rfl⟩
        rw [hN] at HLK
        have HNN := Lib.hid hN
        clear hbest hsj hE hya hwf heget hqt hj2 hN
        go_wp2_with fail
        refine region_seq (fun W => Below w9.heap.size w9 W) [(0, true), (1, true), (2, true), (3, true), (4, true), (5, true), (6, true), (7, true), (8, true), (9, true), (10, true), (11, true), (12, true), (13, true), (14, true), (15, true), (16, true)]
          (by kernel_rfl) (by kernel_rfl) (by kernel_rfl) (by kernel_rfl) (fun _ _ _ _ _ h => h) (Below.refl _ _).drew ?_
        repeat first
          | refine seq_look17 (T := 90) (b := false) (mb := K.b) rfl (by rfl) rfl rfl rfl HLK.out ?_
            simp only [Act.put, List.setIfInBounds_toArray, List.set_cons_zero, List.set_cons_succ]
          | refine seq_pure (v := ?_) rfl (by rfl) (fun W hW => ?_) ?_
            rotate_left
            · obtain ⟨h1, h2⟩ := HS.out W hW
              have d0 : W.cell? ⟨K.s, 1, none⟩ = some (.map (some K.b)) := h1.cell 1
              have d1 : W.cell? ⟨tb, 0, none⟩ = some (.int .i64 qn) := h2.cell 0
              have d2 : W.cell? ⟨tb, 1, none⟩ = some (.int .i64 (j : Int)) := h2.cell 1
              have d3 : (Instr.field 86 (.agg #[.int .i64 c1, .slice ya N yc]) 1).run Tryz.prog W = .ok (.slice ya N yc) W := by kernel_rfl
              have d4 : (Instr.field 86 (.agg #[.int .i64 c1, .slice ya N yc]) 0).run Tryz.prog W = .ok (.int .i64 c1) W := by kernel_rfl
              clear h1 h2 hW
              go_simp
              with_reducible rfl
            simp only [Act.put, List.setIfInBounds_toArray, List.set_cons_zero, List.set_cons_succ]
        refine seq_done ?_
        go_wp2
        refine bodyPost_ret (v := .tuple #[.slice ya N yc, .int .i64 c1, .int .i64 0]) (by simp [results, Tryz.results11, go_sem]) rfl ?_
        exact ⟨ya, yc, r, c1, 0, by rw [HNN.out], AccR.bel YA.out (Below.refl _ _).drew, BB.out.drew, fun h => absurd HOK.out h, fun _ => .inl ⟨rfl, HB.out⟩⟩
      · have q1 : (qn == t) = false := by simpa using hqt
        have NO7 := Lib.hid (show ∀ i, (t, i) ∉ (qn, j) :: D from fun i hi => by
          rcases List.mem_cons.1 hi with e | hi
          · injection e with e1 _
            exact hqt e1.symm
          · exact NO.out i hi)
        clear hqt
        go_wp2_with fail
        refine region_seq (fun W => Below w9.heap.size w9 W) [(0, true), (1, true), (2, true), (3, false), (4, true)]
          (by kernel_rfl) (by kernel_rfl) (by kernel_rfl) (by kernel_rfl) (fun _ _ _ _ _ h => h) (Below.refl _ _).drew ?_
        repeat first
          | refine seq_load8 (x := .tmp 7) rfl (by rfl) rfl rfl (fun W hW => B9.out.below hW) Tryz.underlying60 rfl HIA.out ?_
            simp only [Act.put, List.setIfInBounds_toArray, List.set_cons_zero, List.set_cons_succ]
          | refine seq_pure (v := ?_) rfl (by rfl) (fun W hW => ?_) ?_
            rotate_left
            · have h2 := T9.out.below hW
              have d1 : W.cell? ⟨tb, 1, none⟩ = some (.int .i64 (j : Int)) := h2.cell 1
              clear h2 hW
              go_simp
              with_reducible rfl
            simp only [Act.put, List.setIfInBounds_toArray, List.set_cons_zero, List.set_cons_succ]
        refine seq_make rfl (by rfl) (fun K' hK' => ?_)
        go_simp
        ((with_reducible refine (HMO.out HH.out w9.drew).mono ?_))
        rintro e w10 ⟨rfl, hb⟩
        have L10 := Lib.hid (show Below w9.heap.size w9 w10 from below_of_drew hb)
        clear hb
        go_simp
        refine hK' _ _ (fun W => Below w9.heap.size w9 W) (fun W h => h) L10.out ?_
        clear hK' K'
        have hjm := HJM.out
        by_cases hlt : j < M
        · have q2 : decide ((j : Int) < (M : Int)) = true := by simp; omega
          have q3 : decide (j < M) = true := by simp; omega
          have HLT := Lib.hid hlt
          clear hlt hjm t0 t1
          repeat
            refine seq_pure (v := ?_) rfl (by rfl) (fun W hW => ?_) ?_
            rotate_left
            · clear hW
              go_simp
              with_reducible rfl
            simp only [Act.put, List.setIfInBounds_toArray, List.set_cons_zero, List.set_cons_succ]
          refine seq_done ?_
          have H10 := Lib.hid (H9.out.below L10.out)
          have B10 := Lib.hid (B9.out.below L10.out)
          have X10 := Lib.hid (X9.out.below L10.out)
          have t0 : w10.cell? ⟨tb, 0, none⟩ = some (.int .i64 qn) := (T9.out.below L10.out).cell 0
          have t1 : w10.cell? ⟨tb, 1, none⟩ = some (.int .i64 (j : Int)) := (T9.out.below L10.out).cell 1
          have hlv := leave17_calls (w0 := w) (w := w10) (K := K) (g := g') (u := u') (S := S) (Q := Q) ⟨E', H10.out⟩ (n := n) (a := f) (M := M) (L := L) (D := D) (k := qc) (x := qn) (j := j) HNET.out.1 HFN.out HNET.out.2 HL64.out HM15.out HLT.out HPOP.out.1 HPOP.out.2 (by have := HQM.out; omega)
          have HLV := Lib.hid hlv
          clear hlv
          go_wp2_with fail
          ((with_reducible refine HLV.out.mono ?_))
          rintro e w7 ⟨rfl, g7, u7, S7, Q7, hf7, ⟨E7, hs7⟩, hdj7, hlen7, hu7⟩
          have H7 := Lib.hid hs7
          have DJ7 := Lib.hid hdj7
          have LEN7 := Lib.hid (And.intro hlen7 hu7)
          have B7 := Lib.hid (show Blk w7 ab 60 (akc a.w p) from B10.out.same (hf7.block B10.out.lt (H10.out.off B10.out.ty (by decide) (by decide))))
          have tq := H10.out.queue.ty
          have X7 := Lib.hid (show Blk w7 bx 88 [.int .i64 qc, .int .i64 (j : Int), .int .i64 qn] from X10.out.same (hf7.block X10.out.lt (by
            have h1 := ne_ty0 X10.out.ty H10.out.notes.ty
            have h2 := ne_ty X10.out.ty tq.2.1 (by decide)
            have h3 := HLO.out.2
            simp
            omega)))
          clear hs7 hdj7 hlen7 hu7 hf7 tq t0 t1 HLV
          have e0 : w7.cell? ⟨bx, 0, none⟩ = some (.int .i64 qc) := X7.out.cell 0
          have e1 : w7.cell? ⟨bx, 1, none⟩ = some (.int .i64 (j : Int)) := X7.out.cell 1
          have e2 : w7.cell? ⟨bx, 2, none⟩ = some (.int .i64 qn) := X7.out.cell 2
          go_upto_region 7 with fail
          have X8 := Lib.hid (Blk.new w7 88 [.int .i64 qc, .int .i64 (j : Int), .int .i64 qn])
          have hb8 := bel_new (Below.refl w7.heap.size w7) (.cells #[.int .i64 qc, .int .i64 (j : Int), .int .i64 qn] 88)
          have H8 := Lib.hid (H7.out.below hb8)
          have B8 := Lib.hid (B7.out.below hb8)
          clear hb8
          obtain ⟨bz, hbz⟩ : ∃ bz, bz = w7.heap.size := ⟨_, rfl⟩
          have HBZ := Lib.hid (show w.heap.size ≤ bz ∧ bz ≠ g7 ∧ bz ≠ K.p from by
            have h1 := H7.out.bel.size
            have h2 := H7.out.queue.lt
            omega)
          rw [← hbz] at X8 ⊢
          generalize w7.alloc (.cells #[.int .i64 qc, .int .i64 (j : Int), .int .i64 qn] 88) = w8 at *
          clear e0 e1 e2 hbz
          have cq8 : w8.cell? ⟨K.s, 2, none⟩ = some (.pointer (some ⟨K.q, 0, none⟩)) := H8.out.head.cell 2
          have hp8 := qpop_calls H8.out.queue
          unfold QPopPost at hp8
          rw [show (Value.agg (itL (hdQ Q7)).toArray) = .agg #[.int .i64 (hdQ Q7).cost, .int .i64 (hdQ Q7).hops, .int .i64 (hdQ Q7).node] from rfl] at hp8
          have HP8 := Lib.hid hp8
          clear hp8
          go_wp2_with fail
          ((with_reducible refine HP8.out.mono ?_))
          rintro e w9 ⟨rfl, hq9, ht9⟩
          have ht9' : Turn [K.b, K.p, g7] w8 w9 := turn_more ht9 (by simp)
          have H9 := Lib.hid (H8.out.turn ht9' (H8.out.notes.same (ht9.block _ H8.out.notes.lt (by have := H8.out.apart.2; simp; omega))) hq9 (fun x i => .inl ⟨rfl, rfl⟩))
          have x9 : Blk w9 bz 88 [.int .i64 qc, .int .i64 (j : Int), .int .i64 qn] := X8.out.same (ht9.block bz X8.out.lt (by have := HBZ.out; simp; omega))
          have B9 := Lib.hid (show Blk w9 ab 60 (akc a.w p) from B8.out.same (ht9'.block ab B8.out.lt (H8.out.off B8.out.ty (by decide) (by decide))))
          have X9 := Lib.hid x9
          have f0 := x9.free 0
          have f1 := x9.free 1
          have f2 := x9.free 2
          have c0 : w9.cell? ⟨bz, 0, none⟩ = some (.int .i64 qc) := x9.cell 0
          have c1 : w9.cell? ⟨bz, 1, none⟩ = some (.int .i64 (j : Int)) := x9.cell 1
          have c2 : w9.cell? ⟨bz, 2, none⟩ = some (.int .i64 qn) := x9.cell 2
          clear hq9 ht9 ht9' x9 HP8 cq8
          go_wp2_with fail
          have hp := put3 X9.out (.int .i64 (hdQ Q7).cost) (.int .i64 (hdQ Q7).hops) (.int .i64 (hdQ Q7).node)
          have hs10 := fun hg => H9.out.beside X9.out HBZ.out.2.1 HBZ.out.1 (w' := ((w9.setCell ⟨bz, 0, none⟩ (.int .i64 (hdQ Q7).cost)).setCell ⟨bz, 1, none⟩ (.int .i64 (hdQ Q7).hops)).setCell ⟨bz, 2, none⟩ (.int .i64 (hdQ Q7).node)) hg
          clear f0 f1 f2 c0 c1 c2
          generalize ((w9.setCell ⟨bz, 0, none⟩ (.int .i64 (hdQ Q7).cost)).setCell ⟨bz, 1, none⟩ (.int .i64 (hdQ Q7).hops)).setCell ⟨bz, 2, none⟩ (.int .i64 (hdQ Q7).node) = w10 at *
          obtain ⟨hb10, hg10⟩ := hp
          have ba10 : Blk w10 ab 60 (akc a.w p) := B9.out.same (hg10.block ab B9.out.lt (by have := ne_ty B9.out.ty X9.out.ty (by decide); simpa using this))
          obtain ⟨m1, hm1, hle⟩ := rnd_of17 (Ql := Q7) (t := t) HBZ.out.1 HBZ.out.2.1 ba10 NO7.out ⟨E7, hs10 hg10⟩ DJ7.out hb10 (by have := LEN7.out; have := HQM.out; omega) (by have := LEN7.out; have := HQM.out; omega)
          have HM1 := Lib.hid hm1
          have HLE := Lib.hid (show m1 < mm from by have h1 := LEN7.out; have h2 := HQM.out; omega)
          have HMM := Lib.hid HM0.out
          clear hb10 hg10 hs10 hm1 hle ba10
          go_roundw
          case rel => exact ⟨m1, HM1.out⟩
          case measure =>
            have h1 := (HFF.out _ ⟨m1, HM1.out⟩).2 m1 HM1.out
            have h2 := HMM.out
            rw [h2] at HLE
            exact Nat.lt_of_le_of_lt h1 HLE.out
        · have q2 : decide ((j : Int) < (M : Int)) = false := by simp; omega
          have q3 : decide (j < M) = false := by simp; omega
          have HJE := Lib.hid (show j = M from by omega)
          clear hlt hjm t0 t1
          repeat
            refine seq_pure (v := ?_) rfl (by rfl) (fun W hW => ?_) ?_
            rotate_left
            · clear hW
              go_simp
              with_reducible rfl
            simp only [Act.put, List.setIfInBounds_toArray, List.set_cons_zero, List.set_cons_succ]
          refine seq_done ?_
          obtain ⟨w7, hw7⟩ : ∃ w7, w7 = w10 := ⟨_, rfl⟩
          rw [← hw7]
          rw [← hw7] at L10
          obtain ⟨g7, hg7⟩ : ∃ g7, g7 = g' := ⟨_, rfl⟩
          obtain ⟨u7, hu7⟩ : ∃ u7, u7 = u' := ⟨_, rfl⟩
          obtain ⟨E7, hE7⟩ : ∃ E7, E7 = E' := ⟨_, rfl⟩
          obtain ⟨S7, hS7⟩ : ∃ S7, S7 = S := ⟨_, rfl⟩
          obtain ⟨Q7, hQ7⟩ : ∃ Q7, Q7 = Q := ⟨_, rfl⟩
          have H7 := Lib.hid (show Sea17 w w7 K g7 u7 L E7 S7 Q7 from by rw [hg7, hu7, hE7, hS7, hQ7]; exact H9.out.below L10.out)
          have B7 := Lib.hid (B9.out.below L10.out)
          have X7 := Lib.hid (X9.out.below L10.out)
          have DJ7 := Lib.hid (show Dj17 L f M S7 Q7 ((qn, j) :: D) (fun z i => (z.f, i) ∈ (qn, j) :: D) qc from by
            rw [hS7, hQ7]
            refine HPOP.out.1.less (fun z _ i hi hF => ?_) (fun z _ i hF => hF)
            rcases List.mem_cons.1 hF with e | hF
            · injection e with _ e2
              have := HJE.out
              omega
            · exact hF)
          have LEN7 := Lib.hid (show Q7.length + rest17 L ((qn, j) :: D) M ≤ Q.length + rest17 L D M ∧ u7 + rest17 L ((qn, j) :: D) M ≤ u' + rest17 L D M from by
            have := rest17_mono L D (qn, j) M
            rw [hQ7, hu7]
            omega)
          clear hw7 hg7 hu7 hE7 hS7 hQ7
          have e0 : w7.cell? ⟨bx, 0, none⟩ = some (.int .i64 qc) := X7.out.cell 0
          have e1 : w7.cell? ⟨bx, 1, none⟩ = some (.int .i64 (j : Int)) := X7.out.cell 1
          have e2 : w7.cell? ⟨bx, 2, none⟩ = some (.int .i64 qn) := X7.out.cell 2
          go_upto_region 7 with fail
          have X8 := Lib.hid (Blk.new w7 88 [.int .i64 qc, .int .i64 (j : Int), .int .i64 qn])
          have hb8 := bel_new (Below.refl w7.heap.size w7) (.cells #[.int .i64 qc, .int .i64 (j : Int), .int .i64 qn] 88)
          have H8 := Lib.hid (H7.out.below hb8)
          have B8 := Lib.hid (B7.out.below hb8)
          clear hb8
          obtain ⟨bz, hbz⟩ : ∃ bz, bz = w7.heap.size := ⟨_, rfl⟩
          have HBZ := Lib.hid (show w.heap.size ≤ bz ∧ bz ≠ g7 ∧ bz ≠ K.p from by
            have h1 := H7.out.bel.size
            have h2 := H7.out.queue.lt
            omega)
          rw [← hbz] at X8 ⊢
          generalize w7.alloc (.cells #[.int .i64 qc, .int .i64 (j : Int), .int .i64 qn] 88) = w8 at *
          clear e0 e1 e2 hbz
          have cq8 : w8.cell? ⟨K.s, 2, none⟩ = some (.pointer (some ⟨K.q, 0, none⟩)) := H8.out.head.cell 2
          have hp8 := qpop_calls H8.out.queue
          unfold QPopPost at hp8
          rw [show (Value.agg (itL (hdQ Q7)).toArray) = .agg #[.int .i64 (hdQ Q7).cost, .int .i64 (hdQ Q7).hops, .int .i64 (hdQ Q7).node] from rfl] at hp8
          have HP8 := Lib.hid hp8
          clear hp8
          go_wp2_with fail
          ((with_reducible refine HP8.out.mono ?_))
          rintro e w9 ⟨rfl, hq9, ht9⟩
          have ht9' : Turn [K.b, K.p, g7] w8 w9 := turn_more ht9 (by simp)
          have H9 := Lib.hid (H8.out.turn ht9' (H8.out.notes.same (ht9.block _ H8.out.notes.lt (by have := H8.out.apart.2; simp; omega))) hq9 (fun x i => .inl ⟨rfl, rfl⟩))
          have x9 : Blk w9 bz 88 [.int .i64 qc, .int .i64 (j : Int), .int .i64 qn] := X8.out.same (ht9.block bz X8.out.lt (by have := HBZ.out; simp; omega))
          have B9 := Lib.hid (show Blk w9 ab 60 (akc a.w p) from B8.out.same (ht9'.block ab B8.out.lt (H8.out.off B8.out.ty (by decide) (by decide))))
          have X9 := Lib.hid x9
          have f0 := x9.free 0
          have f1 := x9.free 1
          have f2 := x9.free 2
          have c0 : w9.cell? ⟨bz, 0, none⟩ = some (.int .i64 qc) := x9.cell 0
          have c1 : w9.cell? ⟨bz, 1, none⟩ = some (.int .i64 (j : Int)) := x9.cell 1
          have c2 : w9.cell? ⟨bz, 2, none⟩ = some (.int .i64 qn) := x9.cell 2
          clear hq9 ht9 ht9' x9 HP8 cq8
          go_wp2_with fail
          have hp := put3 X9.out (.int .i64 (hdQ Q7).cost) (.int .i64 (hdQ Q7).hops) (.int .i64 (hdQ Q7).node)
          have hs10 := fun hg => H9.out.beside X9.out HBZ.out.2.1 HBZ.out.1 (w' := ((w9.setCell ⟨bz, 0, none⟩ (.int .i64 (hdQ Q7).cost)).setCell ⟨bz, 1, none⟩ (.int .i64 (hdQ Q7).hops)).setCell ⟨bz, 2, none⟩ (.int .i64 (hdQ Q7).node)) hg
          clear f0 f1 f2 c0 c1 c2
          generalize ((w9.setCell ⟨bz, 0, none⟩ (.int .i64 (hdQ Q7).cost)).setCell ⟨bz, 1, none⟩ (.int .i64 (hdQ Q7).hops)).setCell ⟨bz, 2, none⟩ (.int .i64 (hdQ Q7).node) = w10 at *
          obtain ⟨hb10, hg10⟩ := hp
          have ba10 : Blk w10 ab 60 (akc a.w p) := B9.out.same (hg10.block ab B9.out.lt (by have := ne_ty B9.out.ty X9.out.ty (by decide); simpa using this))
          obtain ⟨m1, hm1, hle⟩ := rnd_of17 (Ql := Q7) (t := t) HBZ.out.1 HBZ.out.2.1 ba10 NO7.out ⟨E7, hs10 hg10⟩ DJ7.out hb10 (by have := LEN7.out; have := HQM.out; omega) (by have := LEN7.out; have := HQM.out; omega)
          have HM1 := Lib.hid hm1
          have HLE := Lib.hid (show m1 < mm from by have h1 := LEN7.out; have h2 := HQM.out; omega)
          have HMM := Lib.hid HM0.out
          clear hb10 hg10 hs10 hm1 hle ba10
          go_roundw
          case rel => exact ⟨m1, HM1.out⟩
          case measure =>
            have h1 := (HFF.out _ ⟨m1, HM1.out⟩).2 m1 HM1.out
            have h2 := HMM.out
            rw [h2] at HLE
            exact Nat.lt_of_le_of_lt h1 HLE.out
end Go.Proofs.YtjflbfianncpfaaGreat
