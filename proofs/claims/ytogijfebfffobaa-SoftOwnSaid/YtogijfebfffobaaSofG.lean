/-
  Contracts of package soft: Put, Drop. Condition: a route that reads as a list of at most 2^40 numbers.
-/
import Derived.Test.YtogijfebfffobaaSofF
namespace Go.Proofs.Ytogijfebfffobaa
set_option maxRecDepth 100000
set_option linter.unusedVariables false
open Go.RowKit

/-- What a call leaves that turned the table's block and that of its states alone. -/
theorem TbI18.step {w w' : World} {q most c c' : Nat} {ls ls' : List Ss} {S : List Nat} {A A' : Option Addr} (h : TbI18 w q most ls S A c) (hT : Turn (q :: (Go.Proofs.Ytogijfebfffobaa.blk A).toList) w w') (hb : Blk w' q 68 [.int .i64 (most : Int), .slice A' ls'.length c'])
    (ha : AccR ssc 17 w' 0 40 A' c' ls') (hA : Go.Proofs.Ytogijfebfffobaa.blk A' = Go.Proofs.Ytogijfebfffobaa.blk A ∨ ∃ g, Go.Proofs.Ytogijfebfffobaa.blk A' = some g ∧ w.heap.size ≤ g) (hs : ∀ s ∈ ls', s ∈ ls ∨ (AccI w' w.heap.size s.a s.c s.p.rt ∧ s.n = s.p.rt.length)) (ht : Tbl18 most (ls'.map (·.p))) :
    TbI18 w' q most ls' (foot18 q A' ls') A' c' ∧ Mv14 S w (foot18 q A' ls') w' := by
  refine ⟨⟨hb, ha, fun s hm => ?_, rfl, ht⟩, ⟨⟨hT.os, hT.tape, hT.output, hT.size, fun k hk hS => hT.block k hk (fun hm => hS ?_)⟩, fun b hm => ?_⟩⟩
  · rcases hs s hm with h1 | h1
    · refine ⟨AccR.keepB (h.rts s h1).1 (fun x hx => hT.block x (AccR.ge (h.rts s h1).1 hx).2 (fun hm => ?_)), (h.rts s h1).2⟩
      rcases List.mem_cons.1 hm with rfl | hm
      · exact accr_type18 (h.rts s h1).1 h.blk (by decide) _ hx rfl
      · exact accr_apart18 (h.rts s h1).1 h.acc (by decide) x hx (by simpa using hm)
    · exact ⟨AccR.lower h1.1 (Nat.zero_le _), h1.2⟩
  · rw [h.own]
    rcases List.mem_cons.1 hm with rfl | hm
    · exact mem_foot18.2 (.inl rfl)
    · exact mem_foot18.2 (.inr (.inl (by simpa using hm)))
  · rw [h.own]
    rcases mem_foot18.1 hm with rfl | hm | ⟨s, hm, hx⟩
    · exact .inl (mem_foot18.2 (.inl rfl))
    · rcases hA with e | ⟨g, e, hg⟩
      · exact .inl (mem_foot18.2 (.inr (.inl (by rw [← e]; exact hm))))
      · rw [e] at hm
        injection hm with hm
        exact .inr (by omega)
    · rcases hs s hm with h1 | h1
      · exact .inl (mem_foot18.2 (.inr (.inr ⟨s, h1, hx⟩)))
      · exact .inr (AccR.ge h1.1 hx).1
theorem cut18_plain {ls a m r : List Ss} {k : Ky} {i : Nat} {b : Bool} (h : Cut18 (fun s : Ss => s.p.k) ls k i b a m r) : Cut18 Sp.k (ls.map (·.p)) k i b (a.map (·.p)) (m.map (·.p)) (r.map (·.p)) := by
  refine ⟨by rw [h.eq, List.map_append, List.map_append], by rw [List.length_map]; exact h.len, fun y hy => ?_, fun y hy => ?_, ?_⟩
  · obtain ⟨s, hs, rfl⟩ := List.mem_map.1 hy; exact h.lo s hs
  · obtain ⟨s, hs, rfl⟩ := List.mem_map.1 hy; exact h.hi s hs
  · rcases h.mid with ⟨e, x, rfl, hk⟩ | ⟨e, rfl⟩
    · exact .inl ⟨e, x.p, rfl, hk⟩
    · exact .inr ⟨e, rfl⟩
set_option maxHeartbeats 6400000 in
theorem put18c_calls (q most : Nat) (l : List Sp) (S : List Nat) (s : Ss) (w : World) (h : TbC18 w q most l S) (hr : Row ei w w.heap.size s.a s.n s.p.rt) (hn : s.n ≤ 1099511627776) :
    Calls Try.prog 19 #[.pointer (some ⟨q, 0, none⟩), .agg (ssc s).toArray] w (Prt18 S q most (cput18 most l s.p) w) := by
  obtain ⟨ls, A, c, ht, rfl⟩ := h
  have bz := bel_new (Below.refl w.heap.size w) (.cells (ssc s).toArray 40)
  have T0 := Lib.hid ht
  have T1 := Lib.hid (ht.below bz)
  have B1 := Lib.hid (Blk.new w 40 (ssc s))
  have HL := Lib.hid bz
  have HR := Lib.hid ((hr.below bz).more bz.size)
  have HIN := Lib.hid (fun s : Ss => (show (Try.prog.info? 40).map (·.size) = some (ssc s).length from infoSsC))
  have HMY := Lib.hid (fun W (hW : Row ei W W.heap.size s.a s.n s.p.rt) => may18_calls s W hW (by unfold maxLen; omega))
  have HOW := Lib.hid (fun W (hW : Row ei W W.heap.size s.a s.n s.p.rt) => own18_calls s W hW hn)
  have HSN := Lib.hid hr.1
  obtain ⟨R, hR⟩ : ∃ R, cput18 most (ls.map (·.p)) s.p = R := ⟨_, rfl⟩
  rw [hR]
  have HRR := Lib.hid hR
  unfold Prt18
  clear ht bz hr hn hR
  go_enter Try.func19, Try.ntmps19
  go_upto_region 1 with fail
  generalize (w.alloc (.cells (ssc s).toArray 40)) = w1 at *
  have hm := T1.out.made
  go_wp2_with fail
  ((with_reducible refine hm.mono ?_))
  rintro e w9 ⟨rfl, rfl⟩
  clear hm
  have hmy := HMY.out w9 HR.out
  unfold Yes14 at hmy
  have HM := Lib.hid hmy
  clear hmy HMY
  go_wp2_with ((with_reducible refine step_load (o := ⟨some 10, _, _, _, _, _⟩) (x := .tmp 3) ?_ ?_ ?_ B1.out Try.underlying40 ?_ (HIN.out _) ?_); (rfl); (rfl); (rfl); (rfl))
  ((with_reducible refine HM.out.mono ?_))
  rintro e w2 ⟨rfl, hb⟩
  have T2 := Lib.hid (T1.out.below hb)
  have B2 := Lib.hid (B1.out.below hb)
  have HL2 := Lib.hid (HL.out.trans (hb.mono HL.out.size))
  have HR2 := Lib.hid ((HR.out.below hb).more hb.size)
  clear hb HM T1 B1 HL HR
  cases hmay : may18 s.p with
  | false =>
    have hrr : R = (ls.map (·.p), 2) := by rw [← HRR.out]; unfold cput18; rw [if_pos hmay]
    have HRX := Lib.hid hrr
    clear hmay hrr
    go_wp2_with fail
    go_ret
    rw [HRX.out]
    exact ⟨S, rfl, ⟨ls, A, c, T0.out.below HL2.out, rfl⟩, Mv14.of_below HL2.out⟩
  | true =>
    have HMT := Lib.hid hmay
    clear hmay
    have x0 : w2.cell? ⟨w.heap.size, 0, none⟩ = some (.int .i64 s.p.k.tail) := B2.out.cell 0
    have x1 : w2.cell? ⟨w.heap.size, 1, none⟩ = some (.int .i64 s.p.k.tun) := B2.out.cell 1
    have x2 : w2.cell? ⟨w.heap.size, 2, none⟩ = some (.int .i64 s.p.k.head) := B2.out.cell 2
    have x3 : w2.cell? ⟨w.heap.size, 3, none⟩ = some (.int .i64 s.p.k.lsp) := B2.out.cell 3
    have HF := Lib.hid (find18_calls ls.length c q (most : Int) A ls s.p.k w2 T2.out.blk T2.out.acc.row T2.out.srt (by have := T2.out.len; omega))
    go_wp2_with fail
    ((with_reducible refine HF.out.mono ?_))
    rintro e w3 ⟨i, b, rfl, hfd, hb⟩
    obtain ⟨a, m, r, hcut⟩ := hfd.cut T2.out.srt
    have T3 := Lib.hid (T2.out.below hb)
    have B3 := Lib.hid (B2.out.below hb)
    have HL3 := Lib.hid (HL2.out.trans (hb.mono HL2.out.size))
    have HR3 := Lib.hid ((HR2.out.below hb).more hb.size)
    have HCUT := Lib.hid hcut
    have HFD := Lib.hid hfd
    have HPL := Lib.hid (cut18_plain hcut)
    have HTP := Lib.hid (tbl18_put T0.out.tbl s.p)
    clear hb HF T2 B2 HL2 HR2 x0 x1 x2 x3 hfd hcut
    have hq1 : w3.cell? ⟨q, 1, none⟩ = some (.slice A ls.length c) := T3.out.blk.cell 1
    have hlen64 := T3.out.len
    cases b with
    | true =>
      obtain ⟨hi, hmm⟩ := HCUT.out.at_
      obtain ⟨g, rfl⟩ := T3.out.acc.at0 (by omega)
      have hrr : R = (put18 Sp.k (ls.map (·.p)) s.p, 0) := by
        rw [← HRR.out]; unfold cput18
        rw [if_neg (by rw [HMT.out]; simp), if_neg (by rw [HPL.out.has]; simp)]
      have HRX := Lib.hid hrr
      have hpt : put18 Sp.k (ls.map (·.p)) s.p = a.map (·.p) ++ s.p :: r.map (·.p) := HPL.out.put
      have HPT := Lib.hid hpt
      have hgq : g ≠ q := accr_type18 T3.out.acc T3.out.blk (by decide) g rfl
      have hgx : g ≠ w.heap.size := fun e => by have := (T0.out.acc.ge (x := g) rfl).2; omega
      have HG := Lib.hid (And.intro hgq hgx)
      have HI := Lib.hid hi
      have HIX := Lib.hid (And.intro hq1 hlen64)
      have HIS := Lib.hid (fun s : Ss => (show (Try.prog.info? 40).map (·.size) = some (ssc s).toArray.size from infoSsC))
      have HON := Lib.hid ssc_one
      have i1 : (i : Int) < (ls.length : Int) := by omega
      have i1' : i < ls.length := hi
      obtain ⟨n, hnn⟩ : ∃ n, ls.length = n := ⟨_, rfl⟩
      have HNN := Lib.hid hnn
      rw [hnn] at i1 i1' hlen64 hq1
      clear hmm hrr hpt hgq hgx hi hnn hlen64 hq1
      go_wp2_with fail
      refine region_seq (fun W => Blk W w.heap.size 40 (ssc s) ∧ W.cell? ⟨q, 1, none⟩ = some (.slice (some ⟨g, 0, none⟩) n c)) [(0, true), (1, true), (2, true), (3, true), (4, true), (5, true), (6, false), (7, true), (8, false)] (by kernel_rfl) (by kernel_rfl) (by kernel_rfl) (by kernel_rfl) (fun _ _ _ _ _ h => h) ⟨B3.out.drew, by rw [← HNN.out]; exact HIX.out.1⟩ ?_
      repeat first
        | refine seq_load8 (x := .tmp 3) rfl (by rfl) rfl rfl (fun W hW => hW.1) Try.underlying40 rfl (HIN.out _) ?_
          simp only [Act.put, List.setIfInBounds_toArray, List.set_cons_zero, List.set_cons_succ]
        | refine seq_pure (v := ?_) rfl (by rfl) (fun W hW => ?_) ?_
          rotate_left
          · have c1 := hW.2
            clear hW
            go_simp
            with_reducible rfl
          simp only [Act.put, List.setIfInBounds_toArray, List.set_cons_zero, List.set_cons_succ]
        | refine seq_skip rfl (by rfl) ?_
          simp only [Act.put, List.setIfInBounds_toArray, List.set_cons_zero, List.set_cons_succ]
      refine seq_make rfl (by rfl) (fun K hK => ?_)
      go_simp
      ((with_reducible refine (HOW.out w3.drew HR3.out.drewS18).mono ?_))
      rintro e w4 ⟨A2, c2, rfl, hacc, hb⟩
      have hb' : Below w3.heap.size w3 w4 := below_of_drew hb
      have T4 := Lib.hid (T3.out.below hb')
      have B4 := Lib.hid (B3.out.below hb')
      have HL4 := Lib.hid (HL3.out.trans (hb'.mono HL3.out.size))
      have HA4 := Lib.hid (show AccI w4 w.heap.size A2 c2 s.p.rt from hacc.lower HL3.out.size)
      clear hacc hb hb'
      go_simp
      refine hK _ w4 _ (fun _ h => h) ⟨B4.out, by rw [← HNN.out]; exact T4.out.blk.cell 1⟩ ?_
      clear hK K
      repeat first
        | refine seq_load8 (x := .tmp 3) rfl (by rfl) rfl rfl (fun W hW => hW.1) Try.underlying40 rfl (HIN.out _) ?_
          simp only [Act.put, List.setIfInBounds_toArray, List.set_cons_zero, List.set_cons_succ]
        | refine seq_pure (v := ?_) rfl (by rfl) (fun W hW => ?_) ?_
          rotate_left
          · have c1 := hW.2
            clear hW
            go_simp
            with_reducible rfl
          simp only [Act.put, List.setIfInBounds_toArray, List.set_cons_zero, List.set_cons_succ]
        | refine seq_skip rfl (by rfl) ?_
          simp only [Act.put, List.setIfInBounds_toArray, List.set_cons_zero, List.set_cons_succ]
      refine seq_make rfl (by rfl) (fun K hK => ?_)
      have hst := accr_put ssc_length T4.out.acc HI.out ⟨s.p, A2, s.n, c2⟩
      have hth := accr_there ssc_length T4.out.acc HI.out
      refine wp_store_mid 40 (.tmp 41) (.tmp 40) rfl g (i * 17) (ssc ⟨s.p, A2, s.n, c2⟩).toArray rfl rfl hth (HIS.out _) (all_oneCell_toArray (HON.out _)) ?_
      have hw : (w4.setCells g (i * 17) (ssc ⟨s.p, A2, s.n, c2⟩).toArray.toList) = (w4.setCells g (i * 17) (ssc ⟨s.p, A2, s.n, c2⟩)) := rfl
      rw [hw]
      have HST := Lib.hid hst
      clear hw hth hst
      generalize w4.setCells g (i * 17) (ssc ⟨s.p, A2, s.n, c2⟩) = w5 at *
      have B5 := Lib.hid (show Blk w5 w.heap.size 40 (ssc s) from B4.out.same (HST.out.2.block _ B4.out.lt (fun e => HG.out.2 (by injection e with e; omega))))
      have C5 := Lib.hid (show Blk w5 q 68 [.int .i64 (most : Int), .slice (some ⟨g, 0, none⟩) ls.length c] from T4.out.blk.same (HST.out.2.block _ T4.out.blk.lt (fun e => HG.out.1 (by injection e with e; omega))))
      refine hK _ w5 _ (fun W h => h) ⟨B5.out, by rw [← HNN.out]; exact C5.out.cell 1⟩ ?_
      clear hK K
      refine seq_done ?_
      go_wp2_with fail
      go_ret
      rw [HRX.out]
      have hT : Turn (q :: (blk (some (⟨g, 0, none⟩ : Addr))).toList) w w5 := (Turn.of_below HL4.out).trans (Turn.of_grown HST.out.2 (by simp [blk]))
      have hA5 : AccI w5 w.heap.size A2 c2 s.p.rt := AccR.kept HA4.out HST.out.2 (fun x hx e => accr_apart18 HA4.out T4.out.acc (by decide) x hx (by rw [← e]; rfl))
      have hset : ls.set i ⟨s.p, A2, s.n, c2⟩ = a ++ ⟨s.p, A2, s.n, c2⟩ :: r := HCUT.out.set
      have hmap : (ls.set i ⟨s.p, A2, s.n, c2⟩).map (·.p) = put18 Sp.k (ls.map (·.p)) s.p := by rw [hset, HPT.out, List.map_append, List.map_cons]
      have htb : Tbl18 most ((ls.set i (⟨s.p, A2, s.n, c2⟩ : Ss)).map (·.p)) := by
        have := HTP.out
        rw [HRR.out, HRX.out] at this
        rw [hmap]; exact this
      obtain ⟨h1, h2⟩ := T0.out.step (ls' := ls.set i ⟨s.p, A2, s.n, c2⟩) hT (by rw [List.length_set]; exact C5.out) HST.out.1 (.inl rfl) (fun y hy => by
        rcases List.mem_or_eq_of_mem_set hy with h | rfl
        · exact .inl h
        · exact .inr ⟨hA5, HSN.out.symm⟩) htb
      exact ⟨_, rfl, ⟨_, _, _, h1, hmap⟩, h2⟩
    | false =>
      have hq0 : w3.cell? ⟨q, 0, none⟩ = some (.int .i64 (most : Int)) := T3.out.blk.cell 0
      have HIX := Lib.hid (And.intro hq0 (And.intro hq1 hlen64))
      have HHS := Lib.hid HPL.out.has
      obtain ⟨n, hnn⟩ : ∃ n, ls.length = n := ⟨_, rfl⟩
      have HNN := Lib.hid hnn
      have HIN2 := Lib.hid HFD.out.le
      obtain ⟨d, hd⟩ : ∃ d, decide ((most : Int) ≤ (n : Int)) = d := ⟨_, rfl⟩
      have hd' : decide (most ≤ n) = d := by rw [← hd]; exact decide_eq_decide.2 (by omega)
      have HD := Lib.hid hd'
      rw [hnn] at hlen64
      clear hq0 hq1 hnn
      go_wp2_with fail
      refine region_seq (fun W => Below w3.heap.size w3 W) [(0, true), (1, true), (2, true), (3, true), (4, true), (5, true), (6, true), (7, true), (8, true), (9, true), (10, true)] (by kernel_rfl) (by kernel_rfl) (by kernel_rfl) (by kernel_rfl) (fun _ _ _ _ _ h => h) (Below.refl _ _).drew ?_
      repeat first
        | refine seq_pure (v := ?_) rfl (by rfl) (fun W hW => ?_) ?_
          rotate_left
          · have hb := T3.out.blk.below hW
            have c0 : W.cell? ⟨q, 0, none⟩ = some (.int .i64 (most : Int)) := hb.cell 0
            have c1 : W.cell? ⟨q, 1, none⟩ = some (.slice A n c) := by rw [← HNN.out]; exact hb.cell 1
            clear hb
            clear hW
            go_simp
            with_reducible rfl
          simp only [Act.put, List.setIfInBounds_toArray, List.set_cons_zero, List.set_cons_succ]
        | refine seq_skip rfl (by rfl) ?_
          simp only [Act.put, List.setIfInBounds_toArray, List.set_cons_zero, List.set_cons_succ]
      refine seq_done ?_
      have B4 := Lib.hid B3.out.drew
      have T4 := Lib.hid (T3.out.below (Below.refl _ _).drew)
      have L4 := Lib.hid HL3.out.drew
      have HR4 := Lib.hid (show Row ei w3.drew w3.drew.heap.size s.a s.n s.p.rt from HR3.out.drewS18)
      clear B3 T3 HL3 HR3 HIX hd hd'
      generalize w3.drew = w4 at *
      cases d with
      | true =>
        have hrr : R = (ls.map (·.p), 7) := by
          rw [← HRR.out]; unfold cput18
          rw [if_neg (by rw [HMT.out]; simp), if_pos ⟨HHS.out, by rw [List.length_map, HNN.out]; exact of_decide_eq_true HD.out⟩]
        have HRX := Lib.hid hrr
        clear hrr
        go_wp2_with fail
        go_ret
        rw [HRX.out]
        exact ⟨S, rfl, ⟨ls, A, c, T0.out.below L4.out, rfl⟩, Mv14.of_below L4.out⟩
      | false =>
        have hrr : R = (put18 Sp.k (ls.map (·.p)) s.p, 0) := by
          rw [← HRR.out]; unfold cput18
          rw [if_neg (by rw [HMT.out]; simp), if_neg (fun h => by have h2 := h.2; rw [List.length_map, HNN.out] at h2; exact absurd h2 (of_decide_eq_false HD.out))]
        have HRX := Lib.hid hrr
        have hpt : put18 Sp.k (ls.map (·.p)) s.p = a.map (·.p) ++ s.p :: r.map (·.p) := HPL.out.put
        have HPT := Lib.hid hpt
        clear hrr hpt
        have hw4 : Below w4.heap.size w4 w4.drew := (Below.refl _ _).drew
        have T4d := Lib.hid (T4.out.below hw4)
        have B4d := Lib.hid (B4.out.below hw4)
        clear hw4
        go_wp2_with fail
        refine region_way (fun W => Blk W w.heap.size 40 (ssc s)) (.step 0 true (.step 1 true (.step 2 true (.step 3 true (.step 5 true (.step 6 true (.both 4 7 (.step 7 false (.step 8 false (.step 9 false (.step 10 true (.step 11 true (.step 12 false .done)))))) (.both 4 8 (.step 8 false (.step 9 false (.step 10 true (.step 11 true (.step 12 false .done))))) (.step 4 false (.step 9 false (.step 10 true (.step 11 true (.step 12 false .done))))))))))))) (by kernel_rfl) (by kernel_rfl) (by kernel_rfl) (by kernel_rfl) (fun _ _ _ _ _ h => h) B4d.out ?_
        repeat first
          | refine way_load14 (x := .tmp 3) rfl (by rfl) rfl rfl (fun W hW => hW) Try.underlying40 rfl (HIN.out _) ?_
            simp only [Act.put, List.setIfInBounds_toArray, List.set_cons_zero, List.set_cons_succ]
          | refine way_pure (v := ?_) rfl (by rfl) (fun W hW => ?_) ?_
            rotate_left
            · clear hW
              go_simp
              with_reducible rfl
            simp only [Act.put, List.setIfInBounds_toArray, List.set_cons_zero, List.set_cons_succ]
        refine way_both rfl (by rfl) rfl (by rfl) (fun K hK => ?_) (fun K hK => ?_)
        · have c1 : w4.drew.cell? ⟨q, 1, none⟩ = some (.slice A n c) := by rw [← HNN.out]; exact T4d.out.blk.cell 1
          go_simp
          clear c1
          refine hK _ _ _ (fun _ h => h) B4d.out ?_
          clear hK K
          refine way_make rfl (by rfl) (fun K hK => ?_)
          go_simp
          ((with_reducible refine (HOW.out w4.drew HR4.out.drewS18).mono ?_))
          rintro e w5 ⟨A2, c2, rfl, hacc, hb⟩
          have hb' : Below w4.heap.size w4 w5 := below_of_drew hb
          have T5 := Lib.hid (T4.out.below hb')
          have B5 := Lib.hid (B4.out.below hb')
          have L5 := Lib.hid (L4.out.trans (hb'.mono L4.out.size))
          have HA5 := Lib.hid (show AccI w5 w.heap.size A2 c2 s.p.rt from hacc.lower L4.out.size)
          clear hacc hb hb'
          go_simp
          refine hK _ w5 _ (fun _ h => h) B5.out ?_
          clear hK K
          refine way_make rfl (by rfl) (fun K hK => ?_)
          have bn := bel_new (Below.refl w5.heap.size w5) (.cells (ssc ⟨s.p, A2, s.n, c2⟩).toArray 40)
          have V6 := Lib.hid (Blk.new w5 40 (ssc ⟨s.p, A2, s.n, c2⟩))
          have T6 := Lib.hid (T5.out.below bn)
          have B6 := Lib.hid (B5.out.below bn)
          have L6 := Lib.hid (L5.out.trans (bn.mono L5.out.size))
          have HA6 := Lib.hid (show AccI (w5.alloc (.cells (ssc ⟨s.p, A2, s.n, c2⟩).toArray 40)) w.heap.size A2 c2 s.p.rt from AccR.alloc HA5.out _)
          have HV := Lib.hid L5.out.size
          clear bn
          refine op_build18 (x := .tmp 27) (vs := ssc ⟨s.p, A2, s.n, c2⟩) rfl rfl Try.underlying58 (show (Try.prog.info? 40).map (fun i => (i.zero, i.size, i.bytes)) = some (some zss, (ssc ⟨s.p, A2, s.n, c2⟩).length, 144) from infoSsZC) (by rw [ssc_length]; decide) (by rw [ssc_length]; decide) ?_
          refine hK _ _ _ (fun _ h => h) B6.out ?_
          clear hK K
          generalize (w5.alloc (.cells (ssc ⟨s.p, A2, s.n, c2⟩).toArray 40)) = w6 at *
          generalize w5.heap.size = vb at *
          refine way_make rfl (by rfl) (fun K hK => ?_)
          have hins := insert18_calls A n c i vb 0 ls ⟨s.p, A2, s.n, c2⟩ w6 T6.out.acc HNN.out (by rw [← HNN.out]; exact HIN2.out) (by omega) (Nat.zero_le _) V6.out (fun g hg e => by have := (T0.out.acc.ge hg).2; have := HV.out; omega)
          unfold Ins18 at hins
          rw [HNN.out] at hins
          have HINS := Lib.hid hins
          clear hins
          go_simp
          ((with_reducible refine HINS.out.mono ?_))
          rintro e w7 ⟨A7, c7, rfl, hacc, hgr, hbk⟩
          have hng : ∀ b, b < w6.heap.size → (∀ g, blk A = some g → b ≠ g) → w7.heap[b]? = w6.heap[b]? := fun b hb h => hgr.block b hb (fun e => h b e.symm rfl)
          have B7 := Lib.hid (show Blk w7 w.heap.size 40 (ssc s) from B6.out.same (hng _ B6.out.lt (fun g hg e => by have := (T0.out.acc.ge hg).2; omega)))
          have C7 := Lib.hid (show Blk w7 q 68 [.int .i64 (most : Int), .slice A ls.length c] from T6.out.blk.same (hng _ T6.out.blk.lt (fun g hg e => accr_type18 T6.out.acc T6.out.blk (by decide) g hg e.symm)))
          have HA7 := Lib.hid (show AccI w7 w.heap.size A2 c2 s.p.rt from AccR.kept HA6.out hgr (fun x hx e => accr_apart18 HA6.out T6.out.acc (by decide) x hx e))
          have AC7 := Lib.hid hacc
          have HT7 := Lib.hid (show Turn (q :: (blk A).toList) w w7 from (Turn.of_below L6.out).trans ⟨hgr.os, hgr.tape, hgr.output, hgr.size, fun k hk hm => hgr.block k hk (fun e => hm (List.mem_cons_of_mem _ (by rw [← e]; simp)))⟩)
          have HBK := Lib.hid hbk
          have HSZ := Lib.hid L6.out.size
          clear hacc hgr hbk hng HINS T6 B6 L6 HA6 V6
          go_simp
          refine hK _ w7 _ (fun _ h => h) B7.out ?_
          clear hK K
          repeat first
            | refine way_load14 (x := .tmp 3) rfl (by rfl) rfl rfl (fun W hW => hW) Try.underlying40 rfl (HIN.out _) ?_
              simp only [Act.put, List.setIfInBounds_toArray, List.set_cons_zero, List.set_cons_succ]
            | refine way_pure (v := ?_) rfl (by rfl) (fun W hW => ?_) ?_
              rotate_left
              · clear hW
                go_simp
                with_reducible rfl
              simp only [Act.put, List.setIfInBounds_toArray, List.set_cons_zero, List.set_cons_succ]
          refine way_make rfl (by rfl) (fun K hK => ?_)
          have c1 : w7.cell? ⟨q, 1, none⟩ = some (.slice A ls.length c) := C7.out.cell 1
          have f1 := C7.out.free 1
          go_simp
          have hqx : w.heap.size ≠ q := fun e => by have := T0.out.blk.lt; omega
          have hs := C7.out.set 1 (.slice A7 (n + 1) c7)
          have hu := upd_set_p w7 q 1 (.slice A7 (n + 1) c7)
          have B8 := Lib.hid (show Blk (w7.setCell ⟨q, 1, none⟩ (.slice A7 (n + 1) c7)) w.heap.size 40 (ssc s) from B7.out.same (hu.block _ B7.out.lt (fun e => hqx (by first | exact (Option.some.inj e).symm | exact Option.some.inj e))))
          have C8 := Lib.hid (show Blk (w7.setCell ⟨q, 1, none⟩ (.slice A7 (n + 1) c7)) q 68 [.int .i64 (most : Int), .slice A7 (n + 1) c7] from hs)
          have HA8 := Lib.hid (show AccI (w7.setCell ⟨q, 1, none⟩ (.slice A7 (n + 1) c7)) w.heap.size A2 c2 s.p.rt from hacc18 HA7.out C7.out hu)
          have AC8 := Lib.hid (AccR.kept AC7.out hu (fun x hx e => accr_type18 AC7.out C7.out (by decide) x hx (by first | exact (Option.some.inj e).symm | exact Option.some.inj e)))
          have HT8 := Lib.hid (HT7.out.trans (Turn.of_grown hu (List.mem_cons_self)))
          clear hs hu c1 f1 hqx
          refine hK _ _ _ (fun _ h => h) B8.out ?_
          clear hK K
          generalize w7.setCell ⟨q, 1, none⟩ (.slice A7 (n + 1) c7) = w8 at *
          refine way_done ?_
          go_wp2_with fail
          go_ret
          rw [HRX.out]
          have hins : ls.take i ++ ⟨s.p, A2, s.n, c2⟩ :: ls.drop i = a ++ ⟨s.p, A2, s.n, c2⟩ :: r := HCUT.out.insert
          have hmap : (ls.take i ++ (⟨s.p, A2, s.n, c2⟩ : Ss) :: ls.drop i).map (·.p) = put18 Sp.k (ls.map (·.p)) s.p := by rw [hins, HPT.out, List.map_append, List.map_cons]
          have hln : (ls.take i ++ (⟨s.p, A2, s.n, c2⟩ : Ss) :: ls.drop i).length = n + 1 := by
            have := HIN2.out
            rw [← HNN.out]; simp; omega
          have htb : Tbl18 most ((ls.take i ++ (⟨s.p, A2, s.n, c2⟩ : Ss) :: ls.drop i).map (·.p)) := by
            have := HTP.out
            rw [HRR.out, HRX.out] at this
            rw [hmap]; exact this
          obtain ⟨h1, h2⟩ := T0.out.step (ls' := ls.take i ++ ⟨s.p, A2, s.n, c2⟩ :: ls.drop i) HT8.out (by rw [hln]; exact C8.out) AC8.out (HBK.out.imp id fun ⟨g, e, hg⟩ => ⟨g, e, Nat.le_trans HSZ.out hg⟩) (fun y hy => by
            rcases List.mem_append.1 hy with h | h
            · exact .inl (List.mem_of_mem_take h)
            · rcases List.mem_cons.1 h with rfl | h
              · exact .inr ⟨HA8.out, HSN.out.symm⟩
              · exact .inl (List.mem_of_mem_drop h)) htb
          exact ⟨_, rfl, ⟨_, _, _, h1, hmap⟩, h2⟩
        · go_simp
          ((with_reducible refine (HOW.out w4.drew HR4.out.drewS18).mono ?_))
          rintro e w5 ⟨A2, c2, rfl, hacc, hb⟩
          have hb' : Below w4.heap.size w4 w5 := below_of_drew hb
          have T5 := Lib.hid (T4.out.below hb')
          have B5 := Lib.hid (B4.out.below hb')
          have L5 := Lib.hid (L4.out.trans (hb'.mono L4.out.size))
          have HA5 := Lib.hid (show AccI w5 w.heap.size A2 c2 s.p.rt from hacc.lower L4.out.size)
          clear hacc hb hb'
          go_simp
          refine hK _ w5 _ (fun _ h => h) B5.out ?_
          clear hK K
          refine way_both rfl (by rfl) rfl (by rfl) (fun K hK => ?_) (fun K hK => ?_)
          · have c1 : w5.cell? ⟨q, 1, none⟩ = some (.slice A n c) := by rw [← HNN.out]; exact T5.out.blk.cell 1
            go_simp
            clear c1
            refine hK _ _ _ (fun _ h => h) B5.out ?_
            clear hK K
            refine way_make rfl (by rfl) (fun K hK => ?_)
            have bn := bel_new (Below.refl w5.heap.size w5) (.cells (ssc ⟨s.p, A2, s.n, c2⟩).toArray 40)
            have V6 := Lib.hid (Blk.new w5 40 (ssc ⟨s.p, A2, s.n, c2⟩))
            have T6 := Lib.hid (T5.out.below bn)
            have B6 := Lib.hid (B5.out.below bn)
            have L6 := Lib.hid (L5.out.trans (bn.mono L5.out.size))
            have HA6 := Lib.hid (show AccI (w5.alloc (.cells (ssc ⟨s.p, A2, s.n, c2⟩).toArray 40)) w.heap.size A2 c2 s.p.rt from AccR.alloc HA5.out _)
            have HV := Lib.hid L5.out.size
            clear bn
            refine op_build18 (x := .tmp 27) (vs := ssc ⟨s.p, A2, s.n, c2⟩) rfl rfl Try.underlying58 (show (Try.prog.info? 40).map (fun i => (i.zero, i.size, i.bytes)) = some (some zss, (ssc ⟨s.p, A2, s.n, c2⟩).length, 144) from infoSsZC) (by rw [ssc_length]; decide) (by rw [ssc_length]; decide) ?_
            refine hK _ _ _ (fun _ h => h) B6.out ?_
            clear hK K
            generalize (w5.alloc (.cells (ssc ⟨s.p, A2, s.n, c2⟩).toArray 40)) = w6 at *
            generalize w5.heap.size = vb at *
            refine way_make rfl (by rfl) (fun K hK => ?_)
            have hins := insert18_calls A n c i vb 0 ls ⟨s.p, A2, s.n, c2⟩ w6 T6.out.acc HNN.out (by rw [← HNN.out]; exact HIN2.out) (by omega) (Nat.zero_le _) V6.out (fun g hg e => by have := (T0.out.acc.ge hg).2; have := HV.out; omega)
            unfold Ins18 at hins
            rw [HNN.out] at hins
            have HINS := Lib.hid hins
            clear hins
            go_simp
            ((with_reducible refine HINS.out.mono ?_))
            rintro e w7 ⟨A7, c7, rfl, hacc, hgr, hbk⟩
            have hng : ∀ b, b < w6.heap.size → (∀ g, blk A = some g → b ≠ g) → w7.heap[b]? = w6.heap[b]? := fun b hb h => hgr.block b hb (fun e => h b e.symm rfl)
            have B7 := Lib.hid (show Blk w7 w.heap.size 40 (ssc s) from B6.out.same (hng _ B6.out.lt (fun g hg e => by have := (T0.out.acc.ge hg).2; omega)))
            have C7 := Lib.hid (show Blk w7 q 68 [.int .i64 (most : Int), .slice A ls.length c] from T6.out.blk.same (hng _ T6.out.blk.lt (fun g hg e => accr_type18 T6.out.acc T6.out.blk (by decide) g hg e.symm)))
            have HA7 := Lib.hid (show AccI w7 w.heap.size A2 c2 s.p.rt from AccR.kept HA6.out hgr (fun x hx e => accr_apart18 HA6.out T6.out.acc (by decide) x hx e))
            have AC7 := Lib.hid hacc
            have HT7 := Lib.hid (show Turn (q :: (blk A).toList) w w7 from (Turn.of_below L6.out).trans ⟨hgr.os, hgr.tape, hgr.output, hgr.size, fun k hk hm => hgr.block k hk (fun e => hm (List.mem_cons_of_mem _ (by rw [← e]; simp)))⟩)
            have HBK := Lib.hid hbk
            have HSZ := Lib.hid L6.out.size
            clear hacc hgr hbk hng HINS T6 B6 L6 HA6 V6
            go_simp
            refine hK _ w7 _ (fun _ h => h) B7.out ?_
            clear hK K
            repeat first
              | refine way_load14 (x := .tmp 3) rfl (by rfl) rfl rfl (fun W hW => hW) Try.underlying40 rfl (HIN.out _) ?_
                simp only [Act.put, List.setIfInBounds_toArray, List.set_cons_zero, List.set_cons_succ]
              | refine way_pure (v := ?_) rfl (by rfl) (fun W hW => ?_) ?_
                rotate_left
                · clear hW
                  go_simp
                  with_reducible rfl
                simp only [Act.put, List.setIfInBounds_toArray, List.set_cons_zero, List.set_cons_succ]
            refine way_make rfl (by rfl) (fun K hK => ?_)
            have c1 : w7.cell? ⟨q, 1, none⟩ = some (.slice A ls.length c) := C7.out.cell 1
            have f1 := C7.out.free 1
            go_simp
            have hqx : w.heap.size ≠ q := fun e => by have := T0.out.blk.lt; omega
            have hs := C7.out.set 1 (.slice A7 (n + 1) c7)
            have hu := upd_set_p w7 q 1 (.slice A7 (n + 1) c7)
            have B8 := Lib.hid (show Blk (w7.setCell ⟨q, 1, none⟩ (.slice A7 (n + 1) c7)) w.heap.size 40 (ssc s) from B7.out.same (hu.block _ B7.out.lt (fun e => hqx (by first | exact (Option.some.inj e).symm | exact Option.some.inj e))))
            have C8 := Lib.hid (show Blk (w7.setCell ⟨q, 1, none⟩ (.slice A7 (n + 1) c7)) q 68 [.int .i64 (most : Int), .slice A7 (n + 1) c7] from hs)
            have HA8 := Lib.hid (show AccI (w7.setCell ⟨q, 1, none⟩ (.slice A7 (n + 1) c7)) w.heap.size A2 c2 s.p.rt from hacc18 HA7.out C7.out hu)
            have AC8 := Lib.hid (AccR.kept AC7.out hu (fun x hx e => accr_type18 AC7.out C7.out (by decide) x hx (by first | exact (Option.some.inj e).symm | exact Option.some.inj e)))
            have HT8 := Lib.hid (HT7.out.trans (Turn.of_grown hu (List.mem_cons_self)))
            clear hs hu c1 f1 hqx
            refine hK _ _ _ (fun _ h => h) B8.out ?_
            clear hK K
            generalize w7.setCell ⟨q, 1, none⟩ (.slice A7 (n + 1) c7) = w8 at *
            refine way_done ?_
            go_wp2_with fail
            go_ret
            rw [HRX.out]
            have hins : ls.take i ++ ⟨s.p, A2, s.n, c2⟩ :: ls.drop i = a ++ ⟨s.p, A2, s.n, c2⟩ :: r := HCUT.out.insert
            have hmap : (ls.take i ++ (⟨s.p, A2, s.n, c2⟩ : Ss) :: ls.drop i).map (·.p) = put18 Sp.k (ls.map (·.p)) s.p := by rw [hins, HPT.out, List.map_append, List.map_cons]
            have hln : (ls.take i ++ (⟨s.p, A2, s.n, c2⟩ : Ss) :: ls.drop i).length = n + 1 := by
              have := HIN2.out
              rw [← HNN.out]; simp; omega
            have htb : Tbl18 most ((ls.take i ++ (⟨s.p, A2, s.n, c2⟩ : Ss) :: ls.drop i).map (·.p)) := by
              have := HTP.out
              rw [HRR.out, HRX.out] at this
              rw [hmap]; exact this
            obtain ⟨h1, h2⟩ := T0.out.step (ls' := ls.take i ++ ⟨s.p, A2, s.n, c2⟩ :: ls.drop i) HT8.out (by rw [hln]; exact C8.out) AC8.out (HBK.out.imp id fun ⟨g, e, hg⟩ => ⟨g, e, Nat.le_trans HSZ.out hg⟩) (fun y hy => by
              rcases List.mem_append.1 hy with h | h
              · exact .inl (List.mem_of_mem_take h)
              · rcases List.mem_cons.1 h with rfl | h
                · exact .inr ⟨HA8.out, HSN.out.symm⟩
                · exact .inl (List.mem_of_mem_drop h)) htb
            exact ⟨_, rfl, ⟨_, _, _, h1, hmap⟩, h2⟩
          · have bn := bel_new (Below.refl w5.heap.size w5) (.cells (ssc ⟨s.p, A2, s.n, c2⟩).toArray 40)
            have V6 := Lib.hid (Blk.new w5 40 (ssc ⟨s.p, A2, s.n, c2⟩))
            have T6 := Lib.hid (T5.out.below bn)
            have B6 := Lib.hid (B5.out.below bn)
            have L6 := Lib.hid (L5.out.trans (bn.mono L5.out.size))
            have HA6 := Lib.hid (show AccI (w5.alloc (.cells (ssc ⟨s.p, A2, s.n, c2⟩).toArray 40)) w.heap.size A2 c2 s.p.rt from AccR.alloc HA5.out _)
            have HV := Lib.hid L5.out.size
            clear bn
            refine op_build18 (x := .tmp 27) (vs := ssc ⟨s.p, A2, s.n, c2⟩) rfl rfl Try.underlying58 (show (Try.prog.info? 40).map (fun i => (i.zero, i.size, i.bytes)) = some (some zss, (ssc ⟨s.p, A2, s.n, c2⟩).length, 144) from infoSsZC) (by rw [ssc_length]; decide) (by rw [ssc_length]; decide) ?_
            refine hK _ _ _ (fun _ h => h) B6.out ?_
            clear hK K
            generalize (w5.alloc (.cells (ssc ⟨s.p, A2, s.n, c2⟩).toArray 40)) = w6 at *
            generalize w5.heap.size = vb at *
            refine way_make rfl (by rfl) (fun K hK => ?_)
            have c1 : w6.cell? ⟨q, 1, none⟩ = some (.slice A n c) := by rw [← HNN.out]; exact T6.out.blk.cell 1
            go_simp
            clear c1
            refine hK _ _ _ (fun _ h => h) B6.out ?_
            clear hK K
            refine way_make rfl (by rfl) (fun K hK => ?_)
            have hins := insert18_calls A n c i vb 0 ls ⟨s.p, A2, s.n, c2⟩ w6 T6.out.acc HNN.out (by rw [← HNN.out]; exact HIN2.out) (by omega) (Nat.zero_le _) V6.out (fun g hg e => by have := (T0.out.acc.ge hg).2; have := HV.out; omega)
            unfold Ins18 at hins
            rw [HNN.out] at hins
            have HINS := Lib.hid hins
            clear hins
            go_simp
            ((with_reducible refine HINS.out.mono ?_))
            rintro e w7 ⟨A7, c7, rfl, hacc, hgr, hbk⟩
            have hng : ∀ b, b < w6.heap.size → (∀ g, blk A = some g → b ≠ g) → w7.heap[b]? = w6.heap[b]? := fun b hb h => hgr.block b hb (fun e => h b e.symm rfl)
            have B7 := Lib.hid (show Blk w7 w.heap.size 40 (ssc s) from B6.out.same (hng _ B6.out.lt (fun g hg e => by have := (T0.out.acc.ge hg).2; omega)))
            have C7 := Lib.hid (show Blk w7 q 68 [.int .i64 (most : Int), .slice A ls.length c] from T6.out.blk.same (hng _ T6.out.blk.lt (fun g hg e => accr_type18 T6.out.acc T6.out.blk (by decide) g hg e.symm)))
            have HA7 := Lib.hid (show AccI w7 w.heap.size A2 c2 s.p.rt from AccR.kept HA6.out hgr (fun x hx e => accr_apart18 HA6.out T6.out.acc (by decide) x hx e))
            have AC7 := Lib.hid hacc
            have HT7 := Lib.hid (show Turn (q :: (blk A).toList) w w7 from (Turn.of_below L6.out).trans ⟨hgr.os, hgr.tape, hgr.output, hgr.size, fun k hk hm => hgr.block k hk (fun e => hm (List.mem_cons_of_mem _ (by rw [← e]; simp)))⟩)
            have HBK := Lib.hid hbk
            have HSZ := Lib.hid L6.out.size
            clear hacc hgr hbk hng HINS T6 B6 L6 HA6 V6
            go_simp
            refine hK _ w7 _ (fun _ h => h) B7.out ?_
            clear hK K
            repeat first
              | refine way_load14 (x := .tmp 3) rfl (by rfl) rfl rfl (fun W hW => hW) Try.underlying40 rfl (HIN.out _) ?_
                simp only [Act.put, List.setIfInBounds_toArray, List.set_cons_zero, List.set_cons_succ]
              | refine way_pure (v := ?_) rfl (by rfl) (fun W hW => ?_) ?_
                rotate_left
                · clear hW
                  go_simp
                  with_reducible rfl
                simp only [Act.put, List.setIfInBounds_toArray, List.set_cons_zero, List.set_cons_succ]
            refine way_make rfl (by rfl) (fun K hK => ?_)
            have c1 : w7.cell? ⟨q, 1, none⟩ = some (.slice A ls.length c) := C7.out.cell 1
            have f1 := C7.out.free 1
            go_simp
            have hqx : w.heap.size ≠ q := fun e => by have := T0.out.blk.lt; omega
            have hs := C7.out.set 1 (.slice A7 (n + 1) c7)
            have hu := upd_set_p w7 q 1 (.slice A7 (n + 1) c7)
            have B8 := Lib.hid (show Blk (w7.setCell ⟨q, 1, none⟩ (.slice A7 (n + 1) c7)) w.heap.size 40 (ssc s) from B7.out.same (hu.block _ B7.out.lt (fun e => hqx (by first | exact (Option.some.inj e).symm | exact Option.some.inj e))))
            have C8 := Lib.hid (show Blk (w7.setCell ⟨q, 1, none⟩ (.slice A7 (n + 1) c7)) q 68 [.int .i64 (most : Int), .slice A7 (n + 1) c7] from hs)
            have HA8 := Lib.hid (show AccI (w7.setCell ⟨q, 1, none⟩ (.slice A7 (n + 1) c7)) w.heap.size A2 c2 s.p.rt from hacc18 HA7.out C7.out hu)
            have AC8 := Lib.hid (AccR.kept AC7.out hu (fun x hx e => accr_type18 AC7.out C7.out (by decide) x hx (by first | exact (Option.some.inj e).symm | exact Option.some.inj e)))
            have HT8 := Lib.hid (HT7.out.trans (Turn.of_grown hu (List.mem_cons_self)))
            clear hs hu c1 f1 hqx
            refine hK _ _ _ (fun _ h => h) B8.out ?_
            clear hK K
            generalize w7.setCell ⟨q, 1, none⟩ (.slice A7 (n + 1) c7) = w8 at *
            refine way_done ?_
            go_wp2_with fail
            go_ret
            rw [HRX.out]
            have hins : ls.take i ++ ⟨s.p, A2, s.n, c2⟩ :: ls.drop i = a ++ ⟨s.p, A2, s.n, c2⟩ :: r := HCUT.out.insert
            have hmap : (ls.take i ++ (⟨s.p, A2, s.n, c2⟩ : Ss) :: ls.drop i).map (·.p) = put18 Sp.k (ls.map (·.p)) s.p := by rw [hins, HPT.out, List.map_append, List.map_cons]
            have hln : (ls.take i ++ (⟨s.p, A2, s.n, c2⟩ : Ss) :: ls.drop i).length = n + 1 := by
              have := HIN2.out
              rw [← HNN.out]; simp; omega
            have htb : Tbl18 most ((ls.take i ++ (⟨s.p, A2, s.n, c2⟩ : Ss) :: ls.drop i).map (·.p)) := by
              have := HTP.out
              rw [HRR.out, HRX.out] at this
              rw [hmap]; exact this
            obtain ⟨h1, h2⟩ := T0.out.step (ls' := ls.take i ++ ⟨s.p, A2, s.n, c2⟩ :: ls.drop i) HT8.out (by rw [hln]; exact C8.out) AC8.out (HBK.out.imp id fun ⟨g, e, hg⟩ => ⟨g, e, Nat.le_trans HSZ.out hg⟩) (fun y hy => by
              rcases List.mem_append.1 hy with h | h
              · exact .inl (List.mem_of_mem_take h)
              · rcases List.mem_cons.1 h with rfl | h
                · exact .inr ⟨HA8.out, HSN.out.symm⟩
                · exact .inl (List.mem_of_mem_drop h)) htb
            exact ⟨_, rfl, ⟨_, _, _, h1, hmap⟩, h2⟩
set_option maxHeartbeats 3200000 in
theorem drop18c_calls (q most : Nat) (l : List Sp) (S : List Nat) (k : Ky) (w : World) (h : TbC18 w q most l S) :
    Calls Try.prog 17 #[.pointer (some ⟨q, 0, none⟩), .agg #[.int .i64 k.tail, .int .i64 k.tun, .int .i64 k.head, .int .i64 k.lsp]] w (Prt18 S q most (cdrop18 l k) w) := by
  obtain ⟨ls, A, c, ht, rfl⟩ := h
  have bz := bel_new (Below.refl w.heap.size w) (.cells #[.int .i64 k.tail, .int .i64 k.tun, .int .i64 k.head, .int .i64 k.lsp] 30)
  have T0 := Lib.hid ht
  have T1 := Lib.hid (ht.below bz)
  have B1 := Lib.hid (show Blk (w.alloc (.cells #[.int .i64 k.tail, .int .i64 k.tun, .int .i64 k.head, .int .i64 k.lsp] 30)) w.heap.size 30 (kyc k) from Blk.new w 30 (kyc k))
  have HL := Lib.hid bz
  obtain ⟨R, hR⟩ : ∃ R, cdrop18 (ls.map (·.p)) k = R := ⟨_, rfl⟩
  rw [hR]
  have HRR := Lib.hid hR
  unfold Prt18
  clear ht bz hR
  go_enter Try.func17, Try.ntmps17
  go_upto_region 1 with fail
  generalize (w.alloc (.cells #[.int .i64 k.tail, .int .i64 k.tun, .int .i64 k.head, .int .i64 k.lsp] 30)) = w1 at *
  have hm := T1.out.made
  go_wp2_with fail
  ((with_reducible refine hm.mono ?_))
  rintro e w9 ⟨rfl, rfl⟩
  clear hm
  have x0 : w9.cell? ⟨w.heap.size, 0, none⟩ = some (.int .i64 k.tail) := B1.out.cell 0
  have x1 : w9.cell? ⟨w.heap.size, 1, none⟩ = some (.int .i64 k.tun) := B1.out.cell 1
  have x2 : w9.cell? ⟨w.heap.size, 2, none⟩ = some (.int .i64 k.head) := B1.out.cell 2
  have x3 : w9.cell? ⟨w.heap.size, 3, none⟩ = some (.int .i64 k.lsp) := B1.out.cell 3
  have HF := Lib.hid (find18_calls ls.length c q (most : Int) A ls k w9 T1.out.blk T1.out.acc.row T1.out.srt (by have := T1.out.len; omega))
  go_wp2_with fail
  ((with_reducible refine HF.out.mono ?_))
  rintro e w3 ⟨i, b, rfl, hfd, hb⟩
  obtain ⟨a, m, r, hcut⟩ := hfd.cut T1.out.srt
  have T3 := Lib.hid (T1.out.below hb)
  have HL3 := Lib.hid (HL.out.trans (hb.mono HL.out.size))
  have HCUT := Lib.hid hcut
  have HPL := Lib.hid (cut18_plain hcut)
  clear hb HF T1 B1 HL x0 x1 x2 x3 hfd hcut
  cases b with
  | false =>
    have hrr : R = (ls.map (·.p), 8) := by rw [← HRR.out]; unfold cdrop18; rw [if_neg (by rw [HPL.out.has]; simp)]
    have HRX := Lib.hid hrr
    clear hrr
    go_wp2_with fail
    go_ret
    rw [HRX.out]
    exact ⟨S, rfl, ⟨ls, A, c, T0.out.below HL3.out, rfl⟩, Mv14.of_below HL3.out⟩
  | true =>
    obtain ⟨hi, hmm⟩ := HCUT.out.at_
    obtain ⟨g, rfl⟩ := T3.out.acc.at0 (by omega)
    have hrr : R = (drp18 Sp.k (ls.map (·.p)) k, 0) := by rw [← HRR.out]; unfold cdrop18; rw [if_pos HPL.out.has]
    have HRX := Lib.hid hrr
    have hl64 := T3.out.len
    obtain ⟨m', hm'⟩ : ∃ m', ls.length = m' + 1 := ⟨ls.length - 1, by omega⟩
    have hdl := delete18_calls g c m' i 0 ls w3 T3.out.acc hm' hi (by omega)
    have e1 : IntKind.i64.wrap ((i : Int) + 1) = ((i + 1 : Nat) : Int) := by rw [IntWalk.i64_in _ (by omega)]; omega
    have hq1 : w3.cell? ⟨q, 1, none⟩ = some (.slice (some ⟨g, 0, none⟩) (m' + 1) c) := by rw [← hm']; exact T3.out.blk.cell 1
    have hgq : g ≠ q := accr_type18 T3.out.acc T3.out.blk (by decide) g rfl
    have HDL := Lib.hid hdl
    have HI := Lib.hid (And.intro hi hm')
    have HGQ := Lib.hid hgq
    obtain ⟨M, hM⟩ : ∃ M, m' + 1 = M := ⟨_, rfl⟩
    obtain ⟨j, hj⟩ : ∃ j, i + 1 = j := ⟨_, rfl⟩
    rw [hM] at HDL hq1
    rw [hj] at HDL e1
    clear hj hdl hrr hmm hi hm' hgq hM hl64
    go_wp2_with fail
    ((with_reducible refine HDL.out.mono ?_))
    rintro e w4 ⟨rfl, hacc, hgr⟩
    have C4 := Lib.hid (show Blk w4 q 68 [.int .i64 (most : Int), .slice (some ⟨g, 0, none⟩) ls.length c] from T3.out.blk.same (hgr.block _ T3.out.blk.lt (fun e => HGQ.out (Option.some.inj e).symm)))
    have AC4 := Lib.hid hacc
    have HT4 := Lib.hid (show Turn (q :: (blk (some (⟨g, 0, none⟩ : Addr))).toList) w w4 from (Turn.of_below HL3.out).trans (Turn.of_grown hgr (by simp [blk])))
    clear hacc hgr hq1 HDL
    have c1 : w4.cell? ⟨q, 1, none⟩ = some (.slice (some ⟨g, 0, none⟩) ls.length c) := C4.out.cell 1
    have f1 := C4.out.free 1
    go_upto_region 7 with fail
    have hs := C4.out.set 1 (.slice (some ⟨g, 0, none⟩) m' c)
    have hu := upd_set_p w4 q 1 (.slice (some ⟨g, 0, none⟩) m' c)
    have C5 := Lib.hid (show Blk (w4.setCell ⟨q, 1, none⟩ (.slice (some ⟨g, 0, none⟩) m' c)) q 68 [.int .i64 (most : Int), .slice (some ⟨g, 0, none⟩) m' c] from hs)
    have AC5 := Lib.hid (AccR.kept AC4.out hu (fun x hx e => accr_type18 AC4.out C4.out (by decide) x hx (by first | exact (Option.some.inj e).symm | exact Option.some.inj e)))
    have HT5 := Lib.hid (HT4.out.trans (Turn.of_grown hu (List.mem_cons_self)))
    clear hs hu c1 f1
    generalize w4.setCell ⟨q, 1, none⟩ (.slice (some ⟨g, 0, none⟩) m' c) = w5 at *
    go_wp2_with fail
    go_ret
    rw [HRX.out]
    have her : ls.eraseIdx i = a ++ r := HCUT.out.erase
    have hmap : (ls.eraseIdx i).map (·.p) = drp18 Sp.k (ls.map (·.p)) k := by rw [her, HPL.out.drop, List.map_append]
    have hln : (ls.eraseIdx i).length = m' := by rw [List.length_eraseIdx, if_pos HI.out.1]; have := HI.out.2; omega
    have htb : Tbl18 most ((ls.eraseIdx i).map (·.p)) := by
      have := tbl18_drop T0.out.tbl k
      rw [HRR.out, HRX.out] at this
      rw [hmap]; exact this
    obtain ⟨h1, h2⟩ := T0.out.step (ls' := ls.eraseIdx i) HT5.out (by rw [hln]; exact C5.out) AC5.out (.inl rfl) (fun y hy => .inl (List.mem_of_mem_eraseIdx hy)) htb
    exact ⟨_, rfl, ⟨_, _, _, h1, hmap⟩, h2⟩
end Go.Proofs.Ytogijfebfffobaa
