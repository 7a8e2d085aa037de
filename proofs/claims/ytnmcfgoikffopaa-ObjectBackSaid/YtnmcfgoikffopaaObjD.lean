/-
  Contract of object.Decode. Condition: the bytes that come in read as a list.
-/
import Derived.Test.YtnmcfgoikffopaaObjC
namespace Go.Proofs.Ytnmcfgoikffopaa
open Go.RowKit

theorem Try.infoObj : (Try.prog.info? 44).map (fun i => (i.zero, i.size, i.bytes)) = some (some (.agg #[.int .i64 0, .int .i64 0, .slice none 0 0]), 3, 40) := by kernel_rfl

/-- Objects that a call itself gathers. -/
def AccO (w : World) (base : Nat) (A : Option Addr) (c : Nat) (qs : List Ob) : Prop := AccR eo 3 w base 44 A c qs
theorem acco_push {w : World} {base c : Nat} {A : Option Addr} {qs : List Ob} (h : AccO w base A c qs) (q : Ob) (hbase : base ≤ w.heap.size) (hlen : qs.length ≤ 1099511627776) (ty : TypeId) :
    ∃ A' c' w', (Builtin.append_ #[29, 29] ty #[.slice A qs.length c, .slice (some ⟨w.heap.size, 0, none⟩) 1 1]).run Try.prog (w.alloc (.cells (eo q).toArray 44)) = .ok (.slice A' (qs.length + 1) c') w' ∧
      AccO w' base A' c' (qs ++ [q]) ∧ w.grownBy w' (blk A) :=
  accr_push eo_length eo_one (by omega) h q Try.underlying29 Try.infoObj rfl hbase (by omega) (by omega)

theorem accr_kind {α : Type} {enc : α → List Value} {k : Nat} {w : World} {base c : Nat} {T : TypeId} {A : Option Addr} {l : List α} (h : AccR enc k w base T A c l) {x : Nat} (hx : blk A = some x) : ∃ cs, w.heap[x]? = some (.cells cs T (0, 0)) := by
  rcases h.2 with ⟨hv, _⟩ | ⟨g, cap, cur, hv, _, hh, _⟩
  · injection hv with e; subst e; cases hx
  · injection hv with e; subst e; injection hx with hx; subst hx; exact ⟨cur, hh⟩

/-- Bodies lie in blocks of their own from 'base' on. -/
def Bos (w : World) (base : Nat) (qs : List Ob) : Prop := ∀ q ∈ qs, ∃ gb, q.a = some ⟨gb, 0, none⟩ ∧ base ≤ gb ∧ q.l.length = q.n ∧ q.n ≤ 65536 ∧ Own w gb q.l
section
variable {w w' : World} {base : Nat} {qs : List Ob}
theorem Bos.keep (h : Bos w base qs) (hk : ∀ gb, base ≤ gb → gb < w.heap.size → (∃ l, Own w gb l) → w'.heap[gb]? = w.heap[gb]?) : Bos w' base qs := by
  intro q hq
  obtain ⟨gb, h1, h2, h3, h4, h5⟩ := h q hq
  exact ⟨gb, h1, h2, h3, h4, h5.same (hk gb h2 h5.lt ⟨_, h5⟩)⟩
theorem Bos.nil : Bos w base [] := fun q hq => by cases hq
theorem Bos.bel (h : Bos w base qs) (hb : Below w.heap.size w w') : Bos w' base qs := h.keep (fun gb _ hl _ => hb.block gb hl)
theorem Bos.turn (h : Bos w base qs) {r : Nat} (hg : w.grownBy w' (some r)) (hr : r < base) : Bos w' base qs := h.keep (fun gb hb hl _ => hg.block gb hl (fun e => by injection e with e; omega))
theorem Bos.row (h : Bos w base qs) {A : Option Addr} {base2 c : Nat} {rs : List Ob} (ha : AccO w base2 A c rs) (hg : w.grownBy w' (blk A)) : Bos w' base qs :=
  h.keep (fun gb hb hl ho => hg.block gb hl (fun e => by
    obtain ⟨cs, hc⟩ := accr_kind ha e.symm
    obtain ⟨l, ho⟩ := ho
    unfold Own at ho
    rw [ho] at hc
    injection hc with hc
    injection hc with _ ht
    exact absurd ht (by decide)))
theorem Bos.snoc (h : Bos w base qs) {q : Ob} {gb : Nat} (h1 : q.a = some ⟨gb, 0, none⟩) (h2 : base ≤ gb) (h3 : q.l.length = q.n) (h4 : q.n ≤ 65536) (h5 : Own w gb q.l) : Bos w base (qs ++ [q]) := by
  intro p hp
  rcases List.mem_append.1 hp with hp | hp
  · exact h p hp
  · obtain rfl := List.mem_singleton.1 hp
    exact ⟨gb, h1, h2, h3, h4, h5⟩
theorem Bos.lower (h : Bos w base qs) {b : Nat} (hb : b ≤ base) : Bos w b qs := by
  intro q hq
  obtain ⟨gb, h1, h2, h3, h4, h5⟩ := h q hq
  exact ⟨gb, h1, by omega, h3, h4, h5⟩
theorem Bos.bods (h : Bos w base qs) : Bods w w.heap.size qs := by
  intro q hq
  obtain ⟨gb, h1, h2, h3, h4, h5⟩ := h q hq
  refine ⟨?_, by unfold maxLen; omega⟩
  have := h5.bts h5.lt
  rw [h3] at this
  rw [h1]; exact this
end

/-- What Decode answers: objects in memory of the call's own. -/
def ObDecPost (w : World) (b : List UInt8) (e : Ending) (w' : World) : Prop :=
  ∃ A c qs, e = .returned (.tuple #[.slice A qs.length c, .int .i64 (oDec b).2]) ∧ vals qs = (oDec b).1 ∧ AccO w' w.heap.size A c qs ∧ Bos w' w.heap.size qs ∧ Below w.heap.size w w'
theorem obDecPost_no {w w' : World} {b : List UInt8} {e : Ending} {err : Int} (h : oDec b = ([], err)) (he : e = .returned (.tuple #[.slice none 0 0, .int .i64 err])) (hb : Below w.heap.size w w') : ObDecPost w b e w' :=
  ⟨none, 0, [], by rw [h, he]; rfl, by rw [h]; rfl, AccR.nil _ _ _, Bos.nil, hb⟩
theorem acco_objs {w : World} {base c : Nat} {A : Option Addr} {qs : List Ob} (h : AccO w base A c qs) (hb : Bos w base qs) : Objs w w.heap.size A qs.length qs := by
  have hr := AccR.row h
  exact ⟨hr, hb.bods⟩

theorem obdecode_big (a : Option Addr) (n c : Nat) (b : List UInt8) (w : World) (hl : b.length = n) (hn : 4096 < n) (hm : n ≤ maxLen) :
    Calls Try.prog 13 #[.slice a n c] w (ObDecPost w b) := by
  unfold maxLen at hm
  have HL := Lib.hid hl
  clear hl
  go_enter Try.func13, Try.ntmps13
  go_wp2
  go_ret2
  exact obDecPost_no (oDec_big (by rw [HL.out]; exact hn)) rfl (Below.refl _ _)

set_option maxHeartbeats 1000000 in
theorem obdecode_ok (a : Option Addr) (n c : Nat) (b : List UInt8) (w : World) (h : Bts w w.heap.size a n b) (hn : n ≤ 4096) :
    Calls Try.prog 13 #[.slice a n c] w (ObDecPost w b) := by
  have HL := Lib.hid h.1
  have hbl : b.length ≤ 4096 := by rw [HL.out]; exact hn
  have HD := Lib.hid (oDec_ok hbl)
  go_enter Try.func13, Try.ntmps13
  go_wp2_with fail
  ((with_reducible refine (new_calls a n c b w h (by omega)).mono ?_))
  rintro e w1 ⟨r, g, rfl, hr, hg, h1, b1⟩
  have hr1 : r < w1.heap.size := h1.lt
  have R1 := Lib.hid h1
  have B1 := Lib.hid b1
  clear h1 b1 h
  go_wp2
  go_loopw [5] (fun s W => ∃ (cc m p : Nat) (A : Option Addr) (qs : List Ob), s = .slice A m cc ∧ m ≤ 32 ∧ Hid (qs.length = m) ∧ AccO W w1.heap.size A cc qs ∧ Bos W w1.heap.size qs ∧ Rdr W r g b p 0 ∧ Hid (odec 32 b = cont (vals qs) (odec (32 - m) (b.drop p))) ∧ Below w.heap.size w W ∧ w1.heap.size ≤ W.heap.size) (fun s _ => 32 - lenOf s)
  case atStart => exact ⟨0, 0, 0, none, [], rfl, Nat.zero_le _, by exact rfl, AccR.nil _ _ _, Bos.nil, R1.out, (cont_nil _ (odec_err _ _)).symm, B1.out, Nat.le_refl _⟩
  case round =>
    obtain ⟨cc, m, p, A, qs, rfl, hm, HQL, hA, hBo, hR, HO, hbel, hsz⟩ := hrel
    have hpl := hR.2.2.1
    have HA := Lib.hid hA
    have HBo := Lib.hid hBo
    have HR := Lib.hid hR
    have HBel := Lib.hid hbel
    have HSZ := Lib.hid hsz
    clear hA hBo hR hbel hsz
    go_wp2_with fail
    ((with_reducible refine (left_calls HR.out).mono ?_))
    rintro e w2 ⟨rfl, md, rfl⟩
    by_cases hend : p = b.length
    · subst hend
      have hfin : oDec b = (vals qs, 0) := by
        rw [HD.out, HO.out, List.drop_length, odec_none]; unfold cont; rw [if_pos rfl, List.append_nil]
      have HF := Lib.hid hfin
      clear hfin
      go_wp2
      go_ret2
      exact ⟨A, cc, qs, by rw [HF.out, HQL.out]; rfl, by rw [HF.out], AccR.drewN (AccR.lower HA.out B1.out.size) md, HBo.out.lower B1.out.size, bel_drewN HBel.out md⟩
    · have hlt : p < b.length := by omega
      have hd0 : 0 < (b.drop p).length := by simp; omega
      by_cases hfull : m = 32
      · subst hfull
        have hfin : oDec b = ([], 3) := by
          rw [HD.out, HO.out, Nat.sub_self, odec_full hd0, cont_no _ (by omega)]
        have HF := Lib.hid hfin
        clear hfin
        go_wp2
        go_ret2
        exact obDecPost_no HF.out rfl (bel_drewN HBel.out md)
      · have hm32 : ((m : Int) == 32) = false := by rw [beq_eq_false_iff_ne]; omega
        have hk : 32 - m = (32 - (m + 1)) + 1 := by omega
        have hO := HO.out
        rw [hk] at hO
        by_cases hbad : oBad (b.drop p) = 0
        · obtain ⟨z1, z2, z3, z4⟩ := oBad_zero hbad
          rw [List.length_drop] at z1 z4
          have hO2 : odec 32 b = cont (vals qs ++ [oHere (b.drop p)]) (odec (32 - (m + 1)) (b.drop (p + oNum (b.drop p)))) := by
            rw [hO, odec_more _ hbad, cont_cont, List.drop_drop]
          have hN := oNum_lt (b.drop p)
          have hH : oHere (b.drop p) = (((num ((b.drop (p + 2)).take 1) : Nat) : Int), ((num ((b.drop (p + 3)).take 1) : Nat) : Int), (b.drop (p + 4)).take (oNum (b.drop p) - 4)) := by
            unfold oHere; rw [List.drop_drop, List.drop_drop, List.drop_drop]
          rw [hH] at hO2
          have HO2 := Lib.hid hO2
          have HRD := Lib.hid (read_ok (HR.out.drewN md) (by omega) (oNum (b.drop p)) rfl z2 z3 (by omega))
          have HBL := Lib.hid (show ((b.drop (p + 4)).take (oNum (b.drop p) - 4)).length = oNum (b.drop p) - 4 by rw [List.length_take, List.length_drop]; omega)
          clear hO hO2 hH
          generalize oNum (b.drop p) = M at *
          generalize hbd : (b.drop (p + 4)).take (M - 4) = bd at *
          have HBD := Lib.hid hbd
          clear hbd
          generalize num ((b.drop (p + 2)).take 1) = V2 at *
          generalize num ((b.drop (p + 3)).take 1) = V3 at *
          go_wp2_with fail
          ((with_reducible refine HRD.out.mono ?_))
          rintro e w3 ⟨gb, rfl, hgb, ho, h3, u3⟩
          rw [HBD.out] at ho
          have gl := HR.out.2.1.lt
          have a3 : AccO w3 w1.heap.size A cc qs := AccR.kept (AccR.drewN HA.out md) u3 (fun x hx e => by have := (AccR.ge HA.out hx).1; injection e with e; omega)
          have s3 : Bos w3 w1.heap.size qs := Bos.turn (show Bos (wr.drewN md) w1.heap.size qs from HBo.out) u3 hr1
          have k3 := bel_upd (bel_drewN HBel.out md) u3 (Nat.le_refl _) hr
          have sz3 : w1.heap.size ≤ w3.heap.size := Nat.le_trans HSZ.out u3.size
          have hgb1 : w1.heap.size ≤ gb := Nat.le_trans HSZ.out hgb
          have k4' := bel_new (Below.refl w3.heap.size w3) (.cells #[.int .i64 (V2 : Int), .int .i64 (V3 : Int), .slice (some ⟨gb, 0, none⟩) (M - 4) (M - 4)] 44)
          have a4 : AccO (w3.alloc (.cells #[.int .i64 (V2 : Int), .int .i64 (V3 : Int), .slice (some ⟨gb, 0, none⟩) (M - 4) (M - 4)] 44)) w1.heap.size A cc qs := AccR.alloc a3 _
          have s4 := s3.bel k4'
          have k4 := bel_more k3 (Nat.le_refl _) k4'
          have o4 := ho.below k4' ho.lt
          have h4 := h3.bel k4'
          have sz4 := Nat.le_trans sz3 k4'.size
          obtain ⟨A5, c5, w5, r5, a5, g5⟩ := acco_push a4 ⟨(V2 : Int), (V3 : Int), some ⟨gb, 0, none⟩, M - 4, M - 4, bd⟩ sz4 (by rw [HQL.out]; omega) 29
          have ne5 : ∀ x, blk A = some x → w1.heap.size ≤ x := fun x hx => (AccR.ge a4 hx).1
          have hg1 : g < w1.heap.size := R1.out.2.1.lt
          have h5 : Rdr w5 r g b (p + M) 0 := h4.same (g5.block r (by omega) (fun e => by have := ne5 r e.symm; omega)) (g5.block g (by omega) (fun e => by have := ne5 g e.symm; omega))
          have bel5 : Below w.heap.size w w5 := k4.grown g5 k4.size (fun x hx => Nat.le_trans B1.out.size (ne5 x hx))
          have s5 : Bos w5 w1.heap.size (qs ++ [⟨(V2 : Int), (V3 : Int), some ⟨gb, 0, none⟩, M - 4, M - 4, bd⟩]) :=
            (s4.snoc (q := ⟨(V2 : Int), (V3 : Int), some ⟨gb, 0, none⟩, M - 4, M - 4, bd⟩) rfl hgb1 HBL.out (by show M - 4 ≤ 65536; omega) o4).row a4 g5
          have sz5 := Nat.le_trans sz4 g5.size
          rw [HQL.out, World.size_alloc] at r5
          have R5 := Lib.hid (show (Builtin.append_ #[29, 29] 29 #[.slice A m cc, .slice (some ⟨w3.heap.size + 1, 0, none⟩) 1 1]).run Try.prog ((w3.alloc (.cells #[.int .i64 (V2 : Int), .int .i64 (V3 : Int), .slice (some ⟨gb, 0, none⟩) (M - 4) (M - 4)] 44)).alloc (.cells #[.int .i64 (V2 : Int), .int .i64 (V3 : Int), .slice (some ⟨gb, 0, none⟩) (M - 4) (M - 4)] 44)) = .ok (.slice A5 (m + 1) c5) w5 from r5)
          have A5' := Lib.hid a5
          have H5 := Lib.hid h5
          have BEL5 := Lib.hid bel5
          have S5 := Lib.hid s5
          have SZ5 := Lib.hid sz5
          clear ho h3 u3 a3 s3 k3 sz3 hgb1 k4' a4 s4 k4 o4 h4 sz4 r5 a5 g5 ne5 h5 bel5 s5 sz5 HRD hgb
          go_wp2_with (at_builtin; refine step_append rfl rfl rfl rfl R5.out ?_)
          refine ⟨⟨c5, m + 1, p + M, A5, _, rfl, by omega, ?_, A5'.out, S5.out, H5.out, ?_, BEL5.out, SZ5.out⟩, by simp [lenOf]; omega⟩
          · exact (by rw [List.length_append, HQL.out]; rfl : (qs ++ [(⟨(V2 : Int), (V3 : Int), some ⟨gb, 0, none⟩, M - 4, M - 4, bd⟩ : Ob)]).length = m + 1)
          · exact (by rw [vals_append]; exact HO2.out : odec 32 b = cont (vals (qs ++ [(⟨(V2 : Int), (V3 : Int), some ⟨gb, 0, none⟩, M - 4, M - 4, bd⟩ : Ob)])) (odec (32 - (m + 1)) (b.drop (p + M))))
        · have hfin : oDec b = ([], oBad (b.drop p)) := by rw [HD.out, hO, odec_bad _ hd0 hbad, cont_no _ hbad]
          have HF := Lib.hid hfin
          have hRD : Calls Try.prog 23 #[.pointer (some ⟨r, 0, none⟩)] (wr.drewN md) (ReadNo (wr.drewN md) r (oBad (b.drop p))) := by
            by_cases h4 : b.length < p + 4
            · rw [oBad_short (by simp; omega)]; exact read_short (HR.out.drewN md) h4
            · by_cases hf : oNum (b.drop p) < 4 ∨ oNum (b.drop p) % 4 ≠ 0
              · rw [oBad_form (by simp; omega) hf]; exact read_form (HR.out.drewN md) (by omega) hf
              · by_cases he : b.length < p + oNum (b.drop p)
                · rw [oBad_end (by simp; omega) (by omega) (by omega) (by simp; omega)]; exact read_end (HR.out.drewN md) (by omega) (by omega) (by omega) he
                · exact absurd (oBad_ok (by simp; omega) (by omega) (by omega) (by simp; omega)) hbad
          have HRD := Lib.hid hRD
          have hbb : (oBad (b.drop p) != 0) = true := by simpa using hbad
          clear hfin hO hRD hbad
          generalize oBad (b.drop p) = E at *
          go_wp2_with fail
          ((with_reducible refine HRD.out.mono ?_))
          rintro e w3 ⟨rfl, u3⟩
          have k3 := bel_upd (bel_drewN HBel.out md) u3 (Nat.le_refl _) hr
          have K3 := Lib.hid k3
          clear u3 k3
          go_wp2
          go_ret2
          exact obDecPost_no HF.out rfl (bel_new K3.out _)

theorem obdecode_calls (a : Option Addr) (n c : Nat) (b : List UInt8) (w : World) (h : Bts w w.heap.size a n b) (hm : n ≤ maxLen) :
    Calls Try.prog 13 #[.slice a n c] w (ObDecPost w b) := by
  by_cases hn : n ≤ 4096
  · exact obdecode_ok a n c b w h hn
  · exact obdecode_big a n c b w h.1 (by omega) hm
end Go.Proofs.Ytnmcfgoikffopaa
