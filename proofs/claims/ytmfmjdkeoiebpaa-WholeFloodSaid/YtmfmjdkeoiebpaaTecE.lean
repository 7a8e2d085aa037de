/-
  Contract of package tedb: Apply. Condition: eight numbers of 64 bits; Seq as large as its type allows.
-/
import Derived.Test.YtmfmjdkeoiebpaaTecD
namespace Go.Proofs.Ytmfmjdkeoiebpaa
set_option maxRecDepth 100000
set_option linter.unusedVariables false
open Go.RowKit

/-- Values laid over a list from a place on. -/
def setL : List Value → Nat → List Value → List Value
  | xs, _, [] => xs
  | xs, o, v :: r => setL (xs.set o v) (o + 1) r
theorem setL_mid : ∀ (vs p m s : List Value), m.length = vs.length → setL (p ++ (m ++ s)) p.length vs = p ++ (vs ++ s)
  | [], p, m, s, h => by
    obtain rfl : m = [] := List.eq_nil_of_length_eq_zero (by simpa using h)
    rfl
  | v :: r, p, [], s, h => by simp at h
  | v :: r, p, y :: m, s, h => by
    have e : (p ++ (y :: m ++ s)).set p.length v = (p ++ [v]) ++ (m ++ s) := by
      rw [List.set_append_right _ _ (Nat.le_refl _), Nat.sub_self]
      simp
    rw [setL, e]
    have := setL_mid r (p ++ [v]) m s (by simpa using h)
    rw [List.length_append, List.length_singleton] at this
    rw [this]
    simp
theorem owns_setL {w : World} {base g n cap size : Nat} {T : TypeId} : ∀ (vs : List Value) (o : Nat) (w : World) (xs : List Value), w.ownsRow base T size (.slice (some ⟨g, 0, none⟩) n cap) n xs →
    (w.setCells g o vs).ownsRow base T size (.slice (some ⟨g, 0, none⟩) n cap) n (setL xs o vs) ∧ w.grownBy (w.setCells g o vs) (some g)
  | [], _, w, _, h => ⟨h, World.grownBy.refl w _⟩
  | v :: r, o, w, xs, h => by
    have s1 := World.ownsRow.stored h o v
    have s2 := owns_setL (w := w) r (o + 1) _ _ s1.1
    exact ⟨s2.1, s1.2.trans s2.2⟩
section
variable {α : Type} {enc : α → List Value} {k base c g : Nat} {w : World} {T : TypeId} {l : List α}
theorem flat_set15 (hk : ∀ x, (enc x).length = k) (l : List α) {i : Nat} (hi : i < l.length) (x : α) : setL (l.flatMap enc) (i * k) (enc x) = (l.set i x).flatMap enc := by
  have e1 : l = l.take i ++ l[i] :: l.drop (i + 1) := by rw [List.getElem_cons_drop, List.take_append_drop]
  have e2 : l.set i x = l.take i ++ x :: l.drop (i + 1) := List.set_eq_take_append_cons_drop.trans (by rw [if_pos hi])
  have h1 : l.flatMap enc = (l.take i).flatMap enc ++ (enc l[i] ++ (l.drop (i + 1)).flatMap enc) := by
    conv => lhs; rw [e1]
    rw [List.flatMap_append, List.flatMap_cons]
  have hl : ((l.take i).flatMap enc).length = i * k := by rw [flat_length hk, List.length_take, Nat.min_eq_left (by omega)]
  rw [h1, ← hl, setL_mid _ _ _ _ (by rw [hk, hk]), e2]
  simp
/-- One value of such a slice is laid anew. -/
theorem accr_put (hk : ∀ x, (enc x).length = k) (h : AccR enc k w base T (some ⟨g, 0, none⟩) c l) {i : Nat} (hi : i < l.length) (x : α) :
    AccR enc k (w.setCells g (i * k) (enc x)) base T (some ⟨g, 0, none⟩) c (l.set i x) ∧ w.grownBy (w.setCells g (i * k) (enc x)) (some g) := by
  have s := owns_setL (w := w) (enc x) (i * k) w _ h
  rw [flat_set15 hk l hi x] at s
  refine ⟨?_, s.2⟩
  unfold AccR
  rw [List.length_set]
  exact s.1
theorem accr_there (hk : ∀ x, (enc x).length = k) (h : AccR enc k w base T (some ⟨g, 0, none⟩) c l) {i : Nat} (hi : i < l.length) : w.there g (i * k) k := fun j hj => by
  refine ⟨?_, World.ownsRow.frozenAt h _⟩
  have hlt : i * k + j < (l.flatMap enc).length := by
    rw [flat_length hk]
    have : (i + 1) * k ≤ l.length * k := Nat.mul_le_mul_right _ hi
    rw [Nat.succ_mul] at this; omega
  rw [World.ownsRow.cellAt h _ (by rw [flat_length hk] at hlt; exact hlt), List.getElem?_eq_getElem hlt]
  rfl
theorem accr_addr15 {A : Option Addr} (h : AccR enc k w base T A c l) (h0 : 0 < l.length) : ∃ g, A = some ⟨g, 0, none⟩ := by
  rcases h.2 with ⟨_, hn⟩ | ⟨g, cap, cur, hv, _⟩
  · omega
  · injection hv with e; exact ⟨g, e⟩
end
/-- What Apply answers. -/
def Ap15 (q : Nat) (S : List Nat) (r : List Ad × Bool × Int) (w : World) (e : Ending) (w' : World) : Prop :=
  e = .returned (.tuple #[.bool r.2.1, .int .i64 r.2.2]) ∧ BasC w' q r.1 S ∧ Turn S w w'
theorem vldA_q {a : Ad} (h : vldA a = true) : I15 a.q := by
  unfold vldA at h
  rw [Bool.and_eq_true] at h
  have := vldH_iff.1 h.1
  unfold I15; omega
set_option maxHeartbeats 3200000 in
theorem apply15c_calls (q : Nat) (b : List Ad) (S : List Nat) (x : Ad) (hx : AdOk x) (hq : I15 x.q) (w : World) (h : BasC w q b S) : Calls Try.prog 15 #[.pointer (some ⟨q, 0, none⟩), .agg (adc x).toArray] w (Ap15 q S (bApply b x) w) := by
  obtain ⟨A, c, ht⟩ := h
  have HT := Lib.hid ht
  have HX := Lib.hid hx
  have hb1 := bel_new (Below.refl w.heap.size w) (.cells (adc x).toArray 40)
  have B1 := Lib.hid (show Blk (w.alloc (.cells (adc x).toArray 40)) w.heap.size 40 (adc x) from Blk.new w _ _)
  have T1 := Lib.hid (ht.below hb1)
  have L1 := Lib.hid hb1
  have HI := Lib.hid (show (Try.prog.info? 40).map (·.size) = some (adc x).length from infoAdTS15)
  obtain ⟨d, hd⟩ : ∃ d, vldA x = d := ⟨_, rfl⟩
  have HM := Lib.hid (fun W => may15c_calls x hx hq W)
  rw [hd] at HM
  unfold Yes15 at HM
  have HD := Lib.hid hd
  obtain ⟨r, hr⟩ : ∃ r, bApply b x = r := ⟨_, rfl⟩
  rw [hr]
  have HR := Lib.hid hr
  have HQN := Lib.hid (show w.heap.size ≠ q from fun e => by have := ht.blk.lt; omega)
  clear ht hx hq hb1 hd hr
  go_enter Try.func15, Try.ntmps15
  go_upto_region 1 with fail
  generalize w.alloc (.cells (adc x).toArray 40) = w1 at *
  have hmade := made15_calls q true w1 (T1.out.blk.cell 0)
  go_wp2_with fail
  ((with_reducible refine hmade.mono ?_))
  rintro e w2 ⟨rfl, rfl⟩
  clear hmade
  go_wp2_with (refine step_load (o := ⟨some 10, _, _, _, _, _⟩) rfl rfl rfl B1.out Try.underlying40 rfl HI.out ?_)
  ((with_reducible refine (HM.out w1).mono ?_))
  rintro e w2 ⟨rfl, hb⟩
  have B2 := Lib.hid (B1.out.below hb)
  have T2 := Lib.hid (T1.out.below hb)
  have L2 := Lib.hid (L1.out.trans (hb.mono L1.out.size))
  clear hb B1 T1 L1 HM
  cases d with
  | false =>
    have hr2 : r = (b, false, 2) := by
      have := HR.out
      unfold bApply at this
      rw [if_neg (by rw [HD.out]; decide)] at this
      exact this.symm
    subst hr2
    go_wp2_with fail
    refine bodyPost_ret (v := .tuple #[.bool false, .int .i64 2]) (by simp [results, Try.results15, go_sem]) rfl ?_
    exact ⟨rfl, ⟨A, c, T2.out⟩, Turn.of_below L2.out⟩
  | true =>
    have k0 : w2.cell? ⟨w.heap.size, 0, none⟩ = some (.int .i64 x.k.f) := B2.out.cell 0
    have k1 : w2.cell? ⟨w.heap.size, 1, none⟩ = some (.int .i64 x.k.t) := B2.out.cell 1
    have hfi := find15_calls q b.length c A b x.k.f x.k.t w2 (T2.out.blk.cell 1) T2.out.row (by have := T2.out.len; omega)
    have HF := Lib.hid hfi
    clear hfi
    obtain ⟨p, hp⟩ : ∃ p, plc b (x.k.f, x.k.t) = p := ⟨_, rfl⟩
    rw [hp] at HF
    have HPL := Lib.hid hp
    clear hp
    go_wp2_with fail
    ((with_reducible refine HF.out.mono ?_))
    rintro e w3 ⟨rfl, hb⟩
    have B3 := Lib.hid (B2.out.below hb)
    have T3 := Lib.hid (T2.out.below hb)
    have L3 := Lib.hid (L2.out.trans (hb.mono L2.out.size))
    clear hb B2 T2 L2 HF k0 k1
    by_cases hp0 : p < 0
    · have hr2 : r = (b, false, 8) := by
        rw [← HR.out]
        exact bApply_none HD.out (by rw [show ends15 x.k = (x.k.f, x.k.t) from rfl, HPL.out]; exact hp0)
      subst hr2
      go_wp2_with fail
      refine bodyPost_ret (v := .tuple #[.bool false, .int .i64 8]) (by simp [results, Try.results15, go_sem]) rfl ?_
      exact ⟨rfl, ⟨A, c, T3.out⟩, Turn.of_below L3.out⟩
    · obtain ⟨k, hk, he, hA⟩ := bApply_at HD.out (l := b) (x := x) (by rw [show ends15 x.k = (x.k.f, x.k.t) from rfl, HPL.out]; exact hp0)
      have hpk : p = (k : Int) := HPL.out.symm.trans he
      subst hpk
      obtain ⟨g, rfl⟩ := accr_addr15 T3.out.acc (by omega)
      obtain ⟨N, hN⟩ : ∃ N, b.length = N := ⟨_, rfl⟩
      have HN := Lib.hid hN
      have hkN : k < N := by omega
      have k1 : (k : Int) < (N : Int) := by omega
      obtain ⟨y, hy⟩ : ∃ y, b[k] = y := ⟨_, rfl⟩
      rw [hy] at hA
      have HA := Lib.hid hA
      have hcells := (T3.out.row.cells adc_length (by omega))
      obtain ⟨g2, o2, ea, _, hcc⟩ := hcells
      injection ea with ea
      injection ea with e1 e2
      subst e1; subst e2
      have hcs : ∀ W, Below w3.heap.size w3 W → W.cell? ⟨w.heap.size, 5, none⟩ = some (.int .i64 x.q) ∧ W.cell? ⟨g, k * 15 + 5, none⟩ = some (.int .i64 y.q) ∧ W.cell? ⟨q, 1, none⟩ = some (.slice (some ⟨g, 0, none⟩) N c) := fun W hW =>
        ⟨(B3.out.below hW).cell 5, by
          have h5 := hcc k hk 5 (by omega)
          rw [hy, Nat.zero_add] at h5
          rw [hW.cell (p := ⟨g, k * 15 + 5, none⟩) (T3.out.lt g (by rw [T3.out.own]; simp [blk])), h5]; rfl, by rw [← hN]; exact (T3.out.blk.below hW).cell 1⟩
      have HCS := Lib.hid hcs
      have HKN := Lib.hid (And.intro hk hkN)
      clear hcs hcc hy hA he hp0 hN hk
      go_wp2_with fail
      refine region_seq (fun W => Below w3.heap.size w3 W) [(0, true), (1, true), (2, true), (3, true), (4, true), (5, true), (6, true), (7, true), (8, true), (9, true), (10, true)] (by kernel_rfl) (by kernel_rfl) (by kernel_rfl) (by kernel_rfl) (fun _ _ _ _ _ h => h) (Below.refl _ _).drew ?_
      repeat
        refine seq_pure (v := ?_) rfl (by rfl) (fun W hW => ?_) ?_
        rotate_left
        · obtain ⟨c0, c1, c2⟩ := HCS.out W hW
          clear hW
          go_simp
          with_reducible rfl
        simp only [Act.put, List.setIfInBounds_toArray, List.set_cons_zero, List.set_cons_succ]
      refine seq_done ?_
      have B4 := Lib.hid B3.out.drew
      have T4 := Lib.hid (T3.out.below (Below.refl _ _).drew)
      have L4 := Lib.hid L3.out.drew
      clear B3 T3 L3 HCS
      generalize w3.drew = w4 at *
      by_cases hle : x.q ≤ y.q
      · have hr2 : r = (b, false, 0) := by
          rw [← HR.out, HA.out, if_pos hle]
        subst hr2
        go_wp2_with fail
        refine bodyPost_ret (v := .tuple #[.bool false, .int .i64 0]) (by simp [results, Try.results15, go_sem]) rfl ?_
        exact ⟨rfl, ⟨_, c, T4.out⟩, Turn.of_below L4.out⟩
      · have hr2 : r = (b.set k x, true, 0) := by
          rw [← HR.out, HA.out, if_neg hle]
        subst hr2
        have T5 := T4.out.below (Below.refl _ _).drew
        have hst := accr_put adc_length T5.acc HKN.out.1 x
        have hth := accr_there adc_length T5.acc HKN.out.1
        have hgq : g ≠ q := T5.ne g rfl
        have hgw : g ≠ w.heap.size := fun e => by have := (AccR.ge HT.out.acc (x := g) rfl).2; omega
        have HST := Lib.hid hst
        have HTH := Lib.hid hth
        have HG := Lib.hid (And.intro hgq hgw)
        have HI2 := Lib.hid (show (Try.prog.info? 40).map (·.size) = some (adc x).toArray.size from infoAdTS15)
        clear T5 hst hth hgq hgw
        go_wp2_with fail
        refine region_seq (fun W => Blk W w.heap.size 40 (adc x) ∧ W.cell? ⟨q, 1, none⟩ = some (.slice (some ⟨g, 0, none⟩) N c)) [(0, true), (1, true), (2, true), (3, true), (4, true), (5, true), (6, true), (7, false)]
          (by kernel_rfl) (by kernel_rfl) (by kernel_rfl) (by kernel_rfl) (fun _ _ _ _ _ h => h) ⟨B4.out.drew, by rw [← HN.out]; exact T4.out.blk.cell 1⟩ ?_
        repeat first
          | refine seq_load8 (x := .tmp 3) rfl (by rfl) rfl rfl (fun W hW => hW.1) Try.underlying40 rfl HI.out ?_
            simp only [Act.put, List.setIfInBounds_toArray, List.set_cons_zero, List.set_cons_succ]
          | refine seq_pure (v := ?_) rfl (by rfl) (fun W hW => ?_) ?_
            rotate_left
            · obtain ⟨_, c1⟩ := hW
              go_simp
              with_reducible rfl
            simp only [Act.put, List.setIfInBounds_toArray, List.set_cons_zero, List.set_cons_succ]
        refine seq_make rfl (by rfl) (fun K hK => ?_)
        refine wp_store_mid 40 (.tmp 40) (.tmp 39) rfl g (k * 15) (adc x).toArray rfl rfl HTH.out HI2.out (all_oneCell_toArray (adc_one x)) ?_
        have hw : (w4.drew.setCells g (k * 15) (adc x).toArray.toList) = (w4.drew.setCells g (k * 15) (adc x)) := rfl
        rw [hw]
        clear hw HTH
        generalize w4.drew.setCells g (k * 15) (adc x) = w5 at *
        have hB4 : Blk w4.drew w.heap.size 40 (adc x) := B4.out.drew
        have hC4 : Blk w4.drew q 66 (bsc (some ⟨g, 0, none⟩) b.length c) := T4.out.blk.drew
        have hL4 : Below w.heap.size w w4.drew := L4.out.drew
        have hS : g ∈ S := by rw [T4.out.own]; simp [blk]
        have U5 := Lib.hid (show Turn S w w5 from (Turn.of_below hL4).trans (Turn.of_grown HST.out.2 hS))
        have B5 := Lib.hid (show Blk w5 w.heap.size 40 (adc x) from hB4.same (HST.out.2.block _ hB4.lt (fun e => HG.out.2 (by injection e with e; omega))))
        have C5 := Lib.hid (show Blk w5 q 66 (bsc (some ⟨g, 0, none⟩) b.length c) from hC4.same (HST.out.2.block _ hC4.lt (fun e => HG.out.1 (by injection e with e; omega))))
        have A5 := Lib.hid HST.out.1
        clear HST hS hB4 hC4 hL4
        refine hK _ w5 _ (fun W h => h) ⟨B5.out, by rw [← HN.out]; exact C5.out.cell 1⟩ ?_
        clear hK K
        refine seq_done ?_
        go_wp2_with fail
        refine bodyPost_ret (v := .tuple #[.bool true, .int .i64 0]) (by simp [results, Try.results15, go_sem]) rfl ?_
        refine ⟨rfl, ⟨some ⟨g, 0, none⟩, c, by rw [List.length_set]; exact C5.out, A5.out, T4.out.ne, T4.out.own, fun y hy => ?_, by rw [List.length_set]; exact T4.out.len⟩, U5.out⟩
        rcases List.mem_or_eq_of_mem_set hy with h | rfl
        · exact T4.out.ok y h
        · exact ⟨HX.out, vldA_q HD.out⟩
end Go.Proofs.Ytmfmjdkeoiebpaa
