/-
  Plain: a path without kin is admitted just if what is free at its Setup is enough. No condition beside what is said.
-/
import Derived.Test.YtjflbfianncpfaaGreatAdmMO
import Derived.Test.YtjflbfianncpfaaGreatPruM
namespace Go.Proofs.YtjflbfianncpfaaGreat
set_option maxRecDepth 100000
set_option linter.unusedVariables false

/-- What families of at most that Hold hold together. -/
def upto16 (fs : List Fam) (p : Int) : List Fam := fs.filter fun f => decide (f.ho ≤ p)
theorem ledg_psum : ∀ (fs : List Fam) (g : Lg) (p : Nat), g.held.length = 8 → (∀ f ∈ fs, 0 ≤ f.ho ∧ f.ho ≤ 7) → p < 8 → psum (fs.foldl lstep g).held (p + 1) = psum g.held (p + 1) + fsum (upto16 fs (p : Int))
  | [], g, p, _, _, _ => by simp [upto16, fsum]
  | f :: fs, g, p, hl, h, hp => by
    obtain ⟨_, h2, _⟩ := lstep_sum hl (h f List.mem_cons_self)
    have h0 := h f List.mem_cons_self
    have ih := ledg_psum fs (lstep g f) p h2 (fun x hx => h x (List.mem_cons_of_mem _ hx)) hp
    rw [List.foldl_cons, ih]
    have hfl : f.ho.toNat < g.held.length := by rw [hl]; omega
    unfold upto16
    rw [List.filter_cons]
    by_cases hc : f.ho ≤ (p : Int)
    · rw [if_pos (decide_eq_true hc)]
      have h3 := psum_set_ge (h := g.held) (p := f.ho.toNat) (i := p + 1) hfl (by omega) (g.held.getD f.ho.toNat 0 + f.bw)
      have h4 : psum (lstep g f).held (p + 1) = psum g.held (p + 1) + f.bw := by unfold lstep; simp only; omega
      rw [h4]
      simp only [fsum, List.map_cons, List.sum_cons]
      omega
    · rw [if_neg (by rw [decide_eq_true_eq]; exact hc)]
      have h4 : psum (lstep g f).held (p + 1) = psum g.held (p + 1) := by
        unfold lstep
        exact psum_set_lt (by omega) _
      rw [h4]
theorem free_upto {size : Nat} {l : List Et} (h : Tbl14 size l) {p : Nat} (hp : p < 8) : (lFree (ledgOf size (fams l))).getD p 0 = size - fsum (upto16 (fams l) (p : Int)) := by
  have ho := fams_ho h.srt h.rgt
  rw [lFree_get _ hp, (ledgOf_sum (size := size) ho).2.2]
  have := ledg_psum (fams l) ⟨size, [0, 0, 0, 0, 0, 0, 0, 0]⟩ p rfl ho hp
  have h0 : psum [0, 0, 0, 0, 0, 0, 0, 0] (p + 1) = 0 := by
    rcases p with _ | _ | _ | _ | _ | _ | _ | _ | p
    iterate 8 rfl
    omega
  simp only [h0, Nat.zero_add] at this
  unfold ledgOf
  rw [this]
theorem fsum_nokin {m : List Et} {k : Ky} {w : Wn} (hs : Srt14 m) (hk : ∀ x ∈ m, kap x.k ≠ kap k) : fsum (fams (wIns m ⟨k, w⟩)) = fsum (fams m) + w.bw := by
  have hh : has14 m k = false := has14_false.2 fun x hx e => hk x hx (by rw [e])
  have hf := (fams_ok hs).fms
  have hg : Fms (wIns m ⟨k, w⟩) (fams m ++ [⟨k, w.bw, w.ho⟩]) := by
    refine ⟨?_, fun f hf' => ?_, fun x hx => ?_⟩
    · rw [List.map_append]
      refine nodup_snoc hf.nd (fun hm => ?_)
      obtain ⟨f, hfm, he⟩ := List.mem_map.1 hm
      obtain ⟨x, hx, h1, _⟩ := hf.from_ f hfm
      exact hk x hx (by rw [h1]; exact he)
    · rcases List.mem_append.1 hf' with h | h
      · obtain ⟨x, hx, h1, h2⟩ := hf.from_ f h
        exact ⟨x, mem_wIns.2 (.inl hx), h1, h2⟩
      · simp at h
        subst h
        exact ⟨⟨k, w⟩, mem_wIns.2 (.inr rfl), rfl, rfl⟩
    · rcases mem_wIns.1 hx with h | h
      · obtain ⟨f, hfm, h1, h2⟩ := hf.all x h
        exact ⟨f, List.mem_append_left _ hfm, h1, h2⟩
      · subst h
        exact ⟨⟨k, w.bw, w.ho⟩, by simp, rfl, Nat.le_refl _⟩
  rw [fsum_same (fams_ok (srt_wIns hs (x := ⟨k, w⟩) hh)).fms hg (fun x => Iff.rfl), fsum_snoc]
theorem upto_nodup {fs : List Fam} (h : (fs.map (fun f => kap f.k)).Nodup) (p : Int) : ((upto16 fs p).map (fun f => kap f.k)).Nodup :=
  List.Nodup.sublist (List.Sublist.map _ List.filter_sublist) h
/-- Families that give way to nobody stay. -/
theorem upto_le {l m : List Et} {k : Ky} {w : Wn} (hs : Srt14 l) (h : Left14 l m ⟨k, w⟩) : fsum (upto16 (fams l) w.su) ≤ fsum (fams m) := by
  have hsm : Srt14 m := List.Pairwise.sublist h.sub hs
  refine fsum_le_aux _ _ (upto_nodup (fams_ok hs).fms.nd _) fun f hf => ?_
  obtain ⟨hf1, hf2⟩ := List.mem_filter.1 hf
  have hho := of_decide_eq_true hf2
  obtain ⟨z, hz, h1, h2⟩ := (fams_ok hs).hold_ f hf1
  have hzm : z ∈ m := Classical.byContradiction fun hn => by
    have := (h.went z hz hn).2
    simp only at this
    omega
  obtain ⟨x, hx, h3, h4⟩ := (fams_ok hs).fms.from_ f hf1
  have hxm := h.whole x hx z hzm (by rw [h3, h1])
  obtain ⟨g, hg, h5, h6⟩ := (fams_ok hsm).fms.all x hxm
  exact ⟨g, hg, by rw [h5, h3], by omega⟩
/-- And who stays where nobody more gives way is of these. -/
theorem upto_ge {l m : List Et} {k : Ky} {w : Wn} (hs : Srt14 l) (h : Left14 l m ⟨k, w⟩) (hk : ∀ x ∈ l, kap x.k ≠ kap k) (h6 : ∀ y ∈ m, kap y.k = kap k ∨ ∃ z ∈ m, kap z.k = kap y.k ∧ z.w.ho ≤ w.su) : fsum (fams m) ≤ fsum (upto16 (fams l) w.su) := by
  have hsm : Srt14 m := List.Pairwise.sublist h.sub hs
  refine fsum_le_aux _ _ (fams_ok hsm).fms.nd fun f hf => ?_
  obtain ⟨x, hx, h1, h2⟩ := (fams_ok hsm).fms.from_ f hf
  have hxl := h.sub.subset hx
  obtain ⟨g, hg, h3, h4⟩ := (fams_ok hs).fms.all x hxl
  rcases h6 x hx with h7 | ⟨z, hz, h8, h9⟩
  · exact absurd h7 (hk x hxl)
  · have := (fams_ok hs).least g hg z (h.sub.subset hz) (by rw [h8, h3])
    refine ⟨g, List.mem_filter.2 ⟨hg, decide_eq_true (by omega)⟩, by rw [h3, h1], by omega⟩
theorem wRight_su {w : Wn} (h : wRight w = true) : ∃ p : Nat, w.su = (p : Int) ∧ p < 8 := by
  unfold wRight at h
  have := of_decide_eq_true h
  obtain ⟨p, hp⟩ := Int.eq_ofNat_of_zero_le this.1
  exact ⟨p, hp, by omega⟩
/-- A path without kin is admitted just if what is free at its Setup is enough. -/
theorem fits_admits {size : Nat} {l : List Et} (h : Tbl14 size l) {k : Ky} {w : Wn} (hw : wRight w = true) (hl : l.length < 64) (hk : ∀ x ∈ l, kKin x.k k = false) :
    (aAdmit size l k w).2.2 = if w.bw ≤ (lFree (ledgOf size (fams l))).getD w.su.toNat 0 then 0 else 14 := by
  obtain ⟨p, hp, hp8⟩ := wRight_su hw
  have hkk : ∀ x ∈ l, kap x.k ≠ kap k := fun x hx => kKin_false.1 (hk x hx)
  have hh : has14 l k = false := has14_false.2 fun x hx e => hkk x hx (by rw [e])
  have ht : w.su.toNat = p := by rw [hp]; rfl
  rw [ht, free_upto h hp8, ← hp]
  have hle : fsum (upto16 (fams l) w.su) ≤ size := Nat.le_trans (upto_le (w := w) (k := k) h.srt (Left14.refl l _)) h.fit
  have ha := aAdmit_is (size := size) h.srt k w
  generalize aAdmit size l k w = r at ha
  cases ha with
  | bad h1 => rw [hw] at h1; cases h1
  | have_ _ h2 => rw [hh] at h2; cases h2
  | full _ _ h3 => omega
  | room _ _ _ m h4 h5 h6 =>
    have h7 : ¬ fsum (fams (wIns m ⟨k, w⟩)) ≤ size := of_decide_eq_false h5
    rw [fsum_nokin (List.Pairwise.sublist h4.sub h.srt) (fun x hx => hkk x (h4.sub.subset hx))] at h7
    have h8 := upto_ge h.srt h4 hkk h6
    rw [if_neg (by omega)]
  | ok _ _ _ m h4 h5 _ =>
    have h7 : fsum (fams (wIns m ⟨k, w⟩)) ≤ size := of_decide_eq_true h5
    rw [fsum_nokin (List.Pairwise.sublist h4.sub h.srt) (fun x hx => hkk x (h4.sub.subset hx))] at h7
    have h8 := upto_le h.srt h4
    rw [if_pos (by omega)]
/-- What the law asks of a link. -/
theorem fit16_free {size : Nat} {fr : List Nat} {k : Lk} {q : Int} {w : Wn} (hw : wRight w = true) (h0 : w.an = 0 ∧ w.al = 0 ∧ w.no = 0) (hfr : ∀ i, fr.getD i 0 < 18446744073709551616) : fit16 ⟨w, [], [], []⟩ ⟨k, q, true, fr⟩ = decide (w.bw ≤ fr.getD w.su.toNat 0) := by
  obtain ⟨b, s, h, an, al, no⟩ := w
  obtain ⟨rfl, rfl, rfl⟩ := h0
  unfold fit16 exc16 room16 had16
  have ho : own16 [] k.f k.t = 0 := rfl
  simp only [hw, wAllows_none, ho, Nat.add_zero, hfr, decide_true]
  simp
end Go.Proofs.YtjflbfianncpfaaGreat
