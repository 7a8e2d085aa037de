/-
  Families as lists of entries, plain: how the code of layer 14 holds them; that they tell what the document's families tell; who is driven out next. No condition beside what is said.
  Admission by the code's way, plain: one round of driving out, in families as lists. No condition beside what is said.
-/
import Derived.Test.YtogijfebfffobaaAdmMO
namespace Go.Proofs.Ytogijfebfffobaa
set_option maxRecDepth 100000
set_option linter.unusedVariables false

def gmore (f : Fam) (y : Et) : Fam := ⟨f.k, max f.bw y.w.bw, min f.ho y.w.ho⟩
/-- What a family's paths hold together. -/
def gF : List Et → Fam
  | [] => ⟨⟨0, 0, 0, 0⟩, 0, 0⟩
  | x :: t => t.foldl gmore ⟨x.k, x.w.bw, x.w.ho⟩
/-- Paths that are kin, one at least. -/
def Hom (g : List Et) : Prop := ∃ x t, g = x :: t ∧ ∀ y ∈ t, kap y.k = kap x.k
theorem gmore_key : ∀ (t : List Et) (f : Fam), (t.foldl gmore f).k = f.k
  | [], _ => rfl
  | y :: t, f => by rw [List.foldl_cons, gmore_key t]; rfl
theorem gF_key (x : Et) (t : List Et) : (gF (x :: t)).k = x.k := gmore_key t _
theorem gmore_bw : ∀ (t : List Et) (f : Fam), f.bw ≤ (t.foldl gmore f).bw ∧ (∀ y ∈ t, y.w.bw ≤ (t.foldl gmore f).bw) ∧ ((t.foldl gmore f).bw = f.bw ∨ ∃ y ∈ t, y.w.bw = (t.foldl gmore f).bw)
  | [], f => ⟨Nat.le_refl _, by simp, .inl rfl⟩
  | y :: t, f => by
    rw [List.foldl_cons]
    obtain ⟨h1, h2, h3⟩ := gmore_bw t (gmore f y)
    have e : (gmore f y).bw = max f.bw y.w.bw := rfl
    refine ⟨by omega, fun z hz => ?_, ?_⟩
    · rcases List.mem_cons.1 hz with rfl | hz
      · omega
      · exact h2 z hz
    · rcases h3 with h3 | ⟨z, hz, h3⟩
      · by_cases hm : y.w.bw ≤ f.bw
        · exact .inl (by omega)
        · exact .inr ⟨y, by simp, by omega⟩
      · exact .inr ⟨z, List.mem_cons_of_mem _ hz, h3⟩
theorem gmore_ho : ∀ (t : List Et) (f : Fam), (t.foldl gmore f).ho ≤ f.ho ∧ (∀ y ∈ t, (t.foldl gmore f).ho ≤ y.w.ho) ∧ ((t.foldl gmore f).ho = f.ho ∨ ∃ y ∈ t, y.w.ho = (t.foldl gmore f).ho)
  | [], f => ⟨Int.le_refl _, by simp, .inl rfl⟩
  | y :: t, f => by
    rw [List.foldl_cons]
    obtain ⟨h1, h2, h3⟩ := gmore_ho t (gmore f y)
    have e : (gmore f y).ho = min f.ho y.w.ho := rfl
    refine ⟨by omega, fun z hz => ?_, ?_⟩
    · rcases List.mem_cons.1 hz with rfl | hz
      · omega
      · exact h2 z hz
    · rcases h3 with h3 | ⟨z, hz, h3⟩
      · by_cases hm : f.ho ≤ y.w.ho
        · exact .inl (by omega)
        · exact .inr ⟨y, by simp, by omega⟩
      · exact .inr ⟨z, List.mem_cons_of_mem _ hz, h3⟩
/-- Who wants most tells a family's bandwidth; who holds highest its priority. -/
theorem gF_bw {g : List Et} (hg : g ≠ []) {x : Et} (hx : x ∈ g) (h : ∀ y ∈ g, y.w.bw ≤ x.w.bw) : (gF g).bw = x.w.bw := by
  obtain ⟨a, t, rfl⟩ := List.exists_cons_of_ne_nil hg
  obtain ⟨h1, h2, h3⟩ := gmore_bw t ⟨a.k, a.w.bw, a.w.ho⟩
  have e : gF (a :: t) = t.foldl gmore ⟨a.k, a.w.bw, a.w.ho⟩ := rfl
  rw [e]
  have hle : (t.foldl gmore ⟨a.k, a.w.bw, a.w.ho⟩).bw ≤ x.w.bw := by
    rcases h3 with h3 | ⟨z, hz, h3⟩
    · rw [h3]; exact h a (by simp)
    · rw [← h3]; exact h z (List.mem_cons_of_mem _ hz)
  rcases List.mem_cons.1 hx with rfl | hx
  · exact Nat.le_antisymm hle h1
  · exact Nat.le_antisymm hle (h2 x hx)
theorem gF_ho {g : List Et} (hg : g ≠ []) {x : Et} (hx : x ∈ g) (h : ∀ y ∈ g, x.w.ho ≤ y.w.ho) : (gF g).ho = x.w.ho := by
  obtain ⟨a, t, rfl⟩ := List.exists_cons_of_ne_nil hg
  obtain ⟨h1, h2, h3⟩ := gmore_ho t ⟨a.k, a.w.bw, a.w.ho⟩
  have e : gF (a :: t) = t.foldl gmore ⟨a.k, a.w.bw, a.w.ho⟩ := rfl
  rw [e]
  have hle : x.w.ho ≤ (t.foldl gmore ⟨a.k, a.w.bw, a.w.ho⟩).ho := by
    rcases h3 with h3 | ⟨z, hz, h3⟩
    · rw [h3]; exact h a (by simp)
    · rw [← h3]; exact h z (List.mem_cons_of_mem _ hz)
  rcases List.mem_cons.1 hx with rfl | hx
  · exact Int.le_antisymm h1 hle
  · exact Int.le_antisymm (h2 x hx) hle
theorem gF_bw_mem {g : List Et} (hg : g ≠ []) : ∃ x ∈ g, x.w.bw = (gF g).bw := by
  obtain ⟨a, t, rfl⟩ := List.exists_cons_of_ne_nil hg
  rcases (gmore_bw t ⟨a.k, a.w.bw, a.w.ho⟩).2.2 with h | ⟨y, hy, h⟩
  · exact ⟨a, by simp, h.symm⟩
  · exact ⟨y, List.mem_cons_of_mem _ hy, h⟩
theorem gF_ho_mem {g : List Et} (hg : g ≠ []) : ∃ x ∈ g, x.w.ho = (gF g).ho := by
  obtain ⟨a, t, rfl⟩ := List.exists_cons_of_ne_nil hg
  rcases (gmore_ho t ⟨a.k, a.w.bw, a.w.ho⟩).2.2 with h | ⟨y, hy, h⟩
  · exact ⟨a, by simp, h.symm⟩
  · exact ⟨y, List.mem_cons_of_mem _ hy, h⟩
theorem Hom.ne {g : List Et} (h : Hom g) : g ≠ [] := by obtain ⟨x, t, rfl, _⟩ := h; simp
theorem Hom.kap {g : List Et} (h : Hom g) {y : Et} (hy : y ∈ g) : kap y.k = kap (gF g).k := by
  obtain ⟨x, t, rfl, ht⟩ := h
  rw [gF_key]
  rcases List.mem_cons.1 hy with rfl | hy
  · rfl
  · exact ht y hy

/-- These are the families of those entries, as lists. -/
structure Grp (l : List Et) (gs : List (List Et)) : Prop where
  flat : gs.flatten = l
  hom : ∀ g ∈ gs, Hom g
  nd : (gs.map fun g => kap (gF g).k).Nodup
theorem fstep_kin : ∀ (t : List Et) (out : List Fam) (f : Fam), (∀ y ∈ t, kap f.k = kap y.k) → t.foldl fstep (out ++ [f]) = out ++ [t.foldl gmore f]
  | [], _, _, _ => rfl
  | y :: t, out, f, h => by
    rw [List.foldl_cons, List.foldl_cons]
    have e : fstep (out ++ [f]) y = out ++ [gmore f y] := by
      unfold fstep
      rw [List.getLast?_concat, List.dropLast_concat]
      simp only
      rw [if_pos (kKin_iff.2 (h y (by simp)))]
      rfl
    rw [e]
    exact fstep_kin t out _ (fun z hz => h z (List.mem_cons_of_mem _ hz))
theorem fstep_new {out : List Fam} {x : Et} (h : ∀ f, out.getLast? = some f → kap f.k ≠ kap x.k) : fstep out x = out ++ [⟨x.k, x.w.bw, x.w.ho⟩] := by
  unfold fstep
  cases e : out.getLast? with
  | none =>
    have : out = [] := by simpa using e
    subst this; rfl
  | some f =>
    simp only
    rw [if_neg (fun h2 => h f e (kKin_iff.1 h2))]
theorem fams_aux : ∀ (gs : List (List Et)) (out : List Fam), (∀ g ∈ gs, Hom g) → (gs.map fun g => kap (gF g).k).Nodup → (∀ f, out.getLast? = some f → ∀ g ∈ gs, kap f.k ≠ kap (gF g).k) → gs.flatten.foldl fstep out = out ++ gs.map gF
  | [], out, _, _, _ => by simp
  | g :: gs, out, hh, hn, ho => by
    obtain ⟨x, t, rfl, ht⟩ := hh g (by simp)
    rw [List.map_cons, List.nodup_cons] at hn
    rw [List.flatten_cons, List.foldl_append, List.foldl_cons, fstep_new (fun f hf e => ho f hf (x :: t) (by simp) (by rw [gF_key]; exact e)),
      fstep_kin t out ⟨x.k, x.w.bw, x.w.ho⟩ (fun y hy => (ht y hy).symm),
      fams_aux gs _ (fun g hg => hh g (List.mem_cons_of_mem _ hg)) hn.2 (fun f hf g hg e => ?_)]
    · rw [List.map_cons, List.append_assoc]; rfl
    · rw [List.getLast?_concat] at hf
      injection hf with hf
      subst hf
      exact hn.1 (List.mem_map.2 ⟨g, hg, by rw [← e]; rfl⟩)
/-- Such lists tell what the document's families tell. -/
theorem Grp.fams {l : List Et} {gs : List (List Et)} (h : Grp l gs) : fams l = gs.map gF := by
  rw [← h.flat]
  unfold Go.Proofs.Ytogijfebfffobaa.fams
  rw [fams_aux gs [] h.hom h.nd (fun f hf => by simp at hf)]
  rfl
theorem Grp.nil : Grp [] [] := ⟨rfl, by simp, by simp⟩
theorem nodup_flat {gs hs : List (List Et)} : (∀ g ∈ gs, Hom g) → (gs.map fun g => kap (gF g).k).Nodup → (∀ g ∈ hs, Hom g) → (hs.map fun g => kap (gF g).k).Nodup → gs.flatten = hs.flatten → gs = hs := by
  induction gs generalizing hs with
  | nil =>
    intro _ _ h3 _ h5
    cases hs with
    | nil => rfl
    | cons g t =>
      obtain ⟨x, u, rfl, _⟩ := h3 g (by simp)
      simp at h5
  | cons g gs ih =>
    intro h1 h2 h3 h4 h5
    cases hs with
    | nil =>
      obtain ⟨x, u, rfl, _⟩ := h1 g (by simp)
      simp at h5
    | cons e es =>
      obtain ⟨x, u, rfl, hu⟩ := h1 g (by simp)
      obtain ⟨y, v, rfl, hv⟩ := h3 e (by simp)
      rw [List.map_cons, List.nodup_cons] at h2 h4
      rw [List.flatten_cons, List.flatten_cons, List.cons_append, List.cons_append] at h5
      injection h5 with h6 h7
      subst h6
      have key : ∀ (a : List Et) (gs : List (List Et)) (b : List Et) (hs : List (List Et)), (∀ z ∈ a, kap z.k = kap x.k) → (∀ z ∈ b, kap z.k = kap x.k) → (∀ z ∈ gs.flatten, kap z.k ≠ kap x.k) → (∀ z ∈ hs.flatten, kap z.k ≠ kap x.k) → a ++ gs.flatten = b ++ hs.flatten → a = b ∧ gs.flatten = hs.flatten := by
        intro a
        induction a with
        | nil =>
          intro gs b hs _ hb hg _ he
          cases b with
          | nil => exact ⟨rfl, he⟩
          | cons z b => exact absurd (hb z (by simp)) (hg z (by rw [show gs.flatten = _ from he]; simp))
        | cons z a iha =>
          intro gs b hs ha hb hg hh he
          cases b with
          | nil => exact absurd (ha z (by simp)) (hh z (by rw [← (show z :: a ++ gs.flatten = hs.flatten from he)]; simp))
          | cons z2 b =>
            rw [List.cons_append, List.cons_append] at he
            injection he with e1 e2
            subst e1
            obtain ⟨r1, r2⟩ := iha gs b hs (fun q hq => ha q (List.mem_cons_of_mem _ hq)) (fun q hq => hb q (List.mem_cons_of_mem _ hq)) hg hh e2
            exact ⟨by rw [r1], r2⟩
      have other : ∀ (gs : List (List Et)), (∀ g ∈ gs, Hom g) → kap (gF (x :: u)).k ∉ gs.map (fun g => kap (gF g).k) → ∀ z ∈ gs.flatten, kap z.k ≠ kap x.k := by
        intro gs hh hn z hz e
        obtain ⟨g, hg, hzg⟩ := List.mem_flatten.1 hz
        exact hn (List.mem_map.2 ⟨g, hg, by rw [← (hh g hg).kap hzg, e, gF_key]⟩)
      obtain ⟨r1, r2⟩ := key u gs v es hu hv (other gs (fun g hg => h1 g (List.mem_cons_of_mem _ hg)) h2.1) (other es (fun g hg => h3 g (List.mem_cons_of_mem _ hg)) (by
        have := h4.1
        rw [gF_key] at this ⊢
        exact this)) h7
      rw [r1, ih (fun g hg => h1 g (List.mem_cons_of_mem _ hg)) h2.2 (fun g hg => h3 g (List.mem_cons_of_mem _ hg)) h4.2 r2]
theorem Grp.unique {l : List Et} {gs hs : List (List Et)} (h : Grp l gs) (k : Grp l hs) : gs = hs := nodup_flat h.hom h.nd k.hom k.nd (h.flat.trans k.flat.symm)
theorem flatten_filter (c : Int × Int × Int) : ∀ (gs : List (List Et)), (∀ g ∈ gs, Hom g) → gs.flatten.filter (fun x => !decide (kap x.k = c)) = (gs.filter fun g => !decide (kap (gF g).k = c)).flatten
  | [], _ => rfl
  | g :: gs, h => by
    rw [List.flatten_cons, List.filter_append, flatten_filter c gs fun g hg => h g (List.mem_cons_of_mem _ hg)]
    have hg := h g (by simp)
    by_cases hc : kap (gF g).k = c
    · rw [List.filter_cons_of_neg (by simp [hc])]
      rw [List.filter_eq_nil_iff.2 (fun x hx => by simp [hg.kap hx, hc])]
      rfl
    · rw [List.filter_cons_of_pos (by simp [hc]), List.flatten_cons]
      rw [List.filter_eq_self.2 (fun x hx => by simp [hg.kap hx, hc])]
/-- All but the kin of one. -/
theorem Grp.filter {l : List Et} {gs : List (List Et)} (h : Grp l gs) (c : Int × Int × Int) : Grp (l.filter fun x => !decide (kap x.k = c)) (gs.filter fun g => !decide (kap (gF g).k = c)) :=
  ⟨by rw [← flatten_filter c gs h.hom, h.flat], fun g hg => h.hom g (List.mem_filter.1 hg).1, List.Sublist.nodup (List.Sublist.map _ List.filter_sublist) h.nd⟩
theorem erase_filter {α β : Type} [DecidableEq β] (f : α → β) : ∀ (l : List α) (i : Nat) (hi : i < l.length), (l.map f).Nodup → l.filter (fun x => !decide (f x = f l[i])) = l.eraseIdx i
  | a :: l, 0, _, h => by
    rw [List.map_cons, List.nodup_cons] at h
    rw [List.getElem_cons_zero, List.filter_cons_of_neg (by simp), List.eraseIdx_cons_zero, List.filter_eq_self]
    intro x hx
    rw [Bool.not_eq_true', decide_eq_false_iff_not]
    exact fun e => h.1 (List.mem_map.2 ⟨x, hx, e⟩)
  | a :: l, i + 1, hi, h => by
    rw [List.map_cons, List.nodup_cons] at h
    have hi' : i < l.length := by simpa using hi
    rw [List.getElem_cons_succ, List.filter_cons_of_pos, List.eraseIdx_cons_succ, erase_filter f l i hi' h.2]
    rw [Bool.not_eq_true', decide_eq_false_iff_not]
    exact fun e => h.1 (List.mem_map.2 ⟨_, List.getElem_mem hi', e.symm⟩)
theorem keeps_eq (f : Fam) (l : List Et) : keeps f l = l.filter fun x => !decide (kap x.k = kap f.k) := by
  unfold keeps
  refine List.filter_congr fun x _ => ?_
  cases h : kKin x.k f.k with
  | true => rw [kKin_iff] at h; simp [h]
  | false => rw [kKin_false] at h; simp [h]
/-- A family goes. -/
theorem Grp.erase {l : List Et} {gs : List (List Et)} (h : Grp l gs) {i : Nat} (hi : i < gs.length) : Grp (keeps (gF gs[i]) l) (gs.eraseIdx i) := by
  have := h.filter (kap (gF gs[i]).k)
  rwa [erase_filter (fun g => kap (gF g).k) gs i hi h.nd, ← keeps_eq] at this
/-- Two lists in order with the same entries are the same. -/
theorem srt_ext : ∀ {a b : List Et}, Srt14 a → Srt14 b → (∀ x, x ∈ a ↔ x ∈ b) → a = b
  | [], [], _, _, _ => rfl
  | [], y :: b, _, _, h => absurd ((h y).2 (by simp)) (by simp)
  | x :: a, [], _, _, h => absurd ((h x).1 (by simp)) (by simp)
  | x :: a, y :: b, ha, hb, h => by
    have ha' := List.pairwise_cons.1 ha
    have hb' := List.pairwise_cons.1 hb
    have e : x = y := by
      rcases List.mem_cons.1 ((h x).1 (by simp)) with e | hx
      · exact e
      · rcases List.mem_cons.1 ((h y).2 (by simp)) with e | hy
        · exact e.symm
        · have h1 := ha'.1 y hy
          have h2 := hb'.1 x hx
          rw [kBef_asymm h1] at h2; cases h2
    subst e
    rw [srt_ext ha'.2 hb'.2 fun z => ?_]
    have hz := h z
    rw [List.mem_cons, List.mem_cons] at hz
    constructor
    · intro hza
      rcases hz.1 (.inr hza) with e | hzb
      · subst e
        have := ha'.1 z hza
        rw [kBef_irrefl] at this; cases this
      · exact hzb
    · intro hzb
      rcases hz.2 (.inr hzb) with e | hza
      · subst e
        have := hb'.1 z hzb
        rw [kBef_irrefl] at this; cases this
      · exact hza
theorem keeps_wIns {l : List Et} {x : Et} {f : Fam} (hs : Srt14 l) (hx : has14 l x.k = false) (hf : kap f.k ≠ kap x.k) : keeps f (wIns l x) = wIns (keeps f l) x := by
  refine srt_ext (srt_filter (srt_wIns hs hx) _) (srt_wIns (srt_filter hs _) (has_sub (List.filter_sublist) hx)) fun y => ?_
  rw [mem_keeps, mem_wIns, mem_wIns, mem_keeps]
  constructor
  · rintro ⟨h1 | h1, h2⟩
    · exact .inl ⟨h1, h2⟩
    · exact .inr h1
  · rintro (h1 | h1)
    · exact ⟨.inl h1.1, h1.2⟩
    · exact ⟨.inr h1, by rw [h1]; exact Ne.symm hf⟩
theorem vfold_filter (k : Ky) (su : Int) : ∀ (fs : List Fam) (b : Option Fam), fs.foldl (vstep k su) b = (fs.filter fun f => !decide (kap f.k = kap k)).foldl (vstep k su) b
  | [], _ => rfl
  | f :: fs, b => by
    by_cases hc : kap f.k = kap k
    · rw [List.filter_cons_of_neg (by simp [hc]), List.foldl_cons, ← vfold_filter k su fs b]
      congr 1
      unfold vstep
      rw [if_neg]
      rintro ⟨h, _⟩
      exact (gives_iff.1 h).1 hc
    · rw [List.filter_cons_of_pos (by simp [hc]), List.foldl_cons, List.foldl_cons, vfold_filter k su fs]
theorem map_filter_gF (c : Int × Int × Int) (gs : List (List Et)) : (gs.map gF).filter (fun f => !decide (kap f.k = c)) = (gs.filter fun g => !decide (kap (gF g).k = c)).map gF := by
  rw [List.filter_map]; rfl
/-- Who gives way is the same with the new one and without it. -/
theorem vict_with {l : List Et} {x : Et} {gs hs : List (List Et)} (hl : Grp l hs) (hw : Grp (wIns l x) gs) (hs' : Srt14 l) (hx : has14 l x.k = false) : (gs.map gF).foldl (vstep x.k x.w.su) none = vict l x.k x.w.su := by
  unfold vict
  rw [hl.fams, vfold_filter, vfold_filter (fs := hs.map gF), map_filter_gF, map_filter_gF]
  have e : (wIns l x).filter (fun y => !decide (kap y.k = kap x.k)) = l.filter fun y => !decide (kap y.k = kap x.k) := by
    refine srt_ext (srt_filter (srt_wIns hs' hx) _) (srt_filter hs' _) fun y => ?_
    rw [List.mem_filter, List.mem_filter, mem_wIns]
    constructor
    · rintro ⟨h1 | h1, h2⟩
      · exact ⟨h1, h2⟩
      · subst h1; simp at h2
    · rintro ⟨h1, h2⟩
      exact ⟨.inl h1, h2⟩
  have h1 := hw.filter (kap x.k)
  rw [e] at h1
  rw [h1.unique (hl.filter (kap x.k))]

/-- The families of a list in order, as the code gathers them. -/
def kinOf (x : Et) (y : Et) : Bool := kKin y.k x.k
theorem kin_take {x : Et} {t : List Et} : Hom (x :: t.takeWhile (kinOf x)) := ⟨x, _, rfl, fun y hy => kKin_iff.1 (takeWhile_all (p := kinOf x) hy)⟩
theorem grp_exists : ∀ (n : Nat) (l : List Et), l.length = n → Srt14 l → ∃ gs, Grp l gs
  | n, [], _, _ => ⟨[], Grp.nil⟩
  | 0, x :: t, hn, _ => by simp at hn
  | n + 1, x :: t, hn, hs => by
    have hs' := List.pairwise_cons.1 hs
    obtain ⟨a, ha⟩ : ∃ a, t.takeWhile (kinOf x) = a := ⟨_, rfl⟩
    obtain ⟨b, hb⟩ : ∃ b, t.dropWhile (kinOf x) = b := ⟨_, rfl⟩
    have hab : a ++ b = t := by rw [← ha, ← hb]; exact List.takeWhile_append_dropWhile
    have hsb : Srt14 b := List.Pairwise.sublist (by rw [← hb]; exact List.dropWhile_sublist _) hs'.2
    have hl : b.length ≤ n := by
      have : t.length = n := by simpa using hn
      rw [← this, ← hab, List.length_append]; omega
    obtain ⟨m, hm, hm2⟩ : ∃ m, b.length = m ∧ m ≤ n := ⟨_, rfl, hl⟩
    obtain ⟨gs, hg⟩ : ∃ gs, Grp b gs := by
      have aux : ∀ (k : Nat) (l : List Et), l.length ≤ k → Srt14 l → k ≤ n → ∃ gs, Grp l gs := fun k l h1 h2 h3 => grp_exists l.length l rfl h2
      exact aux n b hl hsb (Nat.le_refl _)
    refine ⟨(x :: a) :: gs, by rw [List.flatten_cons, hg.flat, List.cons_append, hab], fun g hgm => ?_, ?_⟩
    · rcases List.mem_cons.1 hgm with rfl | h
      · rw [← ha]; exact kin_take
      · exact hg.hom g h
    · rw [List.map_cons, List.nodup_cons]
      refine ⟨fun hm => ?_, hg.nd⟩
      obtain ⟨g, hgm, he⟩ := List.mem_map.1 hm
      obtain ⟨y, u, rfl, hu⟩ := hg.hom g hgm
      rw [gF_key, gF_key] at he
      have hyb : y ∈ b := by rw [← hg.flat]; exact List.mem_flatten.2 ⟨_, hgm, by simp⟩
      cases hbc : b with
      | nil => rw [hbc] at hyb; simp at hyb
      | cons z v =>
        rw [hbc] at hyb
        have hz : kinOf x z = false := dropWhile_head (p := kinOf x) (by rw [hb, hbc])
        unfold kinOf at hz
        rw [kKin_false] at hz
        rcases List.mem_cons.1 hyb with e | hyv
        · rw [e] at he; exact hz he
        · have h1 := hs'.1 z (by rw [← hab, hbc]; simp)
          rw [hbc] at hsb
          have h2 := (List.pairwise_cons.1 hsb).1 y hyv
          exact hz ((kin_between h1 h2 he.symm).symm)
termination_by n l => l.length
decreasing_by
  have : t.length = n := by simpa using hn
  simp only [List.length_cons]
  omega
theorem grp_of {l : List Et} (hs : Srt14 l) : ∃ gs, Grp l gs := grp_exists _ l rfl hs
/-- The first family, and the rest. -/
theorem Grp.cut {x : Et} {t : List Et} {gs : List (List Et)} (hs : Srt14 (x :: t)) {hs' : List (List Et)} (hd : Grp (t.dropWhile (kinOf x)) hs') (h : Grp (x :: t) gs) : gs = (x :: t.takeWhile (kinOf x)) :: hs' := by
  refine h.unique ⟨by rw [List.flatten_cons, hd.flat, List.cons_append, List.takeWhile_append_dropWhile], fun g hgm => ?_, ?_⟩
  · rcases List.mem_cons.1 hgm with rfl | h
    · exact kin_take
    · exact hd.hom g h
  · rw [List.map_cons, List.nodup_cons]
    refine ⟨fun hm => ?_, hd.nd⟩
    have hsc := List.pairwise_cons.1 hs
    obtain ⟨g, hgm, he⟩ := List.mem_map.1 hm
    obtain ⟨y, u, rfl, hu⟩ := hd.hom g hgm
    rw [gF_key, gF_key] at he
    have hyb : y ∈ t.dropWhile (kinOf x) := by rw [← hd.flat]; exact List.mem_flatten.2 ⟨_, hgm, by simp⟩
    cases hbc : t.dropWhile (kinOf x) with
    | nil => rw [hbc] at hyb; simp at hyb
    | cons z v =>
      rw [hbc] at hyb
      have hz : kinOf x z = false := dropWhile_head (p := kinOf x) hbc
      unfold kinOf at hz
      rw [kKin_false] at hz
      have hsub : (z :: v).Sublist t := by rw [← hbc]; exact List.dropWhile_sublist _
      rcases List.mem_cons.1 hyb with e | hyv
      · rw [e] at he; exact hz he
      · have h1 := hsc.1 z (hsub.subset (by simp))
        have h2 := (List.pairwise_cons.1 (List.Pairwise.sublist hsub hsc.2)).1 y hyv
        exact hz ((kin_between h1 h2 he.symm).symm)
end Go.Proofs.Ytogijfebfffobaa

namespace Go.Proofs.Ytogijfebfffobaa
set_option maxRecDepth 100000
set_option linter.unusedVariables false

theorem Grp.length {l : List Et} {gs : List (List Et)} (h : Grp l gs) : gs.length ≤ l.length := by
  have aux : ∀ gs : List (List Et), (∀ g ∈ gs, Hom g) → gs.length ≤ gs.flatten.length := by
    intro gs
    induction gs with
    | nil => simp
    | cons g gs ih =>
      intro hh
      obtain ⟨x, t, rfl, _⟩ := hh g (by simp)
      have := ih (fun g hg => hh g (List.mem_cons_of_mem _ hg))
      rw [List.flatten_cons, List.length_append, List.length_cons, List.length_cons]
      omega
  rw [← h.flat]
  exact aux gs h.hom
theorem wIns_perm (l : List Et) (x : Et) : (wIns l x).Perm (x :: l) := by
  unfold wIns
  refine List.perm_middle.trans ?_
  rw [List.takeWhile_append_dropWhile]
theorem erase_perm {gs : List (List Et)} {i : Nat} (hi : i < gs.length) : gs.flatten.Perm (gs[i] ++ (gs.eraseIdx i).flatten) := by
  have h : gs = gs.take i ++ gs[i] :: gs.drop (i + 1) := by
    rw [← List.drop_eq_getElem_cons hi, List.take_append_drop]
  have e : (gs.eraseIdx i).flatten = (gs.take i).flatten ++ (gs.drop (i + 1)).flatten := by rw [List.eraseIdx_eq_take_drop_succ, List.flatten_append]
  rw [e]
  conv => lhs; rw [h, List.flatten_append, List.flatten_cons]
  exact List.perm_append_comm_assoc _ _ _
/-- A state of the driving out. -/
structure Drv (size : Nat) (l : List Et) (x : Et) (fuel : Nat) (now : List Et) (gs : List (List Et)) (G : List Et) : Prop where
  grp : Grp (wIns now x) gs
  loop : aLoop fuel size now x = aLoop l.length size l x
  fuel : now.length ≤ fuel
  sub : now.Sublist l
  perm : (G ++ now).Perm l
theorem Drv.start {size : Nat} {l : List Et} {x : Et} {gs : List (List Et)} (h : Grp (wIns l x) gs) : Drv size l x l.length l gs [] := ⟨h, rfl, Nat.le_refl _, List.Sublist.refl _, by simp⟩
section
variable {size fuel : Nat} {l now G : List Et} {x : Et} {gs : List (List Et)}
theorem Drv.fit (h : Drv size l x fuel now gs G) (hf : fsum (gs.map gF) ≤ size) : aLoop l.length size l x = some now := by
  rw [← h.loop]
  have hfit : fit14 size (wIns now x) = true := by unfold fit14; rw [h.grp.fams]; exact decide_eq_true hf
  cases fuel with
  | zero => unfold aLoop; rw [if_pos hfit]
  | succ n => unfold aLoop; rw [if_pos hfit]
theorem Drv.vict (h : Drv size l x fuel now gs G) (hs : Srt14 l) (hx : has14 l x.k = false) : (gs.map gF).foldl (vstep x.k x.w.su) none = Go.Proofs.Ytogijfebfffobaa.vict now x.k x.w.su := by
  have hsn : Srt14 now := List.Pairwise.sublist h.sub hs
  obtain ⟨hs2, hg⟩ := grp_of hsn
  exact vict_with hg h.grp hsn (has_sub h.sub hx)
theorem Drv.stuck (h : Drv size l x fuel now gs G) (hs : Srt14 l) (hx : has14 l x.k = false) (hf : ¬ fsum (gs.map gF) ≤ size) (hv : (gs.map gF).foldl (vstep x.k x.w.su) none = none) : aLoop l.length size l x = none := by
  rw [h.vict hs hx] at hv
  rw [← h.loop]
  have hfit : ¬ fit14 size (wIns now x) = true := by unfold fit14; rw [h.grp.fams]; simpa using hf
  cases fuel with
  | zero => unfold aLoop; rw [if_neg hfit]
  | succ n => unfold aLoop; rw [if_neg hfit, hv]
theorem Drv.step (h : Drv size l x fuel now gs G) (hs : Srt14 l) (hx : has14 l x.k = false) (hf : ¬ fsum (gs.map gF) ≤ size) {i : Nat} (hi : i < gs.length) (hv : (gs.map gF).foldl (vstep x.k x.w.su) none = some (gF gs[i])) :
    ∃ fuel' now', Drv size l x fuel' now' (gs.eraseIdx i) (G ++ gs[i]) := by
  rw [h.vict hs hx] at hv
  have hfit : ¬ fit14 size (wIns now x) = true := by unfold fit14; rw [h.grp.fams]; simpa using hf
  have hsn : Srt14 now := List.Pairwise.sublist h.sub hs
  have hxn := has_sub h.sub hx
  obtain ⟨hg, hm⟩ := vict_some hv
  rw [gives_iff] at hg
  have hlt := keeps_less hsn hm
  cases fuel with
  | zero =>
    have := h.fuel
    omega
  | succ n =>
    obtain ⟨R, hR⟩ : ∃ R, aLoop l.length size l x = R := ⟨_, rfl⟩
    have hl : aLoop (n + 1) size now x = R := by rw [← hR]; exact h.loop
    unfold aLoop at hl
    rw [if_neg hfit, hv] at hl
    simp only at hl
    have hk : keeps (gF gs[i]) (wIns now x) = wIns (keeps (gF gs[i]) now) x := keeps_wIns hsn hxn hg.1
    have hgr := h.grp.erase hi
    rw [hk] at hgr
    refine ⟨n, keeps (gF gs[i]) now, hgr, ?_, by have := h.fuel; omega, List.Sublist.trans List.filter_sublist h.sub, ?_⟩
    · rw [hR]; exact hl
    · -- what goes and what stays
      have p1 : (wIns now x).Perm (gs[i] ++ wIns (keeps (gF gs[i]) now) x) := by
        have := erase_perm hi
        rw [h.grp.flat, hgr.flat] at this
        exact this
      have p2 : (x :: now).Perm (x :: (gs[i] ++ keeps (gF gs[i]) now)) :=
        (wIns_perm now x).symm.trans (p1.trans (((wIns_perm _ x).append_left gs[i]).trans List.perm_middle))
      have p3 := p2.cons_inv
      rw [List.append_assoc]
      exact ((p3.symm).append_left G).trans h.perm
theorem ky_pairwise {l : List Et} (h : Srt14 l) : (l.map (·.k)).Pairwise (fun a b => kBef a b = true) := by rw [List.pairwise_map]; exact h
theorem ky_sorted_unique : ∀ {a b : List Ky}, a.Perm b → a.Pairwise (fun a b => kBef b a = false) → b.Pairwise (fun a b => kBef a b = true) → a = b
  | [], b, hp, _, _ => by have := hp.length_eq; simp at this; exact (List.eq_nil_of_length_eq_zero this.symm).symm
  | x :: a, [], hp, _, _ => by have := hp.length_eq; simp at this
  | x :: a, y :: b, hp, ha, hb => by
    have ha' := List.pairwise_cons.1 ha
    have hb' := List.pairwise_cons.1 hb
    have e : x = y := by
      rcases List.mem_cons.1 (hp.subset (List.mem_cons_self : x ∈ x :: a)) with e | hx
      · exact e
      · rcases List.mem_cons.1 (hp.symm.subset (List.mem_cons_self : y ∈ y :: b)) with e | hy
        · exact e.symm
        · have h1 := hb'.1 x hx
          have h2 := ha'.1 y hy
          rw [h1] at h2; cases h2
    subst e
    rw [ky_sorted_unique hp.cons_inv ha'.2 hb'.2]
/-- The keys that went, in order. -/
theorem Drv.gone (h : Drv size l x fuel now gs G) (hs : Srt14 l) {ks : List Ky} (hp : ks.Perm (G.map (·.k))) (hpw : ks.Pairwise (fun a b => kBef b a = false)) : ks = gone14 l now := by
  have hnd : (G ++ now).Nodup := (h.perm.nodup_iff).2 (srt_nodup hs)
  have hsub : ∀ z, z ∈ G ++ now ↔ z ∈ l := fun z => h.perm.mem_iff
  have hG : G.Perm (l.filter fun z => !has14 now z.k) := by
    refine (List.perm_ext_iff_of_nodup (List.nodup_append.1 hnd).1 (srt_nodup (srt_filter hs _))).2 fun z => ?_
    rw [List.mem_filter, Bool.not_eq_true', has14_false]
    constructor
    · intro hz
      refine ⟨(hsub z).1 (List.mem_append_left _ hz), fun y hy e => ?_⟩
      have := srt_ne hs (h.sub.subset hy) ((hsub z).1 (List.mem_append_left _ hz)) e
      subst this
      exact (List.nodup_append.1 hnd).2.2 y hz y hy rfl
    · rintro ⟨hz, hn⟩
      rcases List.mem_append.1 ((hsub z).2 hz) with h1 | h1
      · exact h1
      · exact absurd rfl (hn z h1)
  unfold gone14
  exact ky_sorted_unique (hp.trans (hG.map _)) hpw (ky_pairwise (srt_filter hs _))
end
end Go.Proofs.Ytogijfebfffobaa
