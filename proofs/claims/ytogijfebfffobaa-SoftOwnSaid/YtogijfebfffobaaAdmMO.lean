/-
  Who holds a link's bandwidth, plain: keys and their order, families, what they hold together, who gives way. No condition beside what is said.
  Who is admitted, plain: what a table has behind a call, who is driven out, and what is always so. No condition beside what is said.
  What the laws of layer 14 ask, plain: what entries hold by going through all of them; the ledger that tells it; what a call leaves. No condition beside what is said.
-/
import Derived.Test.YtogijfebfffobaaGroupMC
import Derived.Test.YtogijfebfffobaaLedgMK
namespace Go.Proofs.Ytogijfebfffobaa
set_option maxRecDepth 100000

/-- A path's key. -/
structure Ky where
  tail : Int
  tun : Int
  head : Int
  lsp : Int
theorem Ky.ext {a b : Ky} (h1 : a.tail = b.tail) (h2 : a.tun = b.tun) (h3 : a.head = b.head) (h4 : a.lsp = b.lsp) : a = b := by
  cases a; cases b; simp at h1 h2 h3 h4; simp [h1, h2, h3, h4]
instance : DecidableEq Ky := fun a b =>
  if h1 : a.tail = b.tail then if h2 : a.tun = b.tun then if h3 : a.head = b.head then if h4 : a.lsp = b.lsp then .isTrue (Ky.ext h1 h2 h3 h4)
  else .isFalse (fun e => h4 (by rw [e])) else .isFalse (fun e => h3 (by rw [e])) else .isFalse (fun e => h2 (by rw [e])) else .isFalse (fun e => h1 (by rw [e]))
/-- What all of a family have. -/
def kap (k : Ky) : Int × Int × Int := (k.head, k.tun, k.tail)
def kKin (a b : Ky) : Bool := a.head == b.head && (a.tun == b.tun && a.tail == b.tail)
def kBef (a b : Ky) : Bool := if a.head ≠ b.head then decide (a.head < b.head) else if a.tun ≠ b.tun then decide (a.tun < b.tun) else if a.tail ≠ b.tail then decide (a.tail < b.tail) else decide (a.lsp < b.lsp)
theorem kKin_iff {a b : Ky} : kKin a b = true ↔ kap a = kap b := by
  unfold kKin kap
  simp [Prod.ext_iff]
theorem kKin_false {a b : Ky} : kKin a b = false ↔ kap a ≠ kap b := by rw [← Bool.not_eq_true, kKin_iff]
theorem kBef_iff {a b : Ky} : kBef a b = true ↔ a.head < b.head ∨ (a.head = b.head ∧ (a.tun < b.tun ∨ (a.tun = b.tun ∧ (a.tail < b.tail ∨ (a.tail = b.tail ∧ a.lsp < b.lsp))))) := by
  unfold kBef
  split
  · rw [decide_eq_true_eq]; omega
  · split
    · rw [decide_eq_true_eq]; omega
    · split
      · rw [decide_eq_true_eq]; omega
      · rw [decide_eq_true_eq]; omega
theorem kBef_trans {a b c : Ky} (h : kBef a b = true) (k : kBef b c = true) : kBef a c = true := by rw [kBef_iff] at h k ⊢; omega
theorem kBef_asymm {a b : Ky} (h : kBef a b = true) : kBef b a = false := by rw [← Bool.not_eq_true]; intro k; rw [kBef_iff] at h k; omega
theorem kBef_irrefl (a : Ky) : kBef a a = false := by rw [← Bool.not_eq_true]; intro k; rw [kBef_iff] at k; omega
theorem kBef_ne {a b : Ky} (h : kBef a b = true) : a ≠ b := fun e => by rw [e, kBef_irrefl] at h; cases h
theorem kBef_total {a b : Ky} (h : a ≠ b) : kBef a b = true ∨ kBef b a = true := by
  rw [kBef_iff, kBef_iff]
  by_cases h1 : a.head = b.head
  · by_cases h2 : a.tun = b.tun
    · by_cases h3 : a.tail = b.tail
      · have h4 : a.lsp ≠ b.lsp := fun e => h (Ky.ext h3 h2 h1 e)
        omega
      · omega
    · omega
  · omega
theorem kin_between {a b c : Ky} (h : kBef a b = true) (k : kBef b c = true) (hk : kap a = kap c) : kap a = kap b := by
  rw [kBef_iff] at h k
  simp only [kap, Prod.mk.injEq] at hk ⊢
  omega
/-- Of two keys just one comes first, unless they are one. -/
theorem kBef_either (a b : Ky) : !(kBef a b && kBef b a) = true ∧ ((kBef a b || kBef b a) = decide (a ≠ b)) := by
  by_cases h : a = b
  · subst h; simp [kBef_irrefl]
  · rcases kBef_total h with h1 | h1
    · simp [h1, kBef_asymm h1, h]
    · simp [h1, kBef_asymm h1, h]

/-- A path that holds bandwidth. -/
structure Et where
  k : Ky
  w : Wn
/-- Paths that are kin. -/
structure Fam where
  k : Ky
  bw : Nat
  ho : Int
/-- In order. -/
def Srt14 (l : List Et) : Prop := l.Pairwise (fun a b => kBef a.k b.k = true)
def has14 (l : List Et) (k : Ky) : Bool := l.any fun x => decide (x.k = k)
theorem has14_iff {l : List Et} {k : Ky} : has14 l k = true ↔ ∃ x ∈ l, x.k = k := by simp [has14]
theorem has14_false {l : List Et} {k : Ky} : has14 l k = false ↔ ∀ x ∈ l, x.k ≠ k := by simp [has14]

/-- These are the families of those entries: one for each, with the most that one of it wants. -/
structure Fms (l : List Et) (fs : List Fam) : Prop where
  nd : (fs.map (fun f => kap f.k)).Nodup
  from_ : ∀ f ∈ fs, ∃ x ∈ l, kap x.k = kap f.k ∧ x.w.bw = f.bw
  all : ∀ x ∈ l, ∃ f ∈ fs, kap f.k = kap x.k ∧ x.w.bw ≤ f.bw
/-- What families hold together. -/
def fsum (fs : List Fam) : Nat := (fs.map (·.bw)).sum

theorem fsum_le_aux : ∀ (fs gs : List Fam), (fs.map (fun f => kap f.k)).Nodup → (∀ f ∈ fs, ∃ g ∈ gs, kap g.k = kap f.k ∧ f.bw ≤ g.bw) → fsum fs ≤ fsum gs
  | [], _, _, _ => Nat.zero_le _
  | f :: fs, gs, hn, h => by
    obtain ⟨g, hg, hk, hb⟩ := h f List.mem_cons_self
    obtain ⟨s, t, rfl⟩ := List.append_of_mem hg
    rw [List.map_cons, List.nodup_cons] at hn
    have := fsum_le_aux fs (s ++ t) hn.2 (fun x hx => by
      obtain ⟨y, hy, hy2, hy3⟩ := h x (List.mem_cons_of_mem _ hx)
      rw [List.mem_append, List.mem_cons] at hy
      rcases hy with hy | hy | hy
      · exact ⟨y, List.mem_append_left _ hy, hy2, hy3⟩
      · exfalso
        subst hy
        apply hn.1
        rw [List.mem_map]
        exact ⟨x, hx, by rw [← hy2, hk]⟩
      · exact ⟨y, List.mem_append_right _ hy, hy2, hy3⟩)
    simp only [fsum, List.map_cons, List.sum_cons, List.map_append, List.sum_append] at this ⊢
    omega
/-- More entries hold no less. -/
theorem fsum_mono {l m : List Et} {fs gs : List Fam} (hf : Fms l fs) (hg : Fms m gs) (h : ∀ x ∈ l, ∃ y ∈ m, kap y.k = kap x.k ∧ x.w.bw ≤ y.w.bw) : fsum fs ≤ fsum gs := by
  refine fsum_le_aux fs gs hf.nd (fun f hfm => ?_)
  obtain ⟨x, hx, h1, h2⟩ := hf.from_ f hfm
  obtain ⟨y, hy, h3, h4⟩ := h x hx
  obtain ⟨g, hgm, h5, h6⟩ := hg.all y hy
  exact ⟨g, hgm, by rw [h5, h3, h1], by omega⟩
theorem fsum_same {l m : List Et} {fs gs : List Fam} (hf : Fms l fs) (hg : Fms m gs) (h : ∀ x, x ∈ l ↔ x ∈ m) : fsum fs = fsum gs :=
  Nat.le_antisymm (fsum_mono hf hg fun x hx => ⟨x, (h x).1 hx, rfl, Nat.le_refl _⟩) (fsum_mono hg hf fun x hx => ⟨x, (h x).2 hx, rfl, Nat.le_refl _⟩)

/-- One entry more, family by family. -/
def fstep (out : List Fam) (x : Et) : List Fam :=
  match out.getLast? with
  | some f => if kKin f.k x.k = true then out.dropLast ++ [⟨f.k, max f.bw x.w.bw, min f.ho x.w.ho⟩] else out ++ [⟨x.k, x.w.bw, x.w.ho⟩]
  | none => [⟨x.k, x.w.bw, x.w.ho⟩]
/-- The families of entries in order, as the document gathers them. -/
def fams (l : List Et) : List Fam := l.foldl fstep []
theorem fams_snoc (l : List Et) (x : Et) : fams (l ++ [x]) = fstep (fams l) x := by unfold fams; rw [List.foldl_append]; rfl

/-- What is known of the families of a list in order. -/
structure FmsAll (l : List Et) (fs : List Fam) : Prop where
  fms : Fms l fs
  hold_ : ∀ f ∈ fs, ∃ x ∈ l, kap x.k = kap f.k ∧ x.w.ho = f.ho
  least : ∀ f ∈ fs, ∀ x ∈ l, kap x.k = kap f.k → f.ho ≤ x.w.ho
  key : ∀ f ∈ fs, ∃ x ∈ l, x.k = f.k
  first : ∀ f ∈ fs, ∀ x ∈ l, kap x.k = kap f.k → x.k = f.k ∨ kBef f.k x.k = true
  last : ∀ x, l.getLast? = some x → ∃ f, fs.getLast? = some f ∧ kap f.k = kap x.k
theorem nodup_snoc {α : Type} {l : List α} {a : α} (h : l.Nodup) (ha : a ∉ l) : (l ++ [a]).Nodup := by
  rw [List.nodup_append]
  exact ⟨h, by simp, fun x hx y hy => by simp at hy; subst hy; exact fun e => ha (e ▸ hx)⟩
theorem fams_all : ∀ (n : Nat) (l : List Et), l.length = n → Srt14 l → FmsAll l (fams l)
  | 0, l, hn, _ => by
    obtain rfl : l = [] := List.eq_nil_of_length_eq_zero hn
    exact ⟨⟨by simp [fams], by simp [fams], by simp⟩, by simp [fams], by simp [fams], by simp [fams], by simp [fams], by simp⟩
  | n + 1, l, hn, hs => by
    have hne : l ≠ [] := by intro e; subst e; simp at hn
    obtain ⟨m, x, rfl⟩ : ∃ m x, l = m ++ [x] := ⟨l.dropLast, l.getLast hne, (List.dropLast_concat_getLast hne).symm⟩
    have hs2 := List.pairwise_append.1 hs
    have ih := fams_all n m (by simpa using hn) hs2.1
    have hlt : ∀ y ∈ m, kBef y.k x.k = true := fun y hy => hs2.2.2 y hy x (by simp)
    rw [fams_snoc]
    -- who is kin to the new one is kin to the last one
    have hkin : ∀ y ∈ m, kap y.k = kap x.k → ∃ z, m.getLast? = some z ∧ kap z.k = kap x.k := by
      intro y hy hk
      have hm : m ≠ [] := by intro e; subst e; simp at hy
      obtain ⟨m2, z, rfl⟩ : ∃ m2 z, m = m2 ++ [z] := ⟨m.dropLast, m.getLast hm, (List.dropLast_concat_getLast hm).symm⟩
      refine ⟨z, by simp, ?_⟩
      rw [List.mem_append, List.mem_singleton] at hy
      rcases hy with hy | rfl
      · have h1 := (List.pairwise_append.1 hs2.1).2.2 y hy z (by simp)
        have h2 := hlt z (by simp)
        rw [← kin_between h1 h2 hk]; exact hk
      · exact hk
    unfold fstep
    cases hl : (fams m).getLast? with
    | none =>
      have hf : fams m = [] := by simpa using hl
      have hm : m = [] := by
        cases m with
        | nil => rfl
        | cons y t => obtain ⟨f, hf1, _⟩ := ih.fms.all y (by simp); rw [hf] at hf1; cases hf1
      subst hm
      simp only [List.nil_append]
      exact ⟨⟨by simp, by simp, by simp⟩, by simp, by simp, by simp, by simp, by intro z hz; simp at hz; subst hz; exact ⟨_, rfl, rfl⟩⟩
    | some f =>
      simp only
      have hfne : fams m ≠ [] := by intro e; rw [e] at hl; cases hl
      obtain ⟨fs, f2, hff⟩ : ∃ fs f2, fams m = fs ++ [f2] := ⟨(fams m).dropLast, (fams m).getLast hfne, (List.dropLast_concat_getLast hfne).symm⟩
      rw [hff] at hl ih
      obtain rfl : f2 = f := by simpa using hl
      have hnd := ih.fms.nd
      rw [List.map_append, List.map_cons, List.map_nil, List.nodup_append] at hnd
      split
      · rename_i hk
        rw [kKin_iff] at hk
        rw [hff, List.dropLast_concat]
        have hother : ∀ g ∈ fs, kap g.k ≠ kap x.k := fun g hg e => hnd.2.2 (kap g.k) (List.mem_map.2 ⟨g, hg, rfl⟩) (kap f2.k) (by simp) (by rw [e, hk])
        refine ⟨⟨?_, ?_, ?_⟩, ?_, ?_, ?_, ?_, ?_⟩
        · rw [List.map_append, List.map_cons, List.map_nil, List.nodup_append]; exact hnd
        · intro g hg
          rw [List.mem_append, List.mem_singleton] at hg
          rcases hg with hg | rfl
          · obtain ⟨y, hy, h1⟩ := ih.fms.from_ g (List.mem_append_left _ hg)
            exact ⟨y, List.mem_append_left _ hy, h1⟩
          · obtain ⟨y, hy, h1, h2⟩ := ih.fms.from_ f2 (by simp)
            by_cases hm : f2.bw ≤ x.w.bw
            · exact ⟨x, by simp, hk.symm, by simp only; omega⟩
            · exact ⟨y, List.mem_append_left _ hy, h1, by simp only; omega⟩
        · intro y hy
          rw [List.mem_append, List.mem_singleton] at hy
          rcases hy with hy | rfl
          · obtain ⟨g, hg, h1, h2⟩ := ih.fms.all y hy
            rw [List.mem_append, List.mem_singleton] at hg
            rcases hg with hg | rfl
            · exact ⟨g, List.mem_append_left _ hg, h1, h2⟩
            · exact ⟨⟨g.k, max g.bw x.w.bw, min g.ho x.w.ho⟩, by simp, h1, by simp only; omega⟩
          · exact ⟨⟨f2.k, max f2.bw y.w.bw, min f2.ho y.w.ho⟩, by simp, hk, by simp only; omega⟩
        · intro g hg
          rw [List.mem_append, List.mem_singleton] at hg
          rcases hg with hg | rfl
          · obtain ⟨y, hy, h1⟩ := ih.hold_ g (List.mem_append_left _ hg)
            exact ⟨y, List.mem_append_left _ hy, h1⟩
          · obtain ⟨y, hy, h1, h2⟩ := ih.hold_ f2 (by simp)
            by_cases hm : x.w.ho ≤ f2.ho
            · exact ⟨x, by simp, hk.symm, by simp only; omega⟩
            · exact ⟨y, List.mem_append_left _ hy, h1, by simp only; omega⟩
        · intro g hg y hy hky
          rw [List.mem_append, List.mem_singleton] at hg hy
          rcases hg with hg | rfl
          · rcases hy with hy | rfl
            · exact ih.least g (List.mem_append_left _ hg) y hy hky
            · exact absurd hky.symm (hother g hg)
          · rcases hy with hy | rfl
            · have := ih.least f2 (by simp) y hy hky
              simp only; omega
            · simp only; omega
        · intro g hg
          rw [List.mem_append, List.mem_singleton] at hg
          rcases hg with hg | rfl
          · obtain ⟨y, hy, h1⟩ := ih.key g (List.mem_append_left _ hg)
            exact ⟨y, List.mem_append_left _ hy, h1⟩
          · obtain ⟨y, hy, h1⟩ := ih.key f2 (by simp)
            exact ⟨y, List.mem_append_left _ hy, h1⟩
        · intro g hg y hy hky
          rw [List.mem_append, List.mem_singleton] at hg hy
          rcases hg with hg | rfl
          · rcases hy with hy | rfl
            · exact ih.first g (List.mem_append_left _ hg) y hy hky
            · exact absurd hky.symm (hother g hg)
          · rcases hy with hy | rfl
            · exact ih.first f2 (by simp) y hy hky
            · obtain ⟨y2, hy2, h1⟩ := ih.key f2 (by simp)
              exact .inr (by rw [← h1]; exact hlt y2 hy2)
        · intro z hz
          simp at hz; subst hz
          exact ⟨⟨f2.k, max f2.bw x.w.bw, min f2.ho x.w.ho⟩, by simp, hk⟩
      · rename_i hk
        have hk2 : kap f2.k ≠ kap x.k := fun e => hk (kKin_iff.2 e)
        rw [hff]
        have hnone : ∀ y ∈ m, kap y.k ≠ kap x.k := by
          intro y hy e
          obtain ⟨z, hz1, hz2⟩ := hkin y hy e
          obtain ⟨g, hg1, hg2⟩ := ih.last z hz1
          obtain rfl : g = f2 := by simpa using hg1.symm
          exact hk2 (by rw [hg2, hz2])
        have hnof : ∀ g ∈ fs ++ [f2], kap g.k ≠ kap x.k := by
          intro g hg e
          obtain ⟨y, hy, h1⟩ := ih.key g hg
          exact hnone y hy (by rw [h1, e])
        refine ⟨⟨?_, ?_, ?_⟩, ?_, ?_, ?_, ?_, ?_⟩
        · rw [List.map_append, List.map_cons, List.map_nil]
          refine nodup_snoc ih.fms.nd ?_
          intro hm
          obtain ⟨g, hg, he⟩ := List.mem_map.1 hm
          exact hnof g hg he
        · intro g hg
          rw [List.mem_append, List.mem_singleton] at hg
          rcases hg with hg | rfl
          · obtain ⟨y, hy, h1⟩ := ih.fms.from_ g hg
            exact ⟨y, List.mem_append_left _ hy, h1⟩
          · exact ⟨x, by simp, rfl, rfl⟩
        · intro y hy
          rw [List.mem_append, List.mem_singleton] at hy
          rcases hy with hy | rfl
          · obtain ⟨g, hg, h1⟩ := ih.fms.all y hy
            exact ⟨g, List.mem_append_left _ hg, h1⟩
          · exact ⟨⟨y.k, y.w.bw, y.w.ho⟩, by simp, rfl, Nat.le_refl _⟩
        · intro g hg
          rw [List.mem_append, List.mem_singleton] at hg
          rcases hg with hg | rfl
          · obtain ⟨y, hy, h1⟩ := ih.hold_ g hg
            exact ⟨y, List.mem_append_left _ hy, h1⟩
          · exact ⟨x, by simp, rfl, rfl⟩
        · intro g hg y hy hky
          rw [List.mem_append, List.mem_singleton] at hg hy
          rcases hg with hg | rfl
          · rcases hy with hy | rfl
            · exact ih.least g hg y hy hky
            · exact absurd hky.symm (hnof g hg)
          · rcases hy with hy | rfl
            · exact absurd hky (hnone y hy)
            · exact Int.le_refl _
        · intro g hg
          rw [List.mem_append, List.mem_singleton] at hg
          rcases hg with hg | rfl
          · obtain ⟨y, hy, h1⟩ := ih.key g hg
            exact ⟨y, List.mem_append_left _ hy, h1⟩
          · exact ⟨x, by simp, rfl⟩
        · intro g hg y hy hky
          rw [List.mem_append, List.mem_singleton] at hg hy
          rcases hg with hg | rfl
          · rcases hy with hy | rfl
            · exact ih.first g hg y hy hky
            · exact absurd hky.symm (hnof g hg)
          · rcases hy with hy | rfl
            · exact absurd hky (hnone y hy)
            · exact .inl rfl
        · intro z hz
          simp at hz; subst hz
          exact ⟨⟨x.k, x.w.bw, x.w.ho⟩, by simp, rfl⟩
theorem fams_ok {l : List Et} (h : Srt14 l) : FmsAll l (fams l) := fams_all _ l rfl h
end Go.Proofs.Ytogijfebfffobaa

namespace Go.Proofs.Ytogijfebfffobaa
set_option maxRecDepth 100000
set_option linter.unusedVariables false

def fit14 (size : Nat) (l : List Et) : Bool := decide (fsum (fams l) ≤ size)
/-- Entries, and one, in its place. -/
def wIns (l : List Et) (x : Et) : List Et := l.takeWhile (fun y => kBef y.k x.k) ++ x :: l.dropWhile (fun y => kBef y.k x.k)
def worse14 (a b : Fam) : Bool := if a.ho ≠ b.ho then decide (b.ho < a.ho) else if a.bw ≠ b.bw then decide (b.bw < a.bw) else kBef b.k a.k
/-- May a family be driven out? -/
def gives14 (k : Ky) (su : Int) (f : Fam) : Bool := !kKin f.k k && decide (su < f.ho)
def beats14 (b : Option Fam) (f : Fam) : Bool := match b with | none => true | some g => worse14 f g
def vstep (k : Ky) (su : Int) (b : Option Fam) (f : Fam) : Option Fam := if gives14 k su f = true ∧ beats14 b f = true then some f else b
def vict (l : List Et) (k : Ky) (su : Int) : Option Fam := (fams l).foldl (vstep k su) none
def keeps (f : Fam) (l : List Et) : List Et := l.filter fun x => !kKin x.k f.k
def aLoop : Nat → Nat → List Et → Et → Option (List Et)
  | 0, size, now, x => if fit14 size (wIns now x) = true then some now else none
  | n + 1, size, now, x => if fit14 size (wIns now x) = true then some now else
    match vict now x.k x.w.su with
    | none => none
    | some f => aLoop n size (keeps f now) x
def gone14 (l now : List Et) : List Ky := (l.filter fun x => !has14 now x.k).map (·.k)
def aAdmit (size : Nat) (l : List Et) (k : Ky) (w : Wn) : List Et × List Ky × Int :=
  if wRight w = false then (l, [], 2) else if has14 l k = true then (l, [], 9) else if 64 ≤ l.length then (l, [], 7) else
    match aLoop l.length size l ⟨k, w⟩ with
    | none => (l, [], 14)
    | some now => (wIns now ⟨k, w⟩, gone14 l now, 0)
def aDrop (l : List Et) (k : Ky) : List Et × Int := if has14 l k = true then (l.filter fun x => decide (x.k ≠ k), 0) else (l, 8)

theorem mem_wIns {l : List Et} {x y : Et} : y ∈ wIns l x ↔ y ∈ l ∨ y = x := by
  unfold wIns
  rw [List.mem_append, List.mem_cons]
  have h : y ∈ l ↔ y ∈ l.takeWhile (fun z => kBef z.k x.k) ∨ y ∈ l.dropWhile (fun z => kBef z.k x.k) := by
    conv => lhs; rw [← List.takeWhile_append_dropWhile (p := fun z => kBef z.k x.k) (l := l)]
    rw [List.mem_append]
  rw [h]
  constructor
  · rintro (h | h | h)
    · exact .inl (.inl h)
    · exact .inr h
    · exact .inl (.inr h)
  · rintro ((h | h) | h)
    · exact .inl h
    · exact .inr (.inr h)
    · exact .inr (.inl h)
theorem wIns_length (l : List Et) (x : Et) : (wIns l x).length = l.length + 1 := by
  unfold wIns
  have h := congrArg List.length (List.takeWhile_append_dropWhile (p := fun y => kBef y.k x.k) (l := l))
  rw [List.length_append] at h
  rw [List.length_append, List.length_cons]
  omega
theorem takeWhile_all {α : Type} {p : α → Bool} : ∀ {l : List α} {y : α}, y ∈ l.takeWhile p → p y = true
  | [], _, h => by simp at h
  | a :: l, y, h => by
    rw [List.takeWhile_cons] at h
    split at h
    · rename_i ha
      rcases List.mem_cons.1 h with rfl | h
      · exact ha
      · exact takeWhile_all h
    · simp at h
theorem dropWhile_head {α : Type} {p : α → Bool} : ∀ {l : List α} {y : α} {t : List α}, l.dropWhile p = y :: t → p y = false
  | [], _, _, h => by simp at h
  | a :: l, y, t, h => by
    rw [List.dropWhile_cons] at h
    split at h
    · exact dropWhile_head h
    · rename_i ha
      cases h
      simpa using ha
theorem srt_wIns {l : List Et} (h : Srt14 l) {x : Et} (hx : has14 l x.k = false) : Srt14 (wIns l x) := by
  rw [has14_false] at hx
  have hp := List.takeWhile_append_dropWhile (p := fun y => kBef y.k x.k) (l := l)
  unfold Srt14 wIns at *
  rw [← hp, List.pairwise_append] at h
  rw [List.pairwise_append, List.pairwise_cons]
  have hd : ∀ y ∈ l.dropWhile (fun y => kBef y.k x.k), kBef x.k y.k = true := by
    cases e : l.dropWhile (fun y => kBef y.k x.k) with
    | nil => simp
    | cons z t =>
      have hz : kBef z.k x.k = false := dropWhile_head (p := fun y : Et => kBef y.k x.k) e
      rw [e] at h
      have hzl : z ∈ l := by rw [← hp, e]; simp
      have hz2 : kBef x.k z.k = true := by
        rcases kBef_total (hx z hzl) with h1 | h1
        · rw [h1] at hz; cases hz
        · exact h1
      intro y hy
      rcases List.mem_cons.1 hy with rfl | hy
      · exact hz2
      · exact kBef_trans hz2 ((List.pairwise_cons.1 h.2.1).1 y hy)
  refine ⟨h.1, ⟨hd, h.2.1⟩, fun a ha b hb => ?_⟩
  rcases List.mem_cons.1 hb with rfl | hb
  · exact takeWhile_all (p := fun y : Et => kBef y.k b.k) ha
  · exact h.2.2 a ha b hb
theorem srt_filter {l : List Et} (h : Srt14 l) (p : Et → Bool) : Srt14 (l.filter p) := List.Pairwise.filter p h
theorem srt_ne {l : List Et} (h : Srt14 l) : ∀ {x y : Et}, x ∈ l → y ∈ l → x.k = y.k → x = y := by
  induction l with
  | nil => intro x y hx; simp at hx
  | cons a t ih =>
    intro x y hx hy e
    have h' := List.pairwise_cons.1 h
    rcases List.mem_cons.1 hx with hx2 | hx2
    · rcases List.mem_cons.1 hy with hy2 | hy2
      · rw [hx2, hy2]
      · exact absurd (by rw [← hx2]; exact e) (kBef_ne (h'.1 y hy2))
    · rcases List.mem_cons.1 hy with hy2 | hy2
      · exact absurd (by rw [← hy2]; exact e.symm) (kBef_ne (h'.1 x hx2))
      · exact ih h'.2 hx2 hy2 e

/-- What a table always is. -/
structure Tbl14 (size : Nat) (l : List Et) : Prop where
  srt : Srt14 l
  rgt : ∀ x ∈ l, wRight x.w = true
  len : l.length ≤ 64
  fit : fsum (fams l) ≤ size
theorem tbl_new (size : Nat) : Tbl14 size [] := ⟨List.Pairwise.nil, by simp, by simp, Nat.zero_le _⟩

/-- Who gives way last. -/
theorem vict_aux (k : Ky) (su : Int) : ∀ (fs : List Fam) (b : Option Fam), (∀ g, b = some g → gives14 k su g = true) →
    (∀ f, fs.foldl (vstep k su) b = some f → gives14 k su f = true ∧ (f ∈ fs ∨ b = some f)) ∧ (fs.foldl (vstep k su) b = none → b = none ∧ ∀ f ∈ fs, gives14 k su f = false)
  | [], b, hb => ⟨fun f h => ⟨hb f h, .inr h⟩, fun h => ⟨h, by simp⟩⟩
  | g :: fs, b, hb => by
    rw [List.foldl_cons]
    have hb2 : ∀ f, vstep k su b g = some f → gives14 k su f = true := by
      intro f hf
      unfold vstep at hf
      split at hf
      · rename_i h; cases hf; exact h.1
      · exact hb f hf
    have ih := vict_aux k su fs (vstep k su b g) hb2
    refine ⟨fun f hf => ?_, fun hf => ?_⟩
    · obtain ⟨h1, h2⟩ := ih.1 f hf
      refine ⟨h1, ?_⟩
      rcases h2 with h2 | h2
      · exact .inl (List.mem_cons_of_mem _ h2)
      · unfold vstep at h2
        split at h2
        · cases h2; exact .inl List.mem_cons_self
        · exact .inr h2
    · obtain ⟨h1, h2⟩ := ih.2 hf
      unfold vstep at h1
      split at h1
      · cases h1
      · rename_i hn
        subst h1
        refine ⟨rfl, fun f hf2 => ?_⟩
        rcases List.mem_cons.1 hf2 with rfl | hf2
        · cases hg : gives14 k su f with
          | false => rfl
          | true => exact absurd ⟨hg, rfl⟩ hn
        · exact h2 f hf2
theorem vict_some {l : List Et} {k : Ky} {su : Int} {f : Fam} (h : vict l k su = some f) : gives14 k su f = true ∧ f ∈ fams l := by
  obtain ⟨h1, h2⟩ := (vict_aux k su (fams l) none (by simp)).1 f h
  rcases h2 with h2 | h2
  · exact ⟨h1, h2⟩
  · cases h2
theorem vict_none {l : List Et} {k : Ky} {su : Int} (h : vict l k su = none) : ∀ f ∈ fams l, gives14 k su f = false := ((vict_aux k su (fams l) none (by simp)).2 h).2
theorem gives_iff {k : Ky} {su : Int} {f : Fam} : gives14 k su f = true ↔ kap f.k ≠ kap k ∧ su < f.ho := by
  unfold gives14
  rw [Bool.and_eq_true, Bool.not_eq_true', kKin_false, decide_eq_true_eq]
theorem mem_keeps {f : Fam} {l : List Et} {x : Et} : x ∈ keeps f l ↔ x ∈ l ∧ kap x.k ≠ kap f.k := by
  unfold keeps
  rw [List.mem_filter, Bool.not_eq_true', kKin_false]
theorem keeps_less {f : Fam} {l : List Et} (hs : Srt14 l) (hf : f ∈ fams l) : (keeps f l).length < l.length := by
  obtain ⟨x, hx, hk⟩ := (fams_ok hs).key f hf
  have h1 := List.length_filter_le (fun x => !kKin x.k f.k) l
  rcases Nat.lt_or_eq_of_le h1 with h2 | h2
  · exact h2
  · exfalso
    have h3 := List.filter_eq_self.1 (List.Sublist.eq_of_length List.filter_sublist h2) x hx
    rw [Bool.not_eq_true', kKin_false] at h3
    exact h3 (by rw [hk])

/-- What the driving out leaves: families of the old ones, whole; all that went may be driven out; and if none went there was room. -/
structure Left14 (l now : List Et) (x : Et) : Prop where
  sub : now.Sublist l
  went : ∀ y ∈ l, y ∉ now → kap y.k ≠ kap x.k ∧ x.w.su < y.w.ho
  whole : ∀ y ∈ l, ∀ z ∈ now, kap y.k = kap z.k → y ∈ now
theorem Left14.refl (l : List Et) (x : Et) : Left14 l l x := ⟨List.Sublist.refl _, fun y hy h => absurd hy h, fun y hy _ _ _ => hy⟩
theorem Left14.step {l now : List Et} {x : Et} (hs : Srt14 l) (h : Left14 l now x) {f : Fam} (hf : vict now x.k x.w.su = some f) : Left14 l (keeps f now) x := by
  have hsn : Srt14 now := List.Pairwise.sublist h.sub hs
  obtain ⟨hg, hm⟩ := vict_some hf
  rw [gives_iff] at hg
  refine ⟨List.Sublist.trans List.filter_sublist h.sub, fun y hy hn => ?_, fun y hy z hz hk => ?_⟩
  · by_cases hyn : y ∈ now
    · rw [mem_keeps] at hn
      have hk : kap y.k = kap f.k := Classical.byContradiction fun e => hn ⟨hyn, e⟩
      have := (fams_ok hsn).least f hm y hyn hk
      exact ⟨by rw [hk]; exact hg.1, by omega⟩
    · exact h.went y hy hyn
  · rw [mem_keeps] at hz ⊢
    exact ⟨h.whole y hy z hz.1 hk, by rw [hk]; exact hz.2⟩
theorem fsum_wIns {l : List Et} (hs : Srt14 l) {x : Et} (hx : has14 l x.k = false) {m : List Et} {gs : List Fam} (hg : Fms m gs) (h : ∀ y, y ∈ l ∨ y = x → ∃ z ∈ m, kap z.k = kap y.k ∧ y.w.bw ≤ z.w.bw) : fsum (fams (wIns l x)) ≤ fsum gs :=
  fsum_mono (fams_ok (srt_wIns hs hx)).fms hg fun y hy => h y (mem_wIns.1 hy)
theorem has_sub {l m : List Et} (h : m.Sublist l) {k : Ky} (hk : has14 l k = false) : has14 m k = false := by
  rw [has14_false] at hk ⊢
  exact fun x hx => hk x (h.subset hx)

theorem aLoop_ok : ∀ (n size : Nat) (l now : List Et) (x : Et), now.length ≤ n → Srt14 l → has14 l x.k = false → Left14 l now x →
    (∀ m, aLoop n size now x = some m → Left14 l m x ∧ fit14 size (wIns m x) = true ∧ m.Sublist now ∧ (m = now ∨ fit14 size (wIns now x) = false)) ∧
    (aLoop n size now x = none → ∃ m, Left14 l m x ∧ fit14 size (wIns m x) = false ∧ ∀ y ∈ m, kap y.k = kap x.k ∨ ∃ z ∈ m, kap z.k = kap y.k ∧ z.w.ho ≤ x.w.su)
  | 0, size, l, now, x, hn, hs, hx, hL => by
    have h0 : now = [] := List.eq_nil_of_length_eq_zero (Nat.le_zero.1 hn)
    subst h0
    unfold aLoop
    refine ⟨fun m hm => ?_, fun hm => ?_⟩
    · split at hm
      · rename_i hf
        cases hm
        exact ⟨hL, hf, List.Sublist.refl _, .inl rfl⟩
      · cases hm
    · split at hm
      · cases hm
      · rename_i hf
        exact ⟨[], hL, by simpa using hf, by simp⟩
  | n + 1, size, l, now, x, hn, hs, hx, hL => by
    have hsn : Srt14 now := List.Pairwise.sublist hL.sub hs
    unfold aLoop
    by_cases hf : fit14 size (wIns now x) = true
    · rw [if_pos hf]
      exact ⟨fun m hm => by cases hm; exact ⟨hL, hf, List.Sublist.refl _, .inl rfl⟩, fun hm => by cases hm⟩
    · rw [if_neg hf]
      cases hv : vict now x.k x.w.su with
      | none =>
        refine ⟨fun m hm => (by simp at hm), fun _ => ⟨now, hL, by simpa using hf, fun y hy => ?_⟩⟩
        obtain ⟨f, hfm, h1, _⟩ := (fams_ok hsn).fms.all y hy
        have hg := vict_none hv f hfm
        by_cases hk : kap y.k = kap x.k
        · exact .inl hk
        · have h2 : ¬ (kap f.k ≠ kap x.k ∧ x.w.su < f.ho) := fun h => by rw [gives_iff.2 h] at hg; cases hg
          obtain ⟨z, hz, h3, h4⟩ := (fams_ok hsn).hold_ f hfm
          refine .inr ⟨z, hz, by rw [h3, h1], ?_⟩
          have h5 : kap f.k ≠ kap x.k := by rw [h1]; exact hk
          have h6 : ¬ x.w.su < f.ho := fun h => h2 ⟨h5, h⟩
          omega
      | some f =>
        simp only
        have hlt := keeps_less hsn (vict_some hv).2
        have ih := aLoop_ok n size l (keeps f now) x (by omega) hs hx (hL.step hs hv)
        refine ⟨fun m hm => ?_, ih.2⟩
        obtain ⟨h1, h2, h3, _⟩ := ih.1 m hm
        exact ⟨h1, h2, List.Sublist.trans h3 List.filter_sublist, .inr (by simpa using hf)⟩

/-- A call's answer, case by case. -/
inductive Adm14 (size : Nat) (l : List Et) (k : Ky) (w : Wn) : List Et × List Ky × Int → Prop where
  | bad (h : wRight w = false) : Adm14 size l k w (l, [], 2)
  | have_ (h : wRight w = true) (h2 : has14 l k = true) : Adm14 size l k w (l, [], 9)
  | full (h : wRight w = true) (h2 : has14 l k = false) (h3 : 64 ≤ l.length) : Adm14 size l k w (l, [], 7)
  | room (h : wRight w = true) (h2 : has14 l k = false) (h3 : l.length < 64) (m : List Et) (h4 : Left14 l m ⟨k, w⟩) (h5 : fit14 size (wIns m ⟨k, w⟩) = false) (h6 : ∀ y ∈ m, kap y.k = kap k ∨ ∃ z ∈ m, kap z.k = kap y.k ∧ z.w.ho ≤ w.su) : Adm14 size l k w (l, [], 14)
  | ok (h : wRight w = true) (h2 : has14 l k = false) (h3 : l.length < 64) (m : List Et) (h4 : Left14 l m ⟨k, w⟩) (h5 : fit14 size (wIns m ⟨k, w⟩) = true) (h6 : m = l ∨ fit14 size (wIns l ⟨k, w⟩) = false) : Adm14 size l k w (wIns m ⟨k, w⟩, gone14 l m, 0)
theorem aAdmit_is {size : Nat} {l : List Et} (hs : Srt14 l) (k : Ky) (w : Wn) : Adm14 size l k w (aAdmit size l k w) := by
  unfold aAdmit
  cases hw : wRight w with
  | false => rw [if_pos rfl]; exact .bad hw
  | true =>
    rw [if_neg (by simp)]
    cases hh : has14 l k with
    | true => rw [if_pos rfl]; exact .have_ hw hh
    | false =>
      rw [if_neg (by simp)]
      by_cases hl : 64 ≤ l.length
      · rw [if_pos hl]; exact .full hw hh hl
      · rw [if_neg hl]
        have ha := aLoop_ok l.length size l l ⟨k, w⟩ (Nat.le_refl _) hs hh (Left14.refl l _)
        cases e : aLoop l.length size l ⟨k, w⟩ with
        | none =>
          obtain ⟨m, h1, h2, h3⟩ := ha.2 e
          exact .room hw hh (by omega) m h1 h2 h3
        | some m =>
          obtain ⟨h1, h2, _, h4⟩ := ha.1 m e
          exact .ok hw hh (by omega) m h1 h2 h4

theorem tbl_admit {size : Nat} {l : List Et} (h : Tbl14 size l) (k : Ky) (w : Wn) : Tbl14 size (aAdmit size l k w).1 := by
  have ha := aAdmit_is (size := size) h.srt k w
  generalize aAdmit size l k w = r at ha
  cases ha with
  | bad _ => exact h
  | have_ _ _ => exact h
  | full _ _ _ => exact h
  | room _ _ _ _ _ _ _ => exact h
  | ok h1 h2 h3 m h4 h5 h6 =>
    refine ⟨srt_wIns (List.Pairwise.sublist h4.sub h.srt) (has_sub h4.sub h2), fun x hx => ?_, ?_, of_decide_eq_true h5⟩
    · rcases mem_wIns.1 hx with hx | rfl
      · exact h.rgt x (h4.sub.subset hx)
      · exact h1
    · rw [wIns_length]
      have := h4.sub.length_le
      omega
theorem fsum_sub {l m : List Et} (hl : Srt14 l) (hs : m.Sublist l) : fsum (fams m) ≤ fsum (fams l) :=
  fsum_mono (fams_ok (List.Pairwise.sublist hs hl)).fms (fams_ok hl).fms fun x hx => ⟨x, hs.subset hx, rfl, Nat.le_refl _⟩
theorem tbl_drop {size : Nat} {l : List Et} (h : Tbl14 size l) (k : Ky) : Tbl14 size (aDrop l k).1 := by
  unfold aDrop
  split
  · have hs : (l.filter fun x => decide (x.k ≠ k)).Sublist l := List.filter_sublist
    exact ⟨srt_filter h.srt _, fun x hx => h.rgt x (hs.subset hx), Nat.le_trans hs.length_le h.len, Nat.le_trans (fsum_sub h.srt hs) h.fit⟩
  · exact h
end Go.Proofs.Ytogijfebfffobaa

namespace Go.Proofs.Ytogijfebfffobaa
set_option maxRecDepth 100000
set_option linter.unusedVariables false

/-- The most that one of the kin of x wants. -/
def hmost (l : List Et) (x : Et) : Nat := l.foldl (fun m y => if kKin x.k y.k = true then max m y.w.bw else m) x.w.bw
/-- Is no kin of x among the first i? -/
def hfirst (l : List Et) (i : Nat) (x : Et) : Bool := !(l.take i).any fun y => kKin x.k y.k
/-- The families of which one is among the first i. -/
def hpre (l : List Et) : Nat → List Fam
  | 0 => []
  | i + 1 => match l[i]? with
    | some x => if hfirst l i x = true then hpre l i ++ [⟨x.k, hmost l x, 0⟩] else hpre l i
    | none => hpre l i
def heldF (l : List Et) : List Fam := hpre l l.length
theorem hmost_aux (k : Ky) : ∀ (l : List Et) (m : Nat), m ≤ l.foldl (fun m y => if kKin k y.k = true then max m y.w.bw else m) m ∧ (∀ y ∈ l, kap k = kap y.k → y.w.bw ≤ l.foldl (fun m y => if kKin k y.k = true then max m y.w.bw else m) m) ∧
    (l.foldl (fun m y => if kKin k y.k = true then max m y.w.bw else m) m = m ∨ ∃ y ∈ l, kap k = kap y.k ∧ y.w.bw = l.foldl (fun m y => if kKin k y.k = true then max m y.w.bw else m) m)
  | [], m => ⟨Nat.le_refl _, by simp, .inl rfl⟩
  | a :: t, m => by
    rw [List.foldl_cons]
    have ih := hmost_aux k t (if kKin k a.k = true then max m a.w.bw else m)
    by_cases hk : kKin k a.k = true
    · rw [if_pos hk] at ih ⊢
      refine ⟨by omega, fun y hy h => ?_, ?_⟩
      · rcases List.mem_cons.1 hy with e | hy2
        · rw [e]; omega
        · exact ih.2.1 y hy2 h
      · rcases ih.2.2 with e | ⟨y, hy, h1, h2⟩
        · by_cases hm : a.w.bw ≤ m
          · exact .inl (by rw [e]; omega)
          · exact .inr ⟨a, by simp, kKin_iff.1 hk, by rw [e]; omega⟩
        · exact .inr ⟨y, List.mem_cons_of_mem _ hy, h1, h2⟩
    · rw [if_neg hk] at ih ⊢
      refine ⟨ih.1, fun y hy h => ?_, ?_⟩
      · rcases List.mem_cons.1 hy with e | hy2
        · rw [e] at h; exact absurd (kKin_iff.2 h) hk
        · exact ih.2.1 y hy2 h
      · rcases ih.2.2 with e | ⟨y, hy, h1, h2⟩
        · exact .inl e
        · exact .inr ⟨y, List.mem_cons_of_mem _ hy, h1, h2⟩
theorem hpre_ok (l : List Et) : ∀ i, i ≤ l.length → ((hpre l i).map (fun f => kap f.k)).Nodup ∧ (∀ f ∈ hpre l i, ∃ x ∈ l.take i, x.k = f.k ∧ f.bw = hmost l x) ∧ (∀ x ∈ l.take i, ∃ f ∈ hpre l i, kap f.k = kap x.k)
  | 0, _ => ⟨by simp [hpre], by simp [hpre], by simp⟩
  | i + 1, hi => by
    obtain ⟨h1, h2, h3⟩ := hpre_ok l i (by omega)
    have hx : l[i]? = some (l[i]'(by omega)) := List.getElem?_eq_getElem _
    have ht : l.take (i + 1) = l.take i ++ [l[i]'(by omega)] := by rw [List.take_add_one, hx]; rfl
    generalize l[i]'(by omega) = x at hx ht
    rw [ht]
    unfold hpre
    rw [hx]
    simp only
    by_cases hf : hfirst l i x = true
    · rw [if_pos hf]
      unfold hfirst at hf
      rw [Bool.not_eq_true', List.any_eq_false] at hf
      refine ⟨?_, fun f hfm => ?_, fun y hy => ?_⟩
      · rw [List.map_append, List.map_cons, List.map_nil]
        refine nodup_snoc h1 fun hm => ?_
        obtain ⟨g, hg, he⟩ := List.mem_map.1 hm
        obtain ⟨y, hy, hy2, _⟩ := h2 g hg
        exact hf y hy (kKin_iff.2 (by rw [hy2, he]))
      · rw [List.mem_append, List.mem_singleton] at hfm
        rcases hfm with hfm | rfl
        · obtain ⟨y, hy, hy2⟩ := h2 f hfm
          exact ⟨y, List.mem_append_left _ hy, hy2⟩
        · exact ⟨x, by simp, rfl, rfl⟩
      · rw [List.mem_append, List.mem_singleton] at hy
        rcases hy with hy | rfl
        · obtain ⟨f, hfm, h4⟩ := h3 y hy
          exact ⟨f, List.mem_append_left _ hfm, h4⟩
        · exact ⟨⟨y.k, hmost l y, 0⟩, by simp, rfl⟩
    · rw [if_neg hf]
      unfold hfirst at hf
      rw [Bool.not_eq_true', Bool.not_eq_false, List.any_eq_true] at hf
      obtain ⟨z, hz, hz2⟩ := hf
      refine ⟨h1, fun f hfm => ?_, fun y hy => ?_⟩
      · obtain ⟨y, hy, hy2⟩ := h2 f hfm
        exact ⟨y, List.mem_append_left _ hy, hy2⟩
      · rw [List.mem_append, List.mem_singleton] at hy
        rcases hy with hy | rfl
        · exact h3 y hy
        · obtain ⟨f, hfm, h4⟩ := h3 z hz
          exact ⟨f, hfm, by rw [h4, kKin_iff.1 hz2]⟩
theorem heldF_ok (l : List Et) : Fms l (heldF l) := by
  obtain ⟨h1, h2, h3⟩ := hpre_ok l l.length (Nat.le_refl _)
  rw [List.take_length] at h2 h3
  refine ⟨h1, fun f hf => ?_, fun x hx => ?_⟩
  · obtain ⟨x, hx, hk, hb⟩ := h2 f hf
    rcases (hmost_aux x.k l x.w.bw).2.2 with e | ⟨y, hy, h4, h5⟩
    · exact ⟨x, hx, by rw [hk], by rw [hb]; exact e.symm⟩
    · exact ⟨y, hy, by rw [← h4, hk], by rw [hb]; exact h5⟩
  · obtain ⟨f, hf, hk⟩ := h3 x hx
    refine ⟨f, hf, hk, ?_⟩
    obtain ⟨y, hy, hyk, hb⟩ := h2 f hf
    rw [hb]
    exact (hmost_aux y.k l y.w.bw).2.1 x hx (by rw [hyk, hk])
theorem fsum_snoc (fs : List Fam) (f : Fam) : fsum (fs ++ [f]) = fsum fs + f.bw := by simp [fsum]
theorem hpre_succ (l : List Et) (i : Nat) {x : Et} (hx : l[i]? = some x) : hpre l (i + 1) = if hfirst l i x = true then hpre l i ++ [⟨x.k, hmost l x, 0⟩] else hpre l i := by
  rw [hpre, hx]
theorem hpre_mono (l : List Et) : ∀ {i j : Nat}, i ≤ j → j ≤ l.length → fsum (hpre l i) ≤ fsum (hpre l j) := by
  intro i j h
  induction h with
  | refl => exact fun _ => Nat.le_refl _
  | @step m hm ih =>
    intro hj
    refine Nat.le_trans (ih (by omega)) ?_
    rw [Nat.succ_eq_add_one, hpre_succ l m (List.getElem?_eq_getElem (by omega))]
    split
    · rw [fsum_snoc]; omega
    · exact Nat.le_refl _
/-- Both ways tell the same. -/
theorem held_fams {l : List Et} (h : Srt14 l) : fsum (heldF l) = fsum (fams l) := fsum_same (heldF_ok l) (fams_ok h).fms fun x => Iff.rfl

/-- The ledger that families tell. -/
def lstep (g : Lg) (f : Fam) : Lg := ⟨g.cap, g.held.set f.ho.toNat (g.held.getD f.ho.toNat 0 + f.bw)⟩
def ledgOf (size : Nat) (fs : List Fam) : Lg := fs.foldl lstep ⟨size, [0, 0, 0, 0, 0, 0, 0, 0]⟩
theorem lstep_sum {g : Lg} {f : Fam} (hl : g.held.length = 8) (h0 : 0 ≤ f.ho ∧ f.ho ≤ 7) : (lstep g f).held.sum = g.held.sum + f.bw ∧ (lstep g f).held.length = 8 ∧ (lstep g f).cap = g.cap := by
  have := sum_set (h := g.held) (p := f.ho.toNat) (by omega) (g.held.getD f.ho.toNat 0 + f.bw)
  exact ⟨by simp only [lstep]; omega, by simp [lstep, hl], rfl⟩
theorem ledg_aux : ∀ (fs : List Fam) (g : Lg), g.held.length = 8 → (∀ f ∈ fs, 0 ≤ f.ho ∧ f.ho ≤ 7) → (fs.foldl lstep g).held.sum = g.held.sum + fsum fs ∧ (fs.foldl lstep g).held.length = 8 ∧ (fs.foldl lstep g).cap = g.cap
  | [], g, hl, _ => ⟨by simp [fsum], hl, rfl⟩
  | f :: fs, g, hl, h => by
    obtain ⟨h1, h2, h3⟩ := lstep_sum hl (h f List.mem_cons_self)
    obtain ⟨h4, h5, h6⟩ := ledg_aux fs (lstep g f) h2 (fun x hx => h x (List.mem_cons_of_mem _ hx))
    rw [List.foldl_cons]
    refine ⟨?_, h5, by rw [h6, h3]⟩
    rw [h4, h1]
    simp only [fsum, List.map_cons, List.sum_cons]
    omega
theorem ledgOf_sum {size : Nat} {fs : List Fam} (h : ∀ f ∈ fs, 0 ≤ f.ho ∧ f.ho ≤ 7) : (ledgOf size fs).held.sum = fsum fs ∧ (ledgOf size fs).held.length = 8 ∧ (ledgOf size fs).cap = size := by
  have := ledg_aux fs ⟨size, [0, 0, 0, 0, 0, 0, 0, 0]⟩ rfl h
  exact ⟨by rw [ledgOf, this.1]; simp, this.2⟩
theorem getD_sum (h : List Nat) {n : Nat} (hn : n ∈ h) : n ≤ h.sum := by
  induction h with
  | nil => simp at hn
  | cons a t ih =>
    rw [List.sum_cons]
    rcases List.mem_cons.1 hn with e | hn2
    · omega
    · have := ih hn2; omega
theorem ledgOf_ok {size : Nat} {fs : List Fam} (h : ∀ f ∈ fs, 0 ≤ f.ho ∧ f.ho ≤ 7) (hs : size < 18446744073709551616) (hb : fsum fs < 18446744073709551616) : LgOk (ledgOf size fs) := by
  obtain ⟨h1, h2, h3⟩ := ledgOf_sum (size := size) h
  refine ⟨h2, by rw [h3]; exact hs, fun n hn => ?_⟩
  have := getD_sum _ hn
  omega
/-- All that is held may be held. -/
theorem fams_ho {l : List Et} (hs : Srt14 l) (h : ∀ x ∈ l, wRight x.w = true) : ∀ f ∈ fams l, 0 ≤ f.ho ∧ f.ho ≤ 7 := by
  intro f hf
  obtain ⟨x, hx, _, h1⟩ := (fams_ok hs).hold_ f hf
  have := of_decide_eq_true (h x hx)
  omega

/-- A path that is found. -/
theorem find_one {l : List Et} (hs : Srt14 l) {x : Et} (hx : x ∈ l) : l.find? (fun y => decide (y.k = x.k)) = some x := by
  cases e : l.find? (fun y => decide (y.k = x.k)) with
  | none =>
    rw [List.find?_eq_none] at e
    exact absurd (decide_eq_true rfl) (e x hx)
  | some y =>
    have h1 := List.find?_some e
    rw [decide_eq_true_eq] at h1
    rw [srt_ne hs (List.mem_of_find?_eq_some e) hx h1]
theorem filter_wIns {l : List Et} {x : Et} (hx : has14 l x.k = false) : (wIns l x).filter (fun y => decide (y.k ≠ x.k)) = l := by
  rw [has14_false] at hx
  have hp := List.takeWhile_append_dropWhile (p := fun y => kBef y.k x.k) (l := l)
  unfold wIns
  rw [List.filter_append, List.filter_cons_of_neg (by simp), ← List.filter_append, hp, List.filter_eq_self]
  intro y hy
  exact decide_eq_true (hx y hy)
theorem drop_wIns {l : List Et} {x : Et} (hx : has14 l x.k = false) : aDrop (wIns l x) x.k = (l, 0) := by
  unfold aDrop
  rw [if_pos (has14_iff.2 ⟨x, mem_wIns.2 (.inr rfl), rfl⟩), filter_wIns hx]
theorem gone_refl (l : List Et) : gone14 l l = [] := by
  unfold gone14
  rw [List.map_eq_nil_iff, List.filter_eq_nil_iff]
  intro x hx
  rw [Bool.not_eq_true', has14_iff.2 ⟨x, hx, rfl⟩]
  simp
theorem srt_nodup {l : List Et} (h : Srt14 l) : l.Nodup := List.Pairwise.imp (fun {a b} hab e => by rw [e, kBef_irrefl] at hab; cases hab) h
theorem gone_length {l m : List Et} (hs : Srt14 l) (h : m.Sublist l) : (gone14 l m).length + m.length = l.length := by
  have hsub : ∀ x, x ∈ l.filter (fun x => has14 m x.k) ↔ x ∈ m := by
    intro x
    rw [List.mem_filter, has14_iff]
    constructor
    · rintro ⟨hx, y, hy, hk⟩
      rwa [← srt_ne hs (h.subset hy) hx hk]
    · intro hx
      exact ⟨h.subset hx, x, hx, rfl⟩
  have e1 : (l.filter (fun x => has14 m x.k)).length = m.length :=
    Nat.le_antisymm (List.Nodup.length_le_of_subset (srt_nodup (srt_filter hs _)) fun x hx => (hsub x).1 hx)
      (List.Nodup.length_le_of_subset (srt_nodup (List.Pairwise.sublist h hs)) fun x hx => (hsub x).2 hx)
  have h2 := List.length_eq_countP_add_countP (fun x => has14 m x.k) (l := l)
  rw [List.countP_eq_length_filter, List.countP_eq_length_filter, e1] at h2
  unfold gone14
  rw [List.length_map]
  have e3 : (l.filter fun x => decide ¬has14 m x.k = true) = l.filter fun x => !has14 m x.k := by
    congr 1
    funext x
    cases has14 m x.k <;> rfl
  rw [e3] at h2
  omega
theorem gone_nil {l m : List Et} (hs : Srt14 l) (h : m.Sublist l) (hg : gone14 l m = []) : m = l := by
  have := gone_length hs h
  rw [hg] at this
  exact List.Sublist.eq_of_length h (by simpa using this)
theorem mem_gone {l m : List Et} {k : Ky} : k ∈ gone14 l m ↔ (∃ x ∈ l, x.k = k) ∧ has14 m k = false := by
  unfold gone14
  rw [List.mem_map]
  constructor
  · rintro ⟨x, hx, rfl⟩
    rw [List.mem_filter, Bool.not_eq_true'] at hx
    exact ⟨⟨x, hx.1, rfl⟩, hx.2⟩
  · rintro ⟨⟨x, hx, rfl⟩, h⟩
    exact ⟨x, by rw [List.mem_filter, Bool.not_eq_true']; exact ⟨hx, h⟩, rfl⟩

/-- Who was driven out: one of the entries, with no kin of the new one, which may be driven out; and it is there no more. -/
theorem gone_ok {l m : List Et} {k : Ky} {w : Wn} (hs : Srt14 l) (h : Left14 l m ⟨k, w⟩) {q : Ky} (hq : q ∈ gone14 l m) : ∃ x ∈ l, x.k = q ∧ has14 (wIns m ⟨k, w⟩) q = false ∧ kap q ≠ kap k ∧ w.su < x.w.ho := by
  obtain ⟨⟨x, hx, rfl⟩, hn⟩ := mem_gone.1 hq
  rw [has14_false] at hn
  obtain ⟨h1, h2⟩ := h.went x hx (fun hm => hn x hm rfl)
  refine ⟨x, hx, rfl, ?_, h1, h2⟩
  rw [has14_false]
  intro y hy e
  rcases mem_wIns.1 hy with hy | rfl
  · exact hn y hy e
  · exact h1 (by rw [← e])
/-- What is held with one more, in whatever order. -/
theorem held_more {l : List Et} (hs : Srt14 l) {x : Et} (hx : has14 l x.k = false) : fsum (heldF (l ++ [x])) = fsum (fams (wIns l x)) :=
  fsum_same (heldF_ok _) (fams_ok (srt_wIns hs hx)).fms fun y => by rw [mem_wIns, List.mem_append, List.mem_singleton]
/-- A path for which there is room drives nobody out. -/
theorem admit_fit {size : Nat} {l : List Et} {k : Ky} {w : Wn} (h1 : wRight w = true) (h2 : has14 l k = false) (h3 : l.length < 64) (h4 : fit14 size (wIns l ⟨k, w⟩) = true) : aAdmit size l k w = (wIns l ⟨k, w⟩, [], 0) := by
  unfold aAdmit
  rw [if_neg (by rw [h1]; simp), if_neg (by rw [h2]; simp), if_neg (by omega)]
  have e : aLoop l.length size l ⟨k, w⟩ = some l := by
    cases l.length with
    | zero => unfold aLoop; rw [if_pos h4]
    | succ n => unfold aLoop; rw [if_pos h4]
  rw [e]
  simp only [gone_refl]
/-- A path that wants no more than its kin costs nothing. -/
theorem shares_fit {size : Nat} {l : List Et} (hs : Srt14 l) {k : Ky} (h2 : has14 l k = false) {x : Et} (hx : x ∈ l) (hk : kap x.k = kap k) (w : Wn) (hw : w.bw = x.w.bw) : fsum (fams (wIns l ⟨k, w⟩)) = fsum (fams l) := by
  refine Nat.le_antisymm (fsum_wIns hs (x := ⟨k, w⟩) h2 (fams_ok hs).fms fun y hy => ?_) (fsum_mono (fams_ok hs).fms (fams_ok (srt_wIns hs (x := ⟨k, w⟩) h2)).fms fun y hy => ⟨y, mem_wIns.2 (.inl hy), rfl, Nat.le_refl _⟩)
  rcases hy with hy | rfl
  · exact ⟨y, hy, rfl, Nat.le_refl _⟩
  · exact ⟨x, hx, hk, by simp only [hw]; exact Nat.le_refl _⟩
/-- Who stays in any case: kin of the new one, and families of which one gives way to nobody. -/
def stays14 (l : List Et) (k : Ky) (su : Int) (y : Et) : Prop := kap y.k = kap k ∨ ∃ z ∈ l, kap z.k = kap y.k ∧ z.w.ho ≤ su
/-- A refusal for want of room. -/
theorem refused_ok {size : Nat} {l m : List Et} {k : Ky} {w : Wn} (hs : Srt14 l) (h2 : has14 l k = false) (h4 : Left14 l m ⟨k, w⟩) (h5 : fit14 size (wIns m ⟨k, w⟩) = false) (h6 : ∀ y ∈ m, kap y.k = kap k ∨ ∃ z ∈ m, kap z.k = kap y.k ∧ z.w.ho ≤ w.su)
    {st : List Et} (hst : ∀ y, (y ∈ l ∧ stays14 l k w.su y) ∨ y = ⟨k, w⟩ → y ∈ st) : size < fsum (heldF st) := by
  have h7 : ¬ fsum (fams (wIns m ⟨k, w⟩)) ≤ size := of_decide_eq_false h5
  have h8 := fsum_wIns (List.Pairwise.sublist h4.sub hs) (x := ⟨k, w⟩) (has_sub h4.sub h2) (heldF_ok st) (fun y hy => by
    refine ⟨y, hst y ?_, rfl, Nat.le_refl _⟩
    rcases hy with hy | rfl
    · refine .inl ⟨h4.sub.subset hy, ?_⟩
      rcases h6 y hy with h9 | ⟨z, hz, h9⟩
      · exact .inl h9
      · exact .inr ⟨z, h4.sub.subset hz, h9⟩
    · exact .inr rfl)
  omega
end Go.Proofs.Ytogijfebfffobaa
