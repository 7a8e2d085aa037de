/-
  Plain: over which links a route may go that is asked for; what follows from it. No condition beside what is said.
-/
import Derived.Test.YtogijfebfffobaaGroupMC
import Derived.Test.YtogijfebfffobaaTedMN
namespace Go.Proofs.Ytogijfebfffobaa
set_option maxRecDepth 100000

/-- What a tunnel has of a link. -/
structure Ow where
  f : Int
  t : Int
  b : Nat
/-- What a route is to be like. -/
structure Ak where
  w : Wn
  nn : List Int
  nl : List (Int × Int)
  ow : List Ow
def upd16 (f t : Int) (n : Nat) (o : Ow) : Nat := if o.f = f ∧ o.t = t then max n o.b else n
def own16 (l : List Ow) (f t : Int) : Nat := l.foldl (upd16 f t) 0
def exc16 (a : Ak) (k : Lk) : Bool := decide (k.f ∈ a.nn) || (decide (k.t ∈ a.nn) || decide ((k.f, k.t) ∈ a.nl))
def had16 (a : Ak) (x : Ad) : Nat := x.f.getD a.w.su.toNat 0 + own16 a.ow x.k.f x.k.t
def room16 (a : Ak) (x : Ad) : Bool := !decide (had16 a x < 18446744073709551616) || decide (a.w.bw ≤ had16 a x)
def fit16 (a : Ak) (x : Ad) : Bool := wRight a.w && (x.up && (wAllows a.w x.k.g.toNat && (!exc16 a x.k && room16 a x)))
def lks16 (l : List Ad) (a : Ak) : List Lk := (l.filter (fit16 a)).map (·.k)
/-- Its numbers are as large as their types allow. -/
structure AkOk (a : Ak) : Prop where
  wn : a.w.an < 4294967296 ∧ a.w.al < 4294967296 ∧ a.w.no < 4294967296
  ow : ∀ o ∈ a.ow, o.b < 18446744073709551616
theorem own16_snoc {l : List Ow} {i : Nat} {x : Ow} (h : l[i]? = some x) (f t : Int) : own16 (l.take (i + 1)) f t = upd16 f t (own16 (l.take i) f t) x := by
  have : l.take (i + 1) = l.take i ++ [x] := by rw [List.take_add_one, h]; rfl
  rw [this, own16, List.foldl_append]
  rfl
theorem own16_lt : ∀ (l : List Ow) (f t : Int) (n : Nat), n < 18446744073709551616 → (∀ o ∈ l, o.b < 18446744073709551616) → l.foldl (upd16 f t) n < 18446744073709551616
  | [], _, _, _, h, _ => h
  | o :: l, f, t, n, h, ho => by
    rw [List.foldl_cons]
    refine own16_lt l f t _ ?_ (fun x hx => ho x (by simp [hx]))
    have := ho o (by simp)
    unfold upd16
    split
    · exact Nat.max_lt.2 ⟨h, this⟩
    · exact h
theorem AkOk.own {a : Ak} (h : AkOk a) (f t : Int) : own16 a.ow f t < 18446744073709551616 := own16_lt _ f t 0 (by omega) h.ow
theorem fit16_right {a : Ak} {x : Ad} (h : fit16 a x = true) : wRight a.w = true := by
  unfold fit16 at h
  exact (Bool.and_eq_true _ _ ▸ h).1
/-- A link that is down, that is kept out, or one of whose ends is. -/
theorem fit16_down (a : Ak) (x : Ad) (h : x.up = false) : fit16 a x = false := by
  unfold fit16
  rw [h, Bool.false_and, Bool.and_false]
theorem fit16_exc {a : Ak} {x : Ad} (h : exc16 a x.k = true) : fit16 a x = false := by
  unfold fit16
  rw [h]
  simp
theorem exc16_node (a : Ak) (k : Lk) : exc16 { a with nn := a.nn ++ [k.t] } k = true := by
  unfold exc16
  simp
theorem exc16_link (a : Ak) (k : Lk) : exc16 { a with nl := a.nl ++ [(k.f, k.t)] } k = true := by
  unfold exc16
  simp
/-- What asks more leaves no link that what asks less takes away. -/
theorem fit16_less {a b : Ak} {x : Ad} (hs : a.w.su = b.w.su) (hc : wCovers a.w b.w = true) (hr : wRight a.w = true) (h : fit16 ⟨b.w, a.nn ++ b.nn, a.nl ++ b.nl, []⟩ x = true) : fit16 a x = true := by
  unfold fit16 at h ⊢
  simp only [Bool.and_eq_true, Bool.not_eq_true'] at h ⊢
  obtain ⟨_, h2, h3, h4, h5⟩ := h
  refine ⟨hr, h2, wCovers_less hc h3, ?_, ?_⟩
  · unfold exc16 at h4 ⊢
    simp only [Bool.or_eq_false_iff, decide_eq_false_iff_not, List.mem_append, not_or] at h4 ⊢
    exact ⟨h4.1.1, h4.2.1.1, h4.2.2.1⟩
  · unfold room16 had16 at h5 ⊢
    have h0 : own16 [] x.k.f x.k.t = 0 := rfl
    simp only [h0, Nat.add_zero, ← hs, Bool.or_eq_true, Bool.not_eq_true', decide_eq_false_iff_not, decide_eq_true_eq] at h5 ⊢
    generalize own16 a.ow x.k.f x.k.t = n
    generalize x.f.getD a.w.su.toNat 0 = m at h5 ⊢
    have hb : a.w.bw ≤ b.w.bw := by
      unfold wCovers at hc
      simp only [Bool.and_eq_true, decide_eq_true_eq] at hc
      exact hc.2.1
    omega
/-- The links that were told of the first adverts, and what comes then. -/
theorem lks16_at {l : List Ad} {i : Nat} {x : Ad} (h : l[i]? = some x) (a : Ak) : lks16 l a = lks16 (l.take i) a ++ ((if fit16 a x = true then [x.k] else []) ++ lks16 (l.drop (i + 1)) a) := by
  obtain ⟨hi, rfl⟩ := List.getElem?_eq_some_iff.1 h
  have e : l = l.take i ++ (l[i] :: l.drop (i + 1)) := by rw [← List.drop_eq_getElem_cons hi, List.take_append_drop]
  have : lks16 l a = lks16 (l.take i ++ (l[i] :: l.drop (i + 1))) a := by rw [← e]
  rw [this]
  unfold lks16
  rw [List.filter_append, List.map_append, List.filter_cons]
  split
  · simp
  · simp
theorem lks16_snoc {l : List Ad} {i : Nat} {x : Ad} (h : l[i]? = some x) (a : Ak) : lks16 (l.take (i + 1)) a = lks16 (l.take i) a ++ (if fit16 a x = true then [x.k] else []) := by
  have : l.take (i + 1) = l.take i ++ [x] := by rw [List.take_add_one, h]; rfl
  rw [this]
  unfold lks16
  rw [List.filter_append, List.map_append, List.filter_cons]
  split
  · simp
  · simp
theorem lks16_length (l : List Ad) (a : Ak) : (lks16 l a).length ≤ l.length := by
  unfold lks16
  rw [List.length_map]
  exact List.length_filter_le _ _
end Go.Proofs.Ytogijfebfffobaa
