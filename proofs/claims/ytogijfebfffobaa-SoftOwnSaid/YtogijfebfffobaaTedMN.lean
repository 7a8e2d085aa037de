/-
  What a node says of links, plain: adverts, which may be, their bytes and back, a base that is told of them. No condition beside what is said.
  Adverts in a row and their bytes; a base, slot by slot, that is told of adverts, in whatever order; two bases that tell each other: plain. No condition beside what is said.
-/
import Derived.Test.YtogijfebfffobaaGraphAC
import Derived.Test.YtogijfebfffobaaRefAB
namespace Go.Proofs.Ytogijfebfffobaa
set_option maxRecDepth 100000

/-- What a node says of a link. -/
structure Ad where
  k : Lk
  q : Int
  up : Bool
  f : List Nat
  deriving DecidableEq, Inhabited
/-- Each number is at most the one before. -/
def falls : Int → List Nat → Bool
  | _, [] => true
  | c, x :: t => decide ((x : Int) ≤ c) && falls (x : Int) t
/-- Link and number may be. -/
def vldH (a : Ad) : Bool := decide (0 ≤ a.k.f ∧ a.k.f < 16 ∧ 0 ≤ a.k.t ∧ a.k.t < 16 ∧ a.k.f ≠ a.k.t ∧ 1 ≤ a.k.m ∧ a.k.m ≤ 65535 ∧ 0 ≤ a.q ∧ a.q ≤ 4294967295)
/-- It may be. -/
def vldA (a : Ad) : Bool := vldH a && falls a.k.c a.f
/-- Eight numbers, each as large as its type allows. -/
structure AdOk (a : Ad) : Prop where
  len : a.f.length = 8
  num : ∀ n ∈ a.f, n < 18446744073709551616
  c0 : 0 ≤ a.k.c
  c1 : a.k.c < 18446744073709551616
  g0 : 0 ≤ a.k.g
  g1 : a.k.g < 4294967296
theorem vldH_iff {a : Ad} : vldH a = true ↔ 0 ≤ a.k.f ∧ a.k.f < 16 ∧ 0 ≤ a.k.t ∧ a.k.t < 16 ∧ a.k.f ≠ a.k.t ∧ 1 ≤ a.k.m ∧ a.k.m ≤ 65535 ∧ 0 ≤ a.q ∧ a.q ≤ 4294967295 := by simp [vldH]
theorem falls_same (c : Nat) : ∀ n, falls (c : Int) (List.replicate n c) = true
  | 0 => rfl
  | n + 1 => by simp [List.replicate_succ, falls, falls_same c n]

/-! Bytes: numbers one behind the other, each of a width of its own. -/
def packs (ps : List (Nat × Nat)) : List UInt8 := ps.flatMap fun p => dig p.1 p.2
def cuts : List Nat → List UInt8 → List Nat
  | [], _ => []
  | k :: ks, b => num (b.take k) :: cuts ks (b.drop k)
theorem cuts_length : ∀ (ks : List Nat) (b : List UInt8), (cuts ks b).length = ks.length
  | [], _ => rfl
  | _ :: ks, b => by simp [cuts, cuts_length ks]
theorem cuts_packs : ∀ (ps : List (Nat × Nat)) (r : List UInt8), (∀ p ∈ ps, p.2 < 256 ^ p.1) → cuts (ps.map (·.1)) (packs ps ++ r) = ps.map (·.2)
  | [], _, _ => rfl
  | p :: ps, r, h => by
    have e : packs (p :: ps) = dig p.1 p.2 ++ packs ps := rfl
    have hl := dig_length p.1 p.2
    rw [e, List.map_cons, List.map_cons, cuts, List.append_assoc, List.take_append_of_le_length (by omega), List.take_of_length_le (by omega), num_dig, Nat.mod_eq_of_lt (h p (by simp))]
    rw [show (dig p.1 p.2 ++ (packs ps ++ r)).drop p.1 = packs ps ++ r from by rw [List.drop_append_of_le_length (by omega), List.drop_of_length_le (by omega)]; rfl]
    rw [cuts_packs ps r fun q hq => h q (by simp [hq])]
theorem num15_from (l : List UInt8) : ∀ u : Nat, l.foldl (fun u x => u * 256 + x.toNat) u = u * 256 ^ l.length + num l := by
  induction l with
  | nil => intro u; simp [num]
  | cons x l ih =>
    intro u
    have h1 := ih (u * 256 + x.toNat)
    have h2 : num (x :: l) = x.toNat * 256 ^ l.length + num l := by
      have := ih x.toNat
      simpa [num] using this
    rw [List.foldl_cons, h1, h2, List.length_cons, Nat.pow_succ, Nat.add_mul, Nat.mul_assoc, Nat.mul_comm 256, Nat.add_assoc]
theorem num15_cons (x : UInt8) (l : List UInt8) : num (x :: l) = x.toNat * 256 ^ l.length + num l := by
  have := num15_from l x.toNat
  simpa [num] using this
theorem dig15_of (l : List UInt8) : ∀ u : Nat, u % 256 ^ l.length = num l → dig l.length u = l := by
  induction l with
  | nil => intro u _; rfl
  | cons x l ih =>
    intro u hu
    rw [List.length_cons, Nat.pow_succ, Nat.mod_mul, num15_cons] at hu
    have hl := num_lt l
    have hP : 0 < 256 ^ l.length := Nat.pow_pos (by omega)
    have hr := Nat.mod_lt u hP
    have hd := congrArg (· / 256 ^ l.length) hu
    simp only [Nat.add_mul_div_left _ _ hP, Nat.div_eq_of_lt hr, Nat.zero_add] at hd
    rw [Nat.mul_comm, Nat.mul_add_div hP, Nat.div_eq_of_lt hl, Nat.add_zero] at hd
    have hm : u % 256 ^ l.length = num l := by rw [hd, Nat.mul_comm] at hu; omega
    simp only [List.length_cons, dig, ih u hm]
    congr 1
    apply UInt8.toNat_inj.1
    rw [UInt8.toNat_ofNat', ← hd]
theorem dig15_num {l : List UInt8} {n : Nat} (h : l.length = n) : dig n (num l) = l := by
  have := dig15_of l (num l) (Nat.mod_eq_of_lt (num_lt l))
  rwa [h] at this
theorem packs_cuts : ∀ (ks : List Nat) (b : List UInt8), b.length = ks.sum → packs (ks.zip (cuts ks b)) = b
  | [], b, h => by
    rw [List.sum_nil] at h
    rw [List.eq_nil_of_length_eq_zero h]; rfl
  | k :: ks, b, h => by
    rw [List.sum_cons] at h
    have e : packs ((k :: ks).zip (cuts (k :: ks) b)) = dig k (num (b.take k)) ++ packs (ks.zip (cuts ks (b.drop k))) := rfl
    rw [e, packs_cuts ks (b.drop k) (by rw [List.length_drop]; omega), dig15_num (by rw [List.length_take]; omega), List.take_append_drop]

/-- How wide each number is. -/
def wid15 : List Nat := [1, 1, 1, 1, 4, 8, 4, 4, 8, 8, 8, 8, 8, 8, 8, 8]
def bnum (x : Bool) : Nat := if x = true then 1 else 0
/-- An advert's numbers. -/
def nums15 (a : Ad) : List Nat := a.k.f.toNat :: a.k.t.toNat :: bnum a.up :: 0 :: a.q.toNat :: a.k.c.toNat :: a.k.m.toNat :: a.k.g.toNat :: a.f
/-- What numbers say. -/
def ofV : List Nat → Ad
  | f :: t :: u :: _ :: q :: c :: m :: g :: l => ⟨⟨(f : Int), (t : Int), (c : Int), (m : Int), (g : Int)⟩, (q : Int), u == 1, l⟩
  | _ => default
def adB (a : Ad) : List UInt8 := packs (wid15.zip (nums15 a))
def gsA (b : List UInt8) : Ad := ofV (cuts wid15 b)
theorem list_eight {l : List Nat} (h : l.length = 8) : ∃ a b c d e f g i, l = [a, b, c, d, e, f, g, i] := by
  rcases l with _ | ⟨a, _ | ⟨b, _ | ⟨c, _ | ⟨d, _ | ⟨e, _ | ⟨f, _ | ⟨g, _ | ⟨i, _ | ⟨j, l⟩⟩⟩⟩⟩⟩⟩⟩⟩ <;> simp at h
  exact ⟨a, b, c, d, e, f, g, i, rfl⟩
theorem adB_length {a : Ad} (h : AdOk a) : (adB a).length = 88 := by
  obtain ⟨f1, f2, f3, f4, f5, f6, f7, f8, hf⟩ := list_eight h.len
  simp [adB, packs, wid15, nums15, hf, dig_length]
theorem ofV_nums {a : Ad} (h : AdOk a) (hv : vldA a = true) : ofV (nums15 a) = a := by
  obtain ⟨⟨f, t, c, m, g⟩, q, up, l⟩ := a
  simp only [vldA, Bool.and_eq_true] at hv
  have hv := vldH_iff.1 hv.1
  have h0 := h.c0
  have h1 := h.g0
  simp only at hv h0 h1
  simp only [nums15, ofV]
  have e1 : ((f.toNat : Nat) : Int) = f := by omega
  have e2 : ((t.toNat : Nat) : Int) = t := by omega
  have e3 : ((c.toNat : Nat) : Int) = c := by omega
  have e4 : ((m.toNat : Nat) : Int) = m := by omega
  have e5 : ((g.toNat : Nat) : Int) = g := by omega
  have e6 : ((q.toNat : Nat) : Int) = q := by omega
  rw [e1, e2, e3, e4, e5, e6]
  cases up <;> rfl
theorem gsA_adB {a : Ad} (h : AdOk a) (hv : vldA a = true) (r : List UInt8) : gsA (adB a ++ r) = a := by
  have hvv := hv
  simp only [vldA, Bool.and_eq_true] at hvv
  have hv2 := vldH_iff.1 hvv.1
  obtain ⟨f1, f2, f3, f4, f5, f6, f7, f8, hf⟩ := list_eight h.len
  have hn := h.num
  have e : (wid15.zip (nums15 a)).map (·.1) = wid15 := by simp [wid15, nums15, hf]
  have e2 : (wid15.zip (nums15 a)).map (·.2) = nums15 a := by simp [wid15, nums15, hf]
  have hc := cuts_packs (wid15.zip (nums15 a)) r (by
    have h1 := h.c1; have h2 := h.g1; have h3 := h.c0; have h4 := h.g0
    have hb : bnum a.up < 256 := by cases a.up <;> decide
    rw [hf] at hn
    simp only [List.mem_cons, List.not_mem_nil, or_false, forall_eq_or_imp, forall_eq] at hn
    simp only [wid15, nums15, hf, List.zip_cons_cons, List.zip_nil_right, List.mem_cons, List.not_mem_nil, or_false, forall_eq_or_imp, forall_eq]
    refine ⟨?_, ?_, ?_, ?_, ?_, ?_, ?_, ?_, ?_, ?_, ?_, ?_, ?_, ?_, ?_, ?_⟩ <;> simp only [Nat.reducePow] <;> omega)
  rw [e, e2] at hc
  unfold gsA adB
  rw [hc, ofV_nums h hv]
theorem cuts15 (b : List UInt8) : ∃ v0 v1 v2 v3 v4 v5 v6 v7 l, cuts wid15 b = v0 :: v1 :: v2 :: v3 :: v4 :: v5 :: v6 :: v7 :: l ∧ l.length = 8 := by
  refine ⟨_, _, _, _, _, _, _, _, _, rfl, rfl⟩
/-- What bytes say gives them back just if they say no more than it does. -/
theorem adB_gsA {b : List UInt8} (hl : b.length = 88) : adB (gsA b) = b ↔ num ((b.drop 2).take 1) ≤ 1 ∧ num ((b.drop 3).take 1) = 0 := by
  have hp := packs_cuts wid15 b (by rw [hl]; rfl)
  obtain ⟨v0, v1, v2, v3, v4, v5, v6, v7, l, e, h8⟩ := cuts15 b
  have e2 : num ((b.drop 2).take 1) = v2 := by
    have : (cuts wid15 b)[2]? = some v2 := by rw [e]; rfl
    simpa [cuts, wid15, List.drop_drop] using this
  have e3 : num ((b.drop 3).take 1) = v3 := by
    have : (cuts wid15 b)[3]? = some v3 := by rw [e]; rfl
    simpa [cuts, wid15, List.drop_drop] using this
  have l2 := num_lt ((b.drop 2).take 1)
  have l3 := num_lt ((b.drop 3).take 1)
  have hb2 : 256 ^ ((b.drop 2).take 1).length = 256 := by rw [List.length_take, List.length_drop, hl]; rfl
  have hb3 : 256 ^ ((b.drop 3).take 1).length = 256 := by rw [List.length_take, List.length_drop, hl]; rfl
  rw [hb2] at l2
  rw [hb3] at l3
  rw [e2, e3] at *
  have en : nums15 (gsA b) = v0 :: v1 :: bnum (v2 == 1) :: 0 :: v4 :: v5 :: v6 :: v7 :: l := by simp [gsA, e, ofV, nums15]
  constructor
  · intro h
    have hq := congrArg (cuts wid15) h
    obtain ⟨f1, f2, f3, f4, f5, f6, f7, f8, hf⟩ := list_eight h8
    have hc := cuts_packs [(1, v0), (1, v1), (1, bnum (v2 == 1))] (dig 1 0 ++ packs ([4, 8, 4, 4, 8, 8, 8, 8, 8, 8, 8, 8].zip (v4 :: v5 :: v6 :: v7 :: l))) (by
      have hb : bnum (v2 == 1) < 256 := by cases (v2 == 1) <;> decide
      have a0 : v0 < 256 := by
        have : (cuts wid15 b)[0]? = some v0 := by rw [e]; rfl
        have h9 : num (b.take 1) = v0 := by simpa [cuts, wid15] using this
        have := num_lt (b.take 1)
        rw [List.length_take, hl, h9] at this
        simpa using this
      have a1 : v1 < 256 := by
        have : (cuts wid15 b)[1]? = some v1 := by rw [e]; rfl
        have h9 : num ((b.drop 1).take 1) = v1 := by simpa [cuts, wid15] using this
        have := num_lt ((b.drop 1).take 1)
        rw [List.length_take, List.length_drop, hl, h9] at this
        simpa using this
      simp only [List.mem_cons, List.not_mem_nil, or_false, forall_eq_or_imp, forall_eq, Nat.pow_one]
      exact ⟨a0, a1, hb⟩)
    have hs : adB (gsA b) = packs [(1, v0), (1, v1), (1, bnum (v2 == 1))] ++ (dig 1 0 ++ packs ([4, 8, 4, 4, 8, 8, 8, 8, 8, 8, 8, 8].zip (v4 :: v5 :: v6 :: v7 :: l))) := by
      unfold adB
      rw [en]
      simp [packs, wid15, List.append_assoc]
    rw [hs, e] at hq
    have h2 := congrArg (·[2]?) hq
    have h3 := congrArg (·[3]?) hq
    have t2 : (cuts [1, 1, 1] (packs [(1, v0), (1, v1), (1, bnum (v2 == 1))] ++ (dig 1 0 ++ packs ([4, 8, 4, 4, 8, 8, 8, 8, 8, 8, 8, 8].zip (v4 :: v5 :: v6 :: v7 :: l)))))[2]? = some (bnum (v2 == 1)) := by
      rw [show ([1, 1, 1] : List Nat) = [(1, v0), (1, v1), (1, bnum (v2 == 1))].map (·.1) from rfl, hc]; rfl
    have k3 : dig 1 0 = [0] := rfl
    simp only [cuts, wid15, packs, dig, List.flatMap_cons, List.flatMap_nil, List.append_nil, List.cons_append, List.nil_append, List.take, List.drop, List.getElem?_cons_succ, List.getElem?_cons_zero, Option.some.injEq] at h2 h3 t2
    have k0 : num [UInt8.ofNat (0 / 256 ^ 0)] = 0 := rfl
    refine ⟨?_, ?_⟩
    · rw [← h2, t2]; cases (v2 == 1) <;> decide
    · rw [← h3]; rfl
  · rintro ⟨h2, h3⟩
    unfold adB
    rw [en]
    have : bnum (v2 == 1) = v2 := by
      rcases (show v2 = 0 ∨ v2 = 1 by omega) with rfl | rfl <;> rfl
    rw [this]
    rw [e, h3] at hp
    exact hp
end Go.Proofs.Ytogijfebfffobaa

namespace Go.Proofs.Ytogijfebfffobaa
set_option maxRecDepth 100000

/-! Bytes of many. -/
def adsB (l : List Ad) : List UInt8 := l.flatMap adB
def gsN : Nat → List UInt8 → List Ad
  | 0, _ => []
  | n + 1, b => gsA (b.take 88) :: gsN n (b.drop 88)
def aEnc (l : List Ad) : List UInt8 × Int := if 64 < l.length then ([], 3) else if l.all vldA = true then (adsB l, 0) else ([], 2)
def aDec (b : List UInt8) : List Ad × Int := if b.length % 88 = 0 ∧ b.length ≤ 5632 ∧ aEnc (gsN (b.length / 88) b) = (b, 0) then (gsN (b.length / 88) b, 0) else ([], 5)
theorem adsB_cons (a : Ad) (l : List Ad) : adsB (a :: l) = adB a ++ adsB l := rfl
theorem adsB_snoc (l : List Ad) (a : Ad) : adsB (l ++ [a]) = adsB l ++ adB a := by simp [adsB]
theorem adsB_length : ∀ {l : List Ad}, (∀ a ∈ l, AdOk a) → (adsB l).length = 88 * l.length
  | [], _ => rfl
  | a :: l, h => by
    rw [adsB_cons, List.length_append, adB_length (h a (by simp)), adsB_length (l := l) (fun x hx => h x (by simp [hx])), List.length_cons]
    omega
theorem gsN_adsB : ∀ {l : List Ad} (r : List UInt8), (∀ a ∈ l, AdOk a) → (∀ a ∈ l, vldA a = true) → gsN l.length (adsB l ++ r) = l
  | [], _, _, _ => rfl
  | a :: l, r, h, k => by
    have hl := adB_length (h a (by simp))
    rw [adsB_cons, List.length_cons, gsN, List.append_assoc, List.take_append_of_le_length (by omega), List.drop_append_of_le_length (by omega), List.take_of_length_le (by omega), List.drop_of_length_le (by omega), List.nil_append, gsN_adsB r (fun x hx => h x (by simp [hx])) (fun x hx => k x (by simp [hx]))]
    have := gsA_adB (h a (by simp)) (k a (by simp)) []
    rw [List.append_nil] at this
    rw [this]
theorem gsN_length : ∀ (n : Nat) (b : List UInt8), (gsN n b).length = n
  | 0, _ => rfl
  | n + 1, b => by rw [gsN, List.length_cons, gsN_length n]
theorem gsN_get : ∀ (n : Nat) (b : List UInt8) (i : Nat), i < n → (gsN n b)[i]? = some (gsA ((b.drop (88 * i)).take 88))
  | n + 1, b, 0, _ => rfl
  | n + 1, b, i + 1, h => by
    rw [gsN, List.getElem?_cons_succ, gsN_get n _ i (by omega), List.drop_drop, show 88 + 88 * i = 88 * (i + 1) from by omega]
theorem gsN_snoc (n : Nat) (b : List UInt8) : gsN (n + 1) b = gsN n b ++ [gsA ((b.drop (88 * n)).take 88)] := by
  apply List.ext_getElem?
  intro i
  rcases Nat.lt_trichotomy i n with h | h | h
  · rw [gsN_get _ _ _ (by omega), List.getElem?_append_left (by rw [gsN_length]; exact h), gsN_get _ _ _ h]
  · subst h
    rw [gsN_get _ _ _ (by omega), List.getElem?_append_right (by rw [gsN_length]; exact Nat.le_refl _), gsN_length, Nat.sub_self]; rfl
  · rw [List.getElem?_eq_none (by rw [gsN_length]; omega), List.getElem?_eq_none (by rw [List.length_append, gsN_length, List.length_singleton]; omega)]
/-- The bytes say no more than the advert. -/
def fineB (b : List UInt8) : Bool := decide (num ((b.drop 2).take 1) ≤ 1 ∧ num ((b.drop 3).take 1) = 0)
theorem gsA_ok (b : List UInt8) : AdOk (gsA b) := by
  have e : gsA b = ⟨⟨(num (b.take 1) : Nat), (num ((b.drop 1).take 1) : Nat), (num ((b.drop 8).take 8) : Nat), (num ((b.drop 16).take 4) : Nat), (num ((b.drop 20).take 4) : Nat)⟩, (num ((b.drop 4).take 4) : Nat), num ((b.drop 2).take 1) == 1, cuts [8, 8, 8, 8, 8, 8, 8, 8] (b.drop 24)⟩ := by
    simp [gsA, wid15, cuts, ofV, List.drop_drop]
  have l8 : ∀ i, num ((b.drop i).take 8) < 18446744073709551616 := fun i => by
    have h := num_lt ((b.drop i).take 8)
    have h2 : 256 ^ ((b.drop i).take 8).length ≤ 256 ^ 8 := Nat.pow_le_pow_right (by omega) (by rw [List.length_take]; omega)
    omega
  have l4 : ∀ i, num ((b.drop i).take 4) < 4294967296 := fun i => by
    have h := num_lt ((b.drop i).take 4)
    have h2 : 256 ^ ((b.drop i).take 4).length ≤ 256 ^ 4 := Nat.pow_le_pow_right (by omega) (by rw [List.length_take]; omega)
    omega
  rw [e]
  have a8 := l8 8
  have a20 := l4 20
  refine ⟨rfl, ?_, ?_, ?_, ?_, ?_⟩
  · intro n hn
    simp only [cuts, List.drop_drop, List.mem_cons, List.not_mem_nil, or_false] at hn
    rcases hn with rfl | rfl | rfl | rfl | rfl | rfl | rfl | rfl <;> exact l8 _
  all_goals (simp only; omega)
theorem chunk_length {b : List UInt8} {n i : Nat} (hb : b.length = 88 * n) (hi : i < n) : ((b.drop (88 * i)).take 88).length = 88 := by
  rw [List.length_take, List.length_drop]; omega
theorem gsN_ok (b : List UInt8) (n : Nat) : ∀ a ∈ gsN n b, AdOk a := by
  intro a ha
  obtain ⟨i, hi, rfl⟩ := List.mem_iff_getElem.1 ha
  rw [gsN_length] at hi
  have h := gsN_get n b i hi
  rw [List.getElem?_eq_getElem (by rw [gsN_length]; exact hi), Option.some.injEq] at h
  rw [h]
  exact gsA_ok _
theorem adsB_gsN : ∀ {n : Nat} {b : List UInt8}, b.length = 88 * n → (adsB (gsN n b) = b ↔ ∀ i, i < n → fineB ((b.drop (88 * i)).take 88) = true)
  | 0, b, h => by
    have : b = [] := List.eq_nil_of_length_eq_zero (by omega)
    subst this
    exact ⟨fun _ i hi => by omega, fun _ => rfl⟩
  | n + 1, b, h => by
    have ht : (b.take 88).length = 88 := by rw [List.length_take]; omega
    have hd : (b.drop 88).length = 88 * n := by rw [List.length_drop]; omega
    have ih := adsB_gsN hd
    have hg := adB_gsA ht
    have hl := adB_length (gsA_ok (b.take 88))
    rw [gsN, adsB_cons]
    constructor
    · intro e
      have e2 : adB (gsA (b.take 88)) = b.take 88 ∧ adsB (gsN n (b.drop 88)) = b.drop 88 := by
        apply List.append_inj
        · rw [List.take_append_drop]; exact e
        · rw [hl, ht]
      intro i hi
      cases i with
      | zero => simpa [fineB] using hg.1 e2.1
      | succ i =>
        have := ih.1 e2.2 i (by omega)
        rwa [List.drop_drop, show 88 + 88 * i = 88 * (i + 1) from by omega] at this
    · intro hall
      have h0 := hall 0 (by omega)
      rw [hg.2 (by simpa [fineB] using h0), ih.2 (fun i hi => by
        have := hall (i + 1) (by omega)
        rwa [List.drop_drop, show 88 + 88 * i = 88 * (i + 1) from by omega]), List.take_append_drop]
theorem aDec_enc {l : List Ad} {x : List UInt8} (h : ∀ a ∈ l, AdOk a) (he : aEnc l = (x, 0)) : aDec x = (l, 0) := by
  unfold aEnc at he
  split at he
  · simp at he
  · split at he
    · rename_i h1 h2
      simp only [Prod.mk.injEq, and_true] at he
      subst he
      have hl := adsB_length h
      have hg := gsN_adsB (l := l) [] h (List.all_eq_true.1 h2)
      rw [List.append_nil] at hg
      have hq : (adsB l).length / 88 = l.length := by rw [hl]; omega
      unfold aDec
      rw [hq, hg]
      rw [if_pos]
      refine ⟨by omega, by omega, ?_⟩
      unfold aEnc
      rw [if_neg h1, if_pos h2]
    · simp at he
theorem aEnc_dec {b : List UInt8} {m : List Ad} (h : aDec b = (m, 0)) : aEnc m = (b, 0) := by
  unfold aDec at h
  split at h
  · rename_i hh
    simp only [Prod.mk.injEq, and_true] at h
    subst h
    exact hh.2.2
  · simp at h

/-! A base. -/
def ends15 (x : Lk) : Int × Int := (x.f, x.t)
def bnew (L : List Lk) : List Ad := L.map fun x => ⟨x, 0, true, List.replicate 8 x.c.toNat⟩
def bpl (b : List Ad) (z : Int × Int) : Option Nat := b.findIdx? fun a => decide (ends15 a.k = z)
def bApply (b : List Ad) (a : Ad) : List Ad × Bool × Int :=
  if vldA a = true then (match bpl b (ends15 a.k) with | none => (b, false, 8) | some k => if a.q ≤ (b.getD k default).q then (b, false, 0) else (b.set k a, true, 0)) else (b, false, 2)
/-- What a slot has behind an advert. -/
def slot (x a : Ad) : Ad := if vldA a = true ∧ ends15 a.k = ends15 x.k ∧ x.q < a.q then a else x
def told (b l : List Ad) : List Ad := l.foldl (fun b a => (bApply b a).1) b
/-- No two have the same ends. -/
def Dis (b : List Ad) : Prop := (b.map fun a => ends15 a.k).Nodup
theorem told_snoc (b l : List Ad) (a : Ad) : told b (l ++ [a]) = (bApply (told b l) a).1 := by unfold told; rw [List.foldl_append]; rfl
theorem slot_ends (x a : Ad) : ends15 (slot x a).k = ends15 x.k := by
  unfold slot
  split
  · rename_i h; exact h.2.1
  · rfl
theorem slot_q (x a : Ad) : x.q ≤ (slot x a).q := by
  unfold slot
  split
  · rename_i h; omega
  · exact Int.le_refl _
/-- What a call does: nothing, or one slot is set. -/
theorem bApply_cases (b : List Ad) (a : Ad) :
    (bApply b a).2.1 = false ∧ (bApply b a).1 = b ∨
    ∃ k, ∃ hk : k < b.length, bpl b (ends15 a.k) = some k ∧ vldA a = true ∧ ends15 b[k].k = ends15 a.k ∧ b[k].q < a.q ∧ bApply b a = (b.set k a, true, 0) := by
  unfold bApply
  split
  · rename_i hv
    cases hp : bpl b (ends15 a.k) with
    | none => exact .inl ⟨rfl, rfl⟩
    | some k =>
      obtain ⟨hk, he, _⟩ := List.findIdx?_eq_some_iff_getElem.1 hp
      have hg : b.getD k default = b[k] := by simp [List.getD_eq_getElem?_getD, List.getElem?_eq_getElem hk]
      simp only [hg]
      split
      · exact .inl ⟨rfl, rfl⟩
      · exact .inr ⟨k, hk, rfl, hv, of_decide_eq_true he, by omega, rfl⟩
  · exact .inl ⟨rfl, rfl⟩
theorem dis_get {b : List Ad} (h : Dis b) {i j : Nat} (hi : i < b.length) (hj : j < b.length) (e : ends15 b[i].k = ends15 b[j].k) : i = j := by
  have hp := List.pairwise_iff_getElem.1 h
  rcases Nat.lt_trichotomy i j with hij | hij | hij
  · exact absurd (by rw [List.getElem_map, List.getElem_map]; exact e) (hp i j (by simpa using hi) (by simpa using hj) hij)
  · exact hij
  · exact absurd (by rw [List.getElem_map, List.getElem_map]; exact e.symm) (hp j i (by simpa using hj) (by simpa using hi) hij)
/-- Slot by slot. -/
theorem bApply_map {b : List Ad} (h : Dis b) (a : Ad) : (bApply b a).1 = b.map fun x => slot x a := by
  apply List.ext_getElem?
  intro i
  rw [List.getElem?_map]
  rcases bApply_cases b a with ⟨hn, he⟩ | ⟨k, hk, hp, hv, hend, hq, he⟩
  · rw [he]
    by_cases hi : i < b.length
    · rw [List.getElem?_eq_getElem hi, Option.map_some]
      congr 1
      unfold slot
      rw [if_neg]
      rintro ⟨hv, hend, hq⟩
      unfold bApply at hn
      rw [if_pos hv] at hn
      cases hp : bpl b (ends15 a.k) with
      | none =>
        have := List.findIdx?_eq_none_iff.1 hp b[i] (List.getElem_mem hi)
        simp only [decide_eq_false_iff_not] at this
        exact this hend.symm
      | some k =>
        obtain ⟨hk, he2, _⟩ := List.findIdx?_eq_some_iff_getElem.1 hp
        have hik := dis_get h hk hi ((of_decide_eq_true he2).trans hend)
        subst hik
        rw [hp] at hn
        simp only [List.getD_eq_getElem?_getD, List.getElem?_eq_getElem hk, Option.getD_some] at hn
        rw [if_neg (by omega)] at hn
        cases hn
    · rw [List.getElem?_eq_none (by omega)]; rfl
  · rw [he]
    show (b.set k a)[i]? = _
    rw [List.getElem?_set]
    by_cases hik : k = i
    · subst hik
      rw [if_pos rfl, if_pos hk, List.getElem?_eq_getElem hk, Option.map_some]
      congr 1
      unfold slot
      rw [if_pos ⟨hv, hend.symm, hq⟩]
    · rw [if_neg hik]
      by_cases hi : i < b.length
      · rw [List.getElem?_eq_getElem hi, Option.map_some]
        congr 1
        unfold slot
        rw [if_neg]
        rintro ⟨_, he3, _⟩
        exact hik (dis_get h hk hi (hend.trans he3))
      · rw [List.getElem?_eq_none (by omega)]; rfl
theorem dis_map {b : List Ad} {f : Ad → Ad} (hf : ∀ x, ends15 (f x).k = ends15 x.k) (h : Dis b) : Dis (b.map f) := by
  unfold Dis at *
  rw [List.map_map]
  have : ((fun a : Ad => ends15 a.k) ∘ f) = fun a => ends15 a.k := funext fun x => hf x
  rw [this]; exact h
theorem bApply_dis {b : List Ad} (h : Dis b) (a : Ad) : Dis (bApply b a).1 := by rw [bApply_map h]; exact dis_map (fun x => slot_ends x a) h
def slots (x : Ad) (l : List Ad) : Ad := l.foldl slot x
theorem slots_ends : ∀ (l : List Ad) (x : Ad), ends15 (slots x l).k = ends15 x.k
  | [], _ => rfl
  | a :: l, x => by
    have := slots_ends l (slot x a)
    rw [slot_ends] at this
    exact this
theorem told_map : ∀ (l : List Ad) {b : List Ad}, Dis b → told b l = b.map fun x => slots x l
  | [], b, _ => by
    have : (fun x => slots x []) = (id : Ad → Ad) := rfl
    rw [this, List.map_id]; rfl
  | a :: l, b, h => by
    have e : told b (a :: l) = told (bApply b a).1 l := rfl
    rw [e, told_map l (bApply_dis h a), bApply_map h, List.map_map]
    rfl
theorem told_dis (l : List Ad) {b : List Ad} (h : Dis b) : Dis (told b l) := by rw [told_map l h]; exact dis_map (fun x => slots_ends l x) h
theorem told_length (l : List Ad) {b : List Ad} (h : Dis b) : (told b l).length = b.length := by rw [told_map l h, List.length_map]
/-- What a slot has behind adverts: what it had, or the newest of those that it takes. -/
structure Fin1 (x : Ad) (S : Ad → Prop) (y : Ad) : Prop where
  from_ : y = x ∨ S y ∧ vldA y = true ∧ ends15 y.k = ends15 x.k ∧ x.q < y.q
  most : ∀ z, S z → vldA z = true → ends15 z.k = ends15 x.k → z.q ≤ y.q
theorem Fin1.le {x : Ad} {S : Ad → Prop} {y : Ad} (h : Fin1 x S y) : x.q ≤ y.q := by
  rcases h.from_ with rfl | ⟨_, _, _, hq⟩
  · exact Int.le_refl _
  · omega
theorem Fin1.same {x : Ad} {S : Ad → Prop} {y : Ad} (h : Fin1 x S y) : ends15 y.k = ends15 x.k := by
  rcases h.from_ with rfl | ⟨_, _, he, _⟩
  · rfl
  · exact he
theorem fin1_slots (x : Ad) : ∀ (n : Nat) (l : List Ad), l.length = n → Fin1 x (· ∈ l) (slots x l)
  | 0, l, hl => by
    have := List.eq_nil_of_length_eq_zero hl
    subst this
    exact ⟨.inl rfl, fun z hz => absurd hz (by simp)⟩
  | n + 1, l, hl => by
    rcases List.eq_nil_or_concat l with rfl | ⟨m, a, rfl⟩
    · simp at hl
    · rw [List.concat_eq_append] at hl ⊢
      have ih := fin1_slots x n m (by simpa using hl)
      have e : slots x (m ++ [a]) = slot (slots x m) a := by unfold slots; rw [List.foldl_append]; rfl
      rw [e]
      generalize slots x m = y at ih
      have hs := slot_q y a
      have hle := ih.le
      constructor
      · unfold slot at hs ⊢
        split
        · rename_i hc
          exact .inr ⟨by simp, hc.1, hc.2.1.trans ih.same, by omega⟩
        · rcases ih.from_ with h | h
          · exact .inl h
          · exact .inr ⟨by simp [h.1], h.2⟩
      · intro z hz hv he
        rcases List.mem_append.1 hz with hz | hz
        · have := ih.most z hz hv he; omega
        · simp only [List.mem_singleton] at hz
          subst hz
          unfold slot
          split
          · exact Int.le_refl _
          · rename_i hc
            have : ends15 z.k = ends15 y.k := he.trans ih.same.symm
            have : ¬ y.q < z.q := fun hq => hc ⟨hv, this, hq⟩
            omega
/-- Of no link are there two adverts of one number. -/
def Unl (S : Ad → Prop) : Prop := ∀ y z, S y → S z → ends15 y.k = ends15 z.k → y.q = z.q → y = z
theorem fin1_unique {x : Ad} {S T : Ad → Prop} {y z : Ad} (hu : Unl S) (hS : ∀ v, S v ↔ T v) (hy : Fin1 x S y) (hz : Fin1 x T z) : y = z := by
  rcases hy.from_ with ey | ⟨y1, y2, y3, y4⟩
  · rcases hz.from_ with ez | ⟨z1, z2, z3, z4⟩
    · rw [ey, ez]
    · have := hy.most z ((hS z).2 z1) z2 z3
      rw [ey] at this; omega
  · have h1 := hz.most y ((hS y).1 y1) y2 y3
    rcases hz.from_ with ez | ⟨z1, z2, z3, z4⟩
    · rw [ez] at h1; omega
    · have h2 := hy.most z ((hS z).2 z1) z2 z3
      exact hu y z y1 ((hS z).2 z1) (y3.trans z3.symm) (by omega)
/-- In whatever order, and however often. -/
theorem told_order {b l m : List Ad} (h : Dis b) (hu : Unl (· ∈ l)) (hm : ∀ v, v ∈ l ↔ v ∈ m) : told b l = told b m := by
  rw [told_map l h, told_map m h]
  apply List.map_congr_left
  intro x _
  exact fin1_unique hu hm (fin1_slots x _ l rfl) (fin1_slots x _ m rfl)
/-- Two bases that tell each other know the same. -/
theorem told_flood {b l m : List Ad} (h : Dis b) (hv : ∀ x ∈ b, vldA x = true) (hu : Unl fun v => v ∈ l ∨ v ∈ m) :
    told (told b l) (told b m) = told (told b m) (told (told b l) (told b m)) := by
  have hl := told_dis l h
  have hm := told_dis m h
  have hn := told_dis (told b m) hl
  have el := told_map l h
  have em := told_map m h
  -- a slot takes of another base's only what its own slot there has
  have key : ∀ (f g : Ad → Ad), (∀ x, ends15 (f x).k = ends15 x.k) → (∀ x, ends15 (g x).k = ends15 x.k) → (∀ x ∈ b, vldA (g x) = true) → told (b.map f) (b.map g) = b.map fun x => slot (f x) (g x) := by
    intro f g hf hg hvg
    rw [told_map _ (dis_map hf h), List.map_map]
    apply List.map_congr_left
    intro x hx
    have hF := fin1_slots (f x) _ (b.map g) rfl
    show slots (f x) (b.map g) = slot (f x) (g x)
    have h1 := hF.most (g x) (List.mem_map_of_mem hx) (hvg x hx) (by rw [hg, hf])
    unfold slot
    rcases hF.from_ with e | ⟨hmem, hv2, he2, hq2⟩
    · rw [if_neg (by rintro ⟨_, _, hq⟩; rw [e] at h1; omega)]
      exact e
    · obtain ⟨y, hy, hyx⟩ := List.mem_map.1 hmem
      have hexy : ends15 y.k = ends15 x.k := by
        have := congrArg (fun a : Ad => ends15 a.k) hyx
        rw [hg] at this
        rw [this, he2, hf]
      have : y = x := by
        obtain ⟨i, hi, rfl⟩ := List.mem_iff_getElem.1 hy
        obtain ⟨j, hj, rfl⟩ := List.mem_iff_getElem.1 hx
        have := dis_get h hi hj hexy
        subst this; rfl
      subst this
      rw [← hyx, if_pos ⟨hvg _ hx, by rw [hg, hf], by rw [hyx]; exact hq2⟩]
  have hvs : ∀ (l : List Ad) (x : Ad), vldA x = true → vldA (slots x l) = true := by
    intro l x hx
    rcases (fin1_slots x _ l rfl).from_ with e | ⟨_, hv2, _⟩
    · rw [e]; exact hx
    · exact hv2
  have hvt : ∀ (x y : Ad), vldA x = true → vldA y = true → vldA (slot x y) = true := by
    intro x y hx hy
    unfold slot
    split
    · exact hy
    · exact hx
  rw [el, em, key _ _ (fun x => slots_ends l x) (fun x => slots_ends m x) (fun x hx => hvs m x (hv x hx))]
  rw [key (fun x => slots x m) (fun x => slot (slots x l) (slots x m)) (fun x => slots_ends m x) (fun x => by rw [slot_ends, slots_ends]) (fun x hx => hvt _ _ (hvs l x (hv x hx)) (hvs m x (hv x hx)))]
  apply List.map_congr_left
  intro x hx
  have f1 := fin1_slots x _ l rfl
  have f2 := fin1_slots x _ m rfl
  have v1 := hvs l x (hv x hx)
  have v2 := hvs m x (hv x hx)
  have e12 : ends15 (slots x m).k = ends15 (slots x l).k := by rw [slots_ends, slots_ends]
  generalize slots x l = y at *
  generalize slots x m = z at *
  unfold slot
  by_cases hq : y.q < z.q
  · rw [if_pos ⟨v2, e12, hq⟩, if_neg (fun hc => by have := hc.2.2; omega)]
  · rw [if_neg (fun hc => hq hc.2.2)]
    by_cases hq2 : z.q < y.q
    · rw [if_pos ⟨v1, e12.symm, hq2⟩]
    · rw [if_neg (fun hc => hq2 hc.2.2)]
      have hqq : y.q = z.q := by omega
      rcases f1.from_ with ey | ⟨y1, _, _, y4⟩
      · rcases f2.from_ with ez | ⟨_, _, _, z4⟩
        · rw [ey, ez]
        · rw [ey] at hqq; omega
      · rcases f2.from_ with ez | ⟨z1, _, _, z4⟩
        · rw [ez] at hqq; omega
        · exact hu y z (.inl y1) (.inr z1) e12.symm hqq
/-- How many slots are no longer what they were. -/
def chg15 (b c : List Ad) : Nat := ((b.zip c).filter fun p => !decide (p.1 = p.2)).length
theorem chg15_same : ∀ (b : List Ad), chg15 b b = 0
  | [] => rfl
  | a :: b => by
    have := chg15_same b
    unfold chg15 at this ⊢
    rw [List.zip_cons_cons, List.filter_cons_of_neg (by simp)]
    exact this
theorem chg15_set : ∀ {b : List Ad} {k : Nat} {a : Ad} (hk : k < b.length), a ≠ b[k] → chg15 (b.set k a) b = 1
  | x :: b, 0, a, _, hne => by
    have := chg15_same b
    unfold chg15 at this ⊢
    rw [List.set_cons_zero, List.zip_cons_cons, List.filter_cons_of_pos (by simpa using hne), List.length_cons, this]
  | x :: b, k + 1, a, hk, hne => by
    have := chg15_set (b := b) (k := k) (a := a) (by simpa using hk) (by simpa using hne)
    unfold chg15 at this ⊢
    rw [List.set_cons_succ, List.zip_cons_cons, List.filter_cons_of_neg (by simp)]
    exact this
theorem bApply_chg (b : List Ad) (a : Ad) : chg15 (bApply b a).1 b = if (bApply b a).2.1 = true then 1 else 0 := by
  rcases bApply_cases b a with ⟨hn, he⟩ | ⟨k, hk, hp, hv, hend, hq, he⟩
  · rw [hn, he, chg15_same]; rfl
  · rw [he]
    show chg15 (b.set k a) b = 1
    exact chg15_set hk (fun e => by rw [e] at hq; omega)
/-- What a base always is. -/
structure Bs15 (L : List Lk) (b : List Ad) : Prop where
  ends : (b.map fun a => ends15 a.k) = L.map ends15
  ok : ∀ a ∈ b, AdOk a
  vld : ∀ a ∈ b, vldA a = true
theorem bs15_apply {L : List Lk} {b : List Ad} (hL : (L.map ends15).Nodup) (h : Bs15 L b) {a : Ad} (ha : AdOk a) : Bs15 L (bApply b a).1 := by
  have hd : Dis b := by unfold Dis; rw [h.ends]; exact hL
  have e := bApply_map hd a
  refine ⟨?_, ?_, ?_⟩
  · rw [e, List.map_map, ← h.ends]
    apply List.map_congr_left
    intro x _
    exact slot_ends x a
  · rw [e]
    intro z hz
    obtain ⟨x, hx, rfl⟩ := List.mem_map.1 hz
    unfold slot
    split
    · exact ha
    · exact h.ok x hx
  · rw [e]
    intro z hz
    obtain ⟨x, hx, rfl⟩ := List.mem_map.1 hz
    unfold slot
    split
    · rename_i hc; exact hc.1
    · exact h.vld x hx
theorem bs15_told {L : List Lk} (hL : (L.map ends15).Nodup) : ∀ {l b : List Ad}, Bs15 L b → (∀ a ∈ l, AdOk a) → Bs15 L (told b l)
  | [], _, h, _ => h
  | a :: l, b, h, hl => bs15_told hL (l := l) (bs15_apply hL h (hl a (by simp))) (fun x hx => hl x (by simp [hx]))
theorem Bs15.dis {L : List Lk} {b : List Ad} (hL : (L.map ends15).Nodup) (h : Bs15 L b) : Dis b := by unfold Dis; rw [h.ends]; exact hL
theorem Bs15.length {L : List Lk} {b : List Ad} (h : Bs15 L b) : b.length = L.length := by
  have := congrArg List.length h.ends
  simpa using this
theorem bs15_new {L : List Lk} (h : ∀ x ∈ L, 0 ≤ x.f ∧ x.f < 16 ∧ 0 ≤ x.t ∧ x.t < 16 ∧ x.f ≠ x.t ∧ 1 ≤ x.m ∧ x.m ≤ 65535) (ht : ∀ x ∈ L, 0 ≤ x.c ∧ x.c < 18446744073709551616 ∧ 0 ≤ x.g ∧ x.g < 4294967296) : Bs15 L (bnew L) := by
  refine ⟨?_, ?_, ?_⟩
  · unfold bnew; rw [List.map_map]; rfl
  · intro a ha
    obtain ⟨x, hx, rfl⟩ := List.mem_map.1 ha
    have := ht x hx
    refine ⟨by simp, ?_, this.1, this.2.1, this.2.2.1, this.2.2.2⟩
    intro n hn
    have := List.eq_of_mem_replicate hn
    omega
  · intro a ha
    obtain ⟨x, hx, rfl⟩ := List.mem_map.1 ha
    have h1 := h x hx
    have h2 := ht x hx
    unfold vldA
    rw [Bool.and_eq_true]
    refine ⟨vldH_iff.2 ?_, ?_⟩
    · simp only; omega
    · have := falls_same x.c.toNat 8
      rwa [show ((x.c.toNat : Nat) : Int) = x.c from by omega] at this
/-- A call, once more: nothing new. -/
theorem bApply_again {b : List Ad} (h : Dis b) (a : Ad) (hn : (bApply b a).2.1 = true) : bApply (bApply b a).1 a = ((bApply b a).1, false, 0) := by
  rcases bApply_cases b a with ⟨h1, _⟩ | ⟨k, hk, hp, hv, hend, hq, he⟩
  · rw [h1] at hn; cases hn
  · rw [he]
    show bApply (b.set k a) a = (b.set k a, false, 0)
    have hd : Dis (b.set k a) := by have := bApply_dis h a; rw [he] at this; exact this
    have hp2 : bpl (b.set k a) (ends15 a.k) = some k := by
      refine List.findIdx?_eq_some_iff_getElem.2 ⟨by rw [List.length_set]; exact hk, by simp, ?_⟩
      intro j hj
      have hjl : j < b.length := by omega
      rw [List.getElem_set_ne (by omega)]
      simp only [Bool.not_eq_true, decide_eq_false_iff_not]
      intro e
      have := dis_get h hjl hk (e.trans hend.symm)
      omega
    unfold bApply
    rw [if_pos hv, hp2]
    simp only [List.getD_eq_getElem?_getD]
    rw [List.getElem?_eq_getElem (by rw [List.length_set]; exact hk), List.getElem_set_self, Option.getD_some, if_pos (Int.le_refl _)]
end Go.Proofs.Ytogijfebfffobaa
