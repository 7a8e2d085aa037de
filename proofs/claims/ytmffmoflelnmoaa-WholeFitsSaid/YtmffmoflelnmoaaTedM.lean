/-
  What a node says of links, plain: adverts, which may be, their bytes and back, a base that is told of them. No condition beside what is said.
-/
import Derived.Test.YtmffmoflelnmoaaGraphA
import Derived.Test.YtmffmoflelnmoaaRefB
namespace Go.Proofs.Ytmffmoflelnmoaa
set_option maxRecDepth 100000

/-- What a node says of a link. -/
structure Ad where
  k : Lk
  q : Int
  up : Bool
  f : List Nat
  deriving DecidableEq, Inhabited
/-- Each number is at most the one before. -/
def falls : Int → List Nat → Bool
  | _, [] => true
  | c, x :: t => decide ((x : Int) ≤ c) && falls (x : Int) t
/-- Link and number may be. -/
def vldH (a : Ad) : Bool := decide (0 ≤ a.k.f ∧ a.k.f < 16 ∧ 0 ≤ a.k.t ∧ a.k.t < 16 ∧ a.k.f ≠ a.k.t ∧ 1 ≤ a.k.m ∧ a.k.m ≤ 65535 ∧ 0 ≤ a.q ∧ a.q ≤ 4294967295)
/-- It may be. -/
def vldA (a : Ad) : Bool := vldH a && falls a.k.c a.f
/-- Eight numbers, each as large as its type allows. -/
structure AdOk (a : Ad) : Prop where
  len : a.f.length = 8
  num : ∀ n ∈ a.f, n < 18446744073709551616
  c0 : 0 ≤ a.k.c
  c1 : a.k.c < 18446744073709551616
  g0 : 0 ≤ a.k.g
  g1 : a.k.g < 4294967296
theorem vldH_iff {a : Ad} : vldH a = true ↔ 0 ≤ a.k.f ∧ a.k.f < 16 ∧ 0 ≤ a.k.t ∧ a.k.t < 16 ∧ a.k.f ≠ a.k.t ∧ 1 ≤ a.k.m ∧ a.k.m ≤ 65535 ∧ 0 ≤ a.q ∧ a.q ≤ 4294967295 := by simp [vldH]
theorem falls_same (c : Nat) : ∀ n, falls (c : Int) (List.replicate n c) = true
  | 0 => rfl
  | n + 1 => by simp [List.replicate_succ, falls, falls_same c n]

/-! Bytes: numbers one behind the other, each of a width of its own. -/
def packs (ps : List (Nat × Nat)) : List UInt8 := ps.flatMap fun p => dig p.1 p.2
def cuts : List Nat → List UInt8 → List Nat
  | [], _ => []
  | k :: ks, b => num (b.take k) :: cuts ks (b.drop k)
theorem cuts_length : ∀ (ks : List Nat) (b : List UInt8), (cuts ks b).length = ks.length
  | [], _ => rfl
  | _ :: ks, b => by simp [cuts, cuts_length ks]
theorem cuts_packs : ∀ (ps : List (Nat × Nat)) (r : List UInt8), (∀ p ∈ ps, p.2 < 256 ^ p.1) → cuts (ps.map (·.1)) (packs ps ++ r) = ps.map (·.2)
  | [], _, _ => rfl
  | p :: ps, r, h => by
    have e : packs (p :: ps) = dig p.1 p.2 ++ packs ps := rfl
    have hl := dig_length p.1 p.2
    rw [e, List.map_cons, List.map_cons, cuts, List.append_assoc, List.take_append_of_le_length (by omega), List.take_of_length_le (by omega), num_dig, Nat.mod_eq_of_lt (h p (by simp))]
    rw [show (dig p.1 p.2 ++ (packs ps ++ r)).drop p.1 = packs ps ++ r from by rw [List.drop_append_of_le_length (by omega), List.drop_of_length_le (by omega)]; rfl]
    rw [cuts_packs ps r fun q hq => h q (by simp [hq])]
theorem num15_from (l : List UInt8) : ∀ u : Nat, l.foldl (fun u x => u * 256 + x.toNat) u = u * 256 ^ l.length + num l := by
  induction l with
  | nil => intro u; simp [num]
  | cons x l ih =>
    intro u
    have h1 := ih (u * 256 + x.toNat)
    have h2 : num (x :: l) = x.toNat * 256 ^ l.length + num l := by
      have := ih x.toNat
      simpa [num] using this
    rw [List.foldl_cons, h1, h2, List.length_cons, Nat.pow_succ, Nat.add_mul, Nat.mul_assoc, Nat.mul_comm 256, Nat.add_assoc]
theorem num15_cons (x : UInt8) (l : List UInt8) : num (x :: l) = x.toNat * 256 ^ l.length + num l := by
  have := num15_from l x.toNat
  simpa [num] using this
theorem dig15_of (l : List UInt8) : ∀ u : Nat, u % 256 ^ l.length = num l → dig l.length u = l := by
  induction l with
  | nil => intro u _; rfl
  | cons x l ih =>
    intro u hu
    rw [List.length_cons, Nat.pow_succ, Nat.mod_mul, num15_cons] at hu
    have hl := num_lt l
    have hP : 0 < 256 ^ l.length := Nat.pow_pos (by omega)
    have hr := Nat.mod_lt u hP
    have hd := congrArg (· / 256 ^ l.length) hu
    simp only [Nat.add_mul_div_left _ _ hP, Nat.div_eq_of_lt hr, Nat.zero_add] at hd
    rw [Nat.mul_comm, Nat.mul_add_div hP, Nat.div_eq_of_lt hl, Nat.add_zero] at hd
    have hm : u % 256 ^ l.length = num l := by rw [hd, Nat.mul_comm] at hu; omega
    simp only [List.length_cons, dig, ih u hm]
    congr 1
    apply UInt8.toNat_inj.1
    rw [UInt8.toNat_ofNat', ← hd]
theorem dig15_num {l : List UInt8} {n : Nat} (h : l.length = n) : dig n (num l) = l := by
  have := dig15_of l (num l) (Nat.mod_eq_of_lt (num_lt l))
  rwa [h] at this
theorem packs_cuts : ∀ (ks : List Nat) (b : List UInt8), b.length = ks.sum → packs (ks.zip (cuts ks b)) = b
  | [], b, h => by
    rw [List.sum_nil] at h
    rw [List.eq_nil_of_length_eq_zero h]; rfl
  | k :: ks, b, h => by
    rw [List.sum_cons] at h
    have e : packs ((k :: ks).zip (cuts (k :: ks) b)) = dig k (num (b.take k)) ++ packs (ks.zip (cuts ks (b.drop k))) := rfl
    rw [e, packs_cuts ks (b.drop k) (by rw [List.length_drop]; omega), dig15_num (by rw [List.length_take]; omega), List.take_append_drop]

/-- How wide each number is. -/
def wid15 : List Nat := [1, 1, 1, 1, 4, 8, 4, 4, 8, 8, 8, 8, 8, 8, 8, 8]
def bnum (x : Bool) : Nat := if x = true then 1 else 0
/-- An advert's numbers. -/
def nums15 (a : Ad) : List Nat := a.k.f.toNat :: a.k.t.toNat :: bnum a.up :: 0 :: a.q.toNat :: a.k.c.toNat :: a.k.m.toNat :: a.k.g.toNat :: a.f
/-- What numbers say. -/
def ofV : List Nat → Ad
  | f :: t :: u :: _ :: q :: c :: m :: g :: l => ⟨⟨(f : Int), (t : Int), (c : Int), (m : Int), (g : Int)⟩, (q : Int), u == 1, l⟩
  | _ => default
def adB (a : Ad) : List UInt8 := packs (wid15.zip (nums15 a))
def gsA (b : List UInt8) : Ad := ofV (cuts wid15 b)
theorem list_eight {l : List Nat} (h : l.length = 8) : ∃ a b c d e f g i, l = [a, b, c, d, e, f, g, i] := by
  rcases l with _ | ⟨a, _ | ⟨b, _ | ⟨c, _ | ⟨d, _ | ⟨e, _ | ⟨f, _ | ⟨g, _ | ⟨i, _ | ⟨j, l⟩⟩⟩⟩⟩⟩⟩⟩⟩ <;> simp at h
  exact ⟨a, b, c, d, e, f, g, i, rfl⟩
theorem adB_length {a : Ad} (h : AdOk a) : (adB a).length = 88 := by
  obtain ⟨f1, f2, f3, f4, f5, f6, f7, f8, hf⟩ := list_eight h.len
  simp [adB, packs, wid15, nums15, hf, dig_length]
theorem ofV_nums {a : Ad} (h : AdOk a) (hv : vldA a = true) : ofV (nums15 a) = a := by
  obtain ⟨⟨f, t, c, m, g⟩, q, up, l⟩ := a
  simp only [vldA, Bool.and_eq_true] at hv
  have hv := vldH_iff.1 hv.1
  have h0 := h.c0
  have h1 := h.g0
  simp only at hv h0 h1
  simp only [nums15, ofV]
  have e1 : ((f.toNat : Nat) : Int) = f := by omega
  have e2 : ((t.toNat : Nat) : Int) = t := by omega
  have e3 : ((c.toNat : Nat) : Int) = c := by omega
  have e4 : ((m.toNat : Nat) : Int) = m := by omega
  have e5 : ((g.toNat : Nat) : Int) = g := by omega
  have e6 : ((q.toNat : Nat) : Int) = q := by omega
  rw [e1, e2, e3, e4, e5, e6]
  cases up <;> rfl
theorem gsA_adB {a : Ad} (h : AdOk a) (hv : vldA a = true) (r : List UInt8) : gsA (adB a ++ r) = a := by
  have hvv := hv
  simp only [vldA, Bool.and_eq_true] at hvv
  have hv2 := vldH_iff.1 hvv.1
  obtain ⟨f1, f2, f3, f4, f5, f6, f7, f8, hf⟩ := list_eight h.len
  have hn := h.num
  have e : (wid15.zip (nums15 a)).map (·.1) = wid15 := by simp [wid15, nums15, hf]
  have e2 : (wid15.zip (nums15 a)).map (·.2) = nums15 a := by simp [wid15, nums15, hf]
  have hc := cuts_packs (wid15.zip (nums15 a)) r (by
    have h1 := h.c1; have h2 := h.g1; have h3 := h.c0; have h4 := h.g0
    have hb : bnum a.up < 256 := by cases a.up <;> decide
    rw [hf] at hn
    simp only [List.mem_cons, List.not_mem_nil, or_false, forall_eq_or_imp, forall_eq] at hn
    simp only [wid15, nums15, hf, List.zip_cons_cons, List.zip_nil_right, List.mem_cons, List.not_mem_nil, or_false, forall_eq_or_imp, forall_eq]
    refine ⟨?_, ?_, ?_, ?_, ?_, ?_, ?_, ?_, ?_, ?_, ?_, ?_, ?_, ?_, ?_, ?_⟩ <;> simp only [Nat.reducePow] <;> omega)
  rw [e, e2] at hc
  unfold gsA adB
  rw [hc, ofV_nums h hv]
theorem cuts15 (b : List UInt8) : ∃ v0 v1 v2 v3 v4 v5 v6 v7 l, cuts wid15 b = v0 :: v1 :: v2 :: v3 :: v4 :: v5 :: v6 :: v7 :: l ∧ l.length = 8 := by
  refine ⟨_, _, _, _, _, _, _, _, _, rfl, rfl⟩
/-- What bytes say gives them back just if they say no more than it does. -/
theorem adB_gsA {b : List UInt8} (hl : b.length = 88) : adB (gsA b) = b ↔ num ((b.drop 2).take 1) ≤ 1 ∧ num ((b.drop 3).take 1) = 0 := by
  have hp := packs_cuts wid15 b (by rw [hl]; rfl)
  obtain ⟨v0, v1, v2, v3, v4, v5, v6, v7, l, e, h8⟩ := cuts15 b
  have e2 : num ((b.drop 2).take 1) = v2 := by
    have : (cuts wid15 b)[2]? = some v2 := by rw [e]; rfl
    simpa [cuts, wid15, List.drop_drop] using this
  have e3 : num ((b.drop 3).take 1) = v3 := by
    have : (cuts wid15 b)[3]? = some v3 := by rw [e]; rfl
    simpa [cuts, wid15, List.drop_drop] using this
  have l2 := num_lt ((b.drop 2).take 1)
  have l3 := num_lt ((b.drop 3).take 1)
  have hb2 : 256 ^ ((b.drop 2).take 1).length = 256 := by rw [List.length_take, List.length_drop, hl]; rfl
  have hb3 : 256 ^ ((b.drop 3).take 1).length = 256 := by rw [List.length_take, List.length_drop, hl]; rfl
  rw [hb2] at l2
  rw [hb3] at l3
  rw [e2, e3] at *
  have en : nums15 (gsA b) = v0 :: v1 :: bnum (v2 == 1) :: 0 :: v4 :: v5 :: v6 :: v7 :: l := by simp [gsA, e, ofV, nums15]
  constructor
  · intro h
    have hq := congrArg (cuts wid15) h
    obtain ⟨f1, f2, f3, f4, f5, f6, f7, f8, hf⟩ := list_eight h8
    have hc := cuts_packs [(1, v0), (1, v1), (1, bnum (v2 == 1))] (dig 1 0 ++ packs ([4, 8, 4, 4, 8, 8, 8, 8, 8, 8, 8, 8].zip (v4 :: v5 :: v6 :: v7 :: l))) (by
      have hb : bnum (v2 == 1) < 256 := by cases (v2 == 1) <;> decide
      have a0 : v0 < 256 := by
        have : (cuts wid15 b)[0]? = some v0 := by rw [e]; rfl
        have h9 : num (b.take 1) = v0 := by simpa [cuts, wid15] using this
        have := num_lt (b.take 1)
        rw [List.length_take, hl, h9] at this
        simpa using this
      have a1 : v1 < 256 := by
        have : (cuts wid15 b)[1]? = some v1 := by rw [e]; rfl
        have h9 : num ((b.drop 1).take 1) = v1 := by simpa [cuts, wid15] using this
        have := num_lt ((b.drop 1).take 1)
        rw [List.length_take, List.length_drop, hl, h9] at this
        simpa using this
      simp only [List.mem_cons, List.not_mem_nil, or_false, forall_eq_or_imp, forall_eq, Nat.pow_one]
      exact ⟨a0, a1, hb⟩)
    have hs : adB (gsA b) = packs [(1, v0), (1, v1), (1, bnum (v2 == 1))] ++ (dig 1 0 ++ packs ([4, 8, 4, 4, 8, 8, 8, 8, 8, 8, 8, 8].zip (v4 :: v5 :: v6 :: v7 :: l))) := by
      unfold adB
      rw [en]
      simp [packs, wid15, List.append_assoc]
    rw [hs, e] at hq
    have h2 := congrArg (·[2]?) hq
    have h3 := congrArg (·[3]?) hq
    have t2 : (cuts [1, 1, 1] (packs [(1, v0), (1, v1), (1, bnum (v2 == 1))] ++ (dig 1 0 ++ packs ([4, 8, 4, 4, 8, 8, 8, 8, 8, 8, 8, 8].zip (v4 :: v5 :: v6 :: v7 :: l)))))[2]? = some (bnum (v2 == 1)) := by
      rw [show ([1, 1, 1] : List Nat) = [(1, v0), (1, v1), (1, bnum (v2 == 1))].map (·.1) from rfl, hc]; rfl
    have k3 : dig 1 0 = [0] := rfl
    simp only [cuts, wid15, packs, dig, List.flatMap_cons, List.flatMap_nil, List.append_nil, List.cons_append, List.nil_append, List.take, List.drop, List.getElem?_cons_succ, List.getElem?_cons_zero, Option.some.injEq] at h2 h3 t2
    have k0 : num [UInt8.ofNat (0 / 256 ^ 0)] = 0 := rfl
    refine ⟨?_, ?_⟩
    · rw [← h2, t2]; cases (v2 == 1) <;> decide
    · rw [← h3]; rfl
  · rintro ⟨h2, h3⟩
    unfold adB
    rw [en]
    have : bnum (v2 == 1) = v2 := by
      rcases (show v2 = 0 ∨ v2 = 1 by omega) with rfl | rfl <;> rfl
    rw [this]
    rw [e, h3] at hp
    exact hp
end Go.Proofs.Ytmffmoflelnmoaa
