/-
  Label stacks and their bytes, as lists: what is encoded, what is decoded, and that each gives the other back. No condition beside what is said.
-/
import Derived.Test.YtkbbnfinmipenaaShimA
import Derived.Test.YtkbbnfinmipenaaRefB
import Derived.Test.YtkbbnfinmipenaaRow
namespace Go.Proofs.Ytkbbnfinmipenaa
open Go.RowKit

/-- An entry's cells. -/
def ec (e : Int × Int × Int) : List Value := [.int .i64 e.1, .int .i64 e.2.1, .int .i64 e.2.2]
theorem ec_length (e : Int × Int × Int) : (ec e).length = 3 := rfl
theorem ec_one (e : Int × Int × Int) : ∀ u ∈ ec e, u.oneCell' = true := by
  intro u hu
  simp [ec] at hu
  rcases hu with rfl | rfl | rfl <;> rfl
def mE (e : Int × Int × Int) : Bool := may e.1 e.2.1 e.2.2
def nE (e : Int × Int × Int) (last : Bool) : Nat := (encI e.1 e.2.1 e.2.2 last).toNat
/-- The bytes of the entry at place 'j' of a stack of 'n'. -/
def eAt (n j : Nat) (e : Int × Int × Int) : List UInt8 := dig 4 (nE e (decide (j + 1 = n)))
def encs (n : Nat) : Nat → List (Int × Int × Int) → List UInt8
  | _, [] => []
  | j, e :: r => eAt n j e ++ encs n (j + 1) r
def encL (es : List (Int × Int × Int)) : List UInt8 := encs es.length 0 es
theorem eAt_length (n j : Nat) (e : Int × Int × Int) : (eAt n j e).length = 4 := dig_length _ _
theorem encs_snoc (n : Nat) (e : Int × Int × Int) : ∀ (l : List (Int × Int × Int)) (j : Nat), encs n j (l ++ [e]) = encs n j l ++ eAt n (j + l.length) e
  | [], j => by simp [encs]
  | x :: l, j => by
    have h := encs_snoc n e l (j + 1)
    have e1 : j + 1 + l.length = j + (l.length + 1) := by omega
    simp only [List.cons_append, encs, h, List.length_cons, List.append_assoc, e1]
theorem encs_length (n : Nat) : ∀ (l : List (Int × Int × Int)) (j : Nat), (encs n j l).length = 4 * l.length
  | [], _ => rfl
  | x :: l, j => by simp only [encs, List.length_append, eAt_length, encs_length n l (j + 1), List.length_cons]; omega
theorem encL_length (l : List (Int × Int × Int)) : (encL l).length = 4 * l.length := encs_length _ _ _
theorem encs_at (n : Nat) (t : List UInt8) : ∀ (l : List (Int × Int × Int)) (j i : Nat) (hi : i < l.length), ((encs n j l ++ t).drop (4 * i)).take 4 = eAt n (j + i) l[i]
  | x :: l, j, 0, _ => by
    simp only [encs, List.append_assoc, Nat.mul_zero, List.drop_zero, Nat.add_zero]
    rw [List.take_append_of_le_length (by rw [eAt_length]; omega), List.take_of_length_le (by rw [eAt_length]; omega)]; rfl
  | x :: l, j, i + 1, hi => by
    have hi' : i < l.length := by simpa using hi
    have e1 : 4 * (i + 1) = (eAt n j x).length + 4 * i := by rw [eAt_length]; omega
    have e2 : j + (i + 1) = j + 1 + i := by omega
    simp only [encs, List.append_assoc]
    rw [e1, List.drop_append, e2]
    simp only [Nat.add_sub_cancel_left, List.drop_eq_nil_of_le (Nat.le_add_right _ _), List.nil_append]
    exact encs_at n t l (j + 1) i hi'

def entI (u : Nat) : Int × Int × Int := (((u / 4096 : Nat) : Int), ((u % 4096 / 512 : Nat) : Int), ((u % 256 : Nat) : Int))
def lastI (u : Nat) : Bool := decide (256 ≤ u % 512)
def wordAt (b : List UInt8) (j : Nat) : Nat := num ((b.drop (4 * j)).take 4)

theorem nE_eq {e : Int × Int × Int} (h : mE e = true) (last : Bool) : ((nE e last : Nat) : Int) = encI e.1 e.2.1 e.2.2 last ∧ nE e last < 4294967296 := by
  have hm := may_yes h
  unfold nE encI
  cases last <;> simp <;> omega
theorem ent_enc {e : Int × Int × Int} (h : mE e = true) (last : Bool) : entI (nE e last) = e ∧ lastI (nE e last) = last := by
  have hm := may_yes h
  obtain ⟨x, y, z⟩ := e
  have he := (nE_eq h last).1
  simp only at hm he
  generalize nE (x, y, z) last = u at *
  unfold encI at he
  cases last
  · simp only [Bool.false_eq_true, if_false] at he
    refine ⟨?_, decide_eq_false (by omega)⟩
    unfold entI
    refine Prod.ext ?_ (Prod.ext ?_ ?_) <;> simp only <;> omega
  · simp only [if_true] at he
    refine ⟨?_, decide_eq_true (by omega)⟩
    unfold entI
    refine Prod.ext ?_ (Prod.ext ?_ ?_) <;> simp only <;> omega
theorem enc_ent {u : Nat} (h : u < 4294967296) : mE (entI u) = true ∧ nE (entI u) (lastI u) = u := by
  refine ⟨?_, ?_⟩
  · unfold mE entI may
    rw [wi_yes (by omega) (by simp only; omega), wi_yes (by simp only; omega) (by simp only; omega), wi_yes (by simp only; omega) (by simp only; omega)]; rfl
  · unfold nE encI entI lastI
    by_cases hl : 256 ≤ u % 512
    · simp only [hl, decide_true, if_true]; omega
    · simp only [hl, decide_false, Bool.false_eq_true, if_false]; omega

theorem num_from (l : List UInt8) : ∀ s : Nat, l.foldl (fun v x => v * 256 + x.toNat) s = s * 256 ^ l.length + num l := by
  induction l with
  | nil => intro s; simp [num]
  | cons x l ih =>
    intro s
    have h1 := ih (s * 256 + x.toNat)
    have h2 : num (x :: l) = x.toNat * 256 ^ l.length + num l := by
      have := ih x.toNat
      simpa [num] using this
    rw [List.foldl_cons, h1, h2, List.length_cons, Nat.pow_succ, Nat.add_mul, Nat.mul_assoc, Nat.mul_comm 256, Nat.add_assoc]
theorem num_cons (x : UInt8) (l : List UInt8) : num (x :: l) = x.toNat * 256 ^ l.length + num l := by
  have := num_from l x.toNat
  simpa [num] using this
theorem dig_of (l : List UInt8) : ∀ u : Nat, u % 256 ^ l.length = num l → dig l.length u = l := by
  induction l with
  | nil => intro u _; rfl
  | cons x l ih =>
    intro u hu
    rw [List.length_cons, Nat.pow_succ, Nat.mod_mul, num_cons] at hu
    have hl := num_lt l
    have hP : 0 < 256 ^ l.length := Nat.pow_pos (by omega)
    have hr := Nat.mod_lt u hP
    have hd := congrArg (· / 256 ^ l.length) hu
    simp only [Nat.add_mul_div_left _ _ hP, Nat.div_eq_of_lt hr, Nat.zero_add] at hd
    rw [Nat.mul_comm, Nat.mul_add_div hP, Nat.div_eq_of_lt hl, Nat.add_zero] at hd
    have hm : u % 256 ^ l.length = num l := by rw [hd, Nat.mul_comm] at hu; omega
    simp only [List.length_cons, dig, ih u hm]
    congr 1
    apply UInt8.toNat_inj.1
    rw [UInt8.toNat_ofNat', ← hd]
theorem dig_num4 (l : List UInt8) (h : l.length = 4) : dig 4 (num l) = l := by
  have := dig_of l (num l) (Nat.mod_eq_of_lt (num_lt l))
  rwa [h] at this
theorem wordAt_lt (b : List UInt8) (j : Nat) : wordAt b j < 4294967296 := by
  have h := num_lt ((b.drop (4 * j)).take 4)
  have h2 : 256 ^ ((b.drop (4 * j)).take 4).length ≤ 256 ^ 4 := Nat.pow_le_pow_right (by omega) (by simp; omega)
  unfold wordAt; omega

/-- How many entries are decoded, and what is wrong. -/
def dec (b : List UInt8) : Nat → Nat → Nat × Int
  | 0, _ => (0, 3)
  | k + 1, j => if b.length < 4 * j + 4 then (0, 4) else if lastI (wordAt b j) = true then (j + 1, 0) else dec b k (j + 1)
/-- The stack of the first 'm' entries. -/
def stk (b : List UInt8) (m : Nat) : List (Int × Int × Int) := (List.range m).map fun i => entI (wordAt b i)
theorem stk_length (b : List UInt8) (m : Nat) : (stk b m).length = m := by simp [stk]
theorem stk_snoc (b : List UInt8) (m : Nat) : stk b (m + 1) = stk b m ++ [entI (wordAt b m)] := by simp [stk, List.range_succ]
theorem dec_ok (b : List UInt8) : ∀ (k j m : Nat), dec b k j = (m, 0) → j < m ∧ m ≤ j + k ∧ 4 * m ≤ b.length ∧ ∀ i, j ≤ i → i < m → lastI (wordAt b i) = decide (i + 1 = m)
  | 0, j, m, h => by simp [dec] at h
  | k + 1, j, m, h => by
    unfold dec at h
    by_cases h1 : b.length < 4 * j + 4
    · rw [if_pos h1] at h; simp at h
    · rw [if_neg h1] at h
      by_cases h2 : lastI (wordAt b j) = true
      · rw [if_pos h2] at h
        obtain rfl : j + 1 = m := by simpa using h
        refine ⟨by omega, by omega, by omega, fun i hi1 hi2 => ?_⟩
        obtain rfl : i = j := by omega
        simp [h2]
      · rw [if_neg h2] at h
        obtain ⟨a1, a2, a3, a4⟩ := dec_ok b k (j + 1) m h
        refine ⟨by omega, by omega, a3, fun i hi1 hi2 => ?_⟩
        by_cases hij : i = j
        · subst hij
          rw [decide_eq_false (by omega)]
          simpa using h2
        · exact a4 i (by omega) hi2
theorem dec_of (b : List UInt8) (m : Nat) (hb : 4 * m ≤ b.length) : ∀ (k j : Nat), j < m → m ≤ j + k → (∀ i, j ≤ i → i < m → lastI (wordAt b i) = decide (i + 1 = m)) → dec b k j = (m, 0)
  | 0, j, h1, h2, _ => by omega
  | k + 1, j, h1, h2, h => by
    unfold dec
    rw [if_neg (by omega)]
    by_cases hj : j + 1 = m
    · rw [if_pos (by rw [h j (Nat.le_refl _) h1]; simp [hj]), hj]
    · rw [if_neg (by rw [h j (Nat.le_refl _) h1]; simp [hj])]
      exact dec_of b m hb k (j + 1) (by omega) (by omega) (fun i hi1 hi2 => h i (by omega) hi2)
theorem dec_no (b : List UInt8) : ∀ (k j : Nat), (dec b k j).2 ≠ 0 → (dec b k j).1 = 0
  | 0, j, _ => rfl
  | k + 1, j, h => by
    unfold dec at h ⊢
    by_cases h1 : b.length < 4 * j + 4
    · rw [if_pos h1]
    · rw [if_neg h1] at h ⊢
      by_cases h2 : lastI (wordAt b j) = true
      · rw [if_pos h2] at h; exact absurd rfl h
      · rw [if_neg h2] at h ⊢; exact dec_no b k (j + 1) h

/-- A stack comes back from its bytes. -/
theorem dec_enc (es : List (Int × Int × Int)) (t : List UInt8) (h0 : 0 < es.length) (h8 : es.length ≤ 8) (hm : ∀ e ∈ es, mE e = true) :
    dec (encL es ++ t) 8 0 = (es.length, 0) ∧ stk (encL es ++ t) es.length = es ∧ (encL es ++ t).drop (4 * es.length) = t := by
  have hw : ∀ (i : Nat) (hi : i < es.length), wordAt (encL es ++ t) i = nE es[i] (decide (i + 1 = es.length)) := by
    intro i hi
    have hl := (nE_eq (hm es[i] (List.getElem_mem hi)) (decide (i + 1 = es.length))).2
    unfold wordAt
    have h1 := encs_at es.length t es 0 i hi
    rw [Nat.zero_add] at h1
    rw [show encL es = encs es.length 0 es from rfl, h1, eAt, num_dig, Nat.mod_eq_of_lt (by omega)]
  refine ⟨dec_of _ _ (by rw [List.length_append, encL_length]; omega) 8 0 h0 (by omega) fun i _ hi => ?_, ?_, ?_⟩
  · rw [hw i hi]; exact (ent_enc (hm es[i] (List.getElem_mem hi)) _).2
  · apply List.ext_getElem (by rw [stk_length])
    intro i h1 h2
    simp only [stk, List.getElem_map, List.getElem_range]
    rw [hw i h2]; exact (ent_enc (hm es[i] (List.getElem_mem h2)) _).1
  · rw [← encL_length es, List.drop_left]
/-- Bytes that tell a stack are its own. -/
theorem enc_dec (b : List UInt8) (m : Nat) (h : dec b 8 0 = (m, 0)) : (∀ e ∈ stk b m, mE e = true) ∧ encL (stk b m) = b.take (4 * m) := by
  obtain ⟨h1, h2, h3, h4⟩ := dec_ok b 8 0 m h
  refine ⟨fun e he => ?_, ?_⟩
  · obtain ⟨i, _, rfl⟩ := List.mem_map.1 he
    exact (enc_ent (wordAt_lt b i)).1
  · have key : ∀ j, j ≤ m → encs m 0 (stk b j) = b.take (4 * j) := by
      intro j
      induction j with
      | zero => intro _; simp [stk, encs]
      | succ j ih =>
        intro hj
        rw [stk_snoc, encs_snoc, ih (by omega), stk_length, Nat.zero_add]
        have e1 : eAt m j (entI (wordAt b j)) = (b.drop (4 * j)).take 4 := by
          unfold eAt
          rw [← h4 j (Nat.zero_le _) (by omega), (enc_ent (wordAt_lt b j)).2]
          have hlen : ((b.drop (4 * j)).take 4).length = 4 := by simp; omega
          exact dig_num4 _ hlen
        rw [e1, show 4 * (j + 1) = 4 * j + 4 by omega, List.take_add]
    have := key m (Nat.le_refl _)
    unfold encL; rw [stk_length]; exact this
end Go.Proofs.Ytkbbnfinmipenaa
