/-
  Items and their bytes, as lists: what is written, what is read, and that each gives the other back. No condition beside what is said.
-/
import Derived.Test.YtocogdcecnnnnaaBodyD
import Derived.Test.YtocogdcecnnnnaaBodyE
import Derived.Test.YtocogdcecnnnnaaRefB
namespace Go.Proofs.Ytocogdcecnnnnaa
open Go.RowKit

theorem dig_mod (k : Nat) : ∀ a r : Nat, dig k (a * 256 ^ k + r) = dig k r := by
  induction k with
  | zero => intro a r; rfl
  | succ k ih =>
    intro a r
    have e : a * 256 ^ (k + 1) + r = (a * 256) * 256 ^ k + r := by rw [Nat.pow_succ, Nat.mul_assoc, Nat.mul_comm (256 ^ k)]
    have hp : 0 < 256 ^ k := Nat.pow_pos (by omega)
    simp only [dig]
    rw [e, ih, Nat.add_comm (a * 256 * 256 ^ k), Nat.add_mul_div_right _ _ hp]
    congr 1
    apply UInt8.toNat_inj.1
    rw [UInt8.toNat_ofNat', UInt8.toNat_ofNat']
    omega
theorem num_cons (x : UInt8) (l : List UInt8) : num (x :: l) = x.toNat * 256 ^ l.length + num l := by
  have h : ∀ (l : List UInt8) (s : Nat), l.foldl (fun u x => u * 256 + x.toNat) s = s * 256 ^ l.length + num l := by
    intro l
    induction l with
    | nil => intro s; simp [num]
    | cons y l ih =>
      intro s
      rw [List.foldl_cons, ih, show num (y :: l) = l.foldl (fun u x => u * 256 + x.toNat) (0 * 256 + y.toNat) from rfl, ih, List.length_cons, Nat.pow_succ, Nat.add_mul, Nat.mul_assoc, Nat.mul_comm 256]
      simp
      omega
  rw [show num (x :: l) = l.foldl (fun u x => u * 256 + x.toNat) (0 * 256 + x.toNat) from rfl, h]
  simp
theorem dig_num (l : List UInt8) : dig l.length (num l) = l := by
  induction l with
  | nil => rfl
  | cons x l ih =>
    have hp : 0 < 256 ^ l.length := Nat.pow_pos (by omega)
    have hl := num_lt l
    rw [num_cons, List.length_cons]
    simp only [dig]
    rw [dig_mod, ih, Nat.add_comm, Nat.add_mul_div_right _ _ hp, Nat.div_eq_of_lt hl]
    simp
theorem dig_split (j k : Nat) : ∀ (a b : Nat), b < 256 ^ k → dig (j + k) (a * 256 ^ k + b) = dig j a ++ dig k b := by
  induction j with
  | zero => intro a b h; rw [Nat.zero_add, dig_mod]; rfl
  | succ j ih =>
    intro a b h
    have hp : 0 < 256 ^ k := Nat.pow_pos (by omega)
    rw [show j + 1 + k = (j + k) + 1 by omega]
    simp only [dig]
    rw [ih a b h, Nat.pow_add, Nat.mul_comm (256 ^ j), ← Nat.div_div_eq_div_mul, Nat.add_comm (a * 256 ^ k), Nat.add_mul_div_right _ _ hp, Nat.div_eq_of_lt h]
    simp

/-- One number that is asked for: of 'k' bytes, from 'lo' to 'hi', 'u' if it is written. -/
structure Rq where
  k : Nat
  lo : Nat
  hi : Nat
  u : Nat
def Rq.ok (q : Rq) : Prop := q.u < 256 ^ q.k ∧ q.lo ≤ q.u ∧ q.u ≤ q.hi
def Rq.wide (q : Rq) : Prop := 1 ≤ q.k ∧ q.k ≤ 8
def Rq.frm (q : Rq) : Nat × Nat × Nat := (q.k, q.lo, q.hi)
/-- All of them, one behind the other. -/
def DSt.run : List Rq → DSt → List Nat × DSt
  | [], σ => ([], σ)
  | q :: qs, σ => ((σ.num q.k q.lo q.hi q.u).1 :: (DSt.run qs (σ.num q.k q.lo q.hi q.u).2).1, (DSt.run qs (σ.num q.k q.lo q.hi q.u).2).2)
def rqL (qs : List Rq) : List UInt8 := qs.flatMap fun q => dig q.k q.u
def uus (qs : List Rq) : List Nat := qs.map Rq.u
def DSt.bad : DSt → Bool
  | .wr _ b => b
  | .rd _ _ _ b => b
def DSt.byt : DSt → List UInt8
  | .wr b _ => b
  | .rd .. => []

theorem run_wr : ∀ (qs : List Rq) (b : List UInt8), (∀ q ∈ qs, q.ok) → DSt.run qs (.wr b false) = (uus qs, .wr (b ++ rqL qs) false)
  | [], b, _ => by simp [DSt.run, uus, rqL]
  | q :: qs, b, h => by
    have h0 : q.u < 256 ^ q.k ∧ q.lo ≤ q.u ∧ q.u ≤ q.hi := h q (List.mem_cons_self ..)
    have ih := run_wr qs (b ++ dig q.k q.u) (fun x hx => h x (List.mem_cons_of_mem _ hx))
    simp only [DSt.run, DSt.num, if_pos h0, ih]
    simp [uus, rqL]
theorem run_wr_bad : ∀ (qs : List Rq) (b : List UInt8) (bad : Bool), ∃ b' bad', (DSt.run qs (.wr b bad)).2 = .wr b' bad' ∧ (bad' = false → bad = false ∧ ∀ q ∈ qs, q.ok)
  | [], b, bad => ⟨b, bad, rfl, fun h => ⟨h, by simp⟩⟩
  | q :: qs, b, bad => by
    by_cases h0 : q.u < 256 ^ q.k ∧ q.lo ≤ q.u ∧ q.u ≤ q.hi
    · obtain ⟨b', bad', e, h⟩ := run_wr_bad qs (b ++ dig q.k q.u) bad
      refine ⟨b', bad', by simp only [DSt.run, DSt.num, if_pos h0, e], fun hb => ⟨(h hb).1, ?_⟩⟩
      intro x hx
      rcases List.mem_cons.1 hx with rfl | hx
      · exact h0
      · exact (h hb).2 x hx
    · obtain ⟨b', bad', e, h⟩ := run_wr_bad qs b true
      exact ⟨b', bad', by simp only [DSt.run, DSt.num, if_neg h0, e], fun hb => by have := (h hb).1; simp at this⟩

theorem uErr_ok {l : List UInt8} {i k : Nat} (h1 : 1 ≤ k) (h8 : k ≤ 8) (hk : i + k ≤ l.length) : uErr l i 0 k = 0 := by
  have hw : wid (k : Int) = true := by simp [wid]; omega
  simp only [uErr, errOf, hw, if_true]
  rw [if_neg (by omega)]
theorem uErr_zero {l : List UInt8} {i k : Nat} {err : Int} (h : uErr l i err k = 0) : err = 0 ∧ i + k ≤ l.length := by
  obtain ⟨h1, _, h3⟩ := errOf_zero h
  exact ⟨h1, by omega⟩
theorem uPos_le {l : List UInt8} {i k : Nat} {err : Int} (hi : i ≤ l.length) : uPos l i err k ≤ l.length := by
  unfold uPos
  split
  · rename_i h; have := uErr_zero h; simp; omega
  · exact hi

theorem run_rd : ∀ (qs qs' : List Rq) (pre : List UInt8), (∀ q ∈ qs, q.ok ∧ q.wide) → qs'.map Rq.frm = qs.map Rq.frm → DSt.run qs' (.rd (pre ++ rqL qs) pre.length 0 false) = (uus qs, .rd (pre ++ rqL qs) (pre ++ rqL qs).length 0 false)
  | [], [], pre, _, _ => by simp [DSt.run, uus, rqL]
  | [], _ :: _, pre, _, h => by simp at h
  | _ :: _, [], pre, _, h => by simp at h
  | q :: qs, q' :: qs', pre, h, hf => by
    simp only [List.map_cons, List.cons.injEq] at hf
    obtain ⟨hq, hf⟩ := hf
    have ih := run_rd qs qs' (pre ++ dig q.k q.u) (fun x hx => h x (List.mem_cons_of_mem _ hx)) hf
    obtain ⟨⟨o1, o2, o3⟩, w1, w8⟩ := h q (List.mem_cons_self ..)
    simp only [Rq.frm, Prod.mk.injEq] at hq
    obtain ⟨e1, e2, e3⟩ := hq
    have el : pre ++ rqL (q :: qs) = (pre ++ dig q.k q.u) ++ rqL qs := by simp [rqL]
    have hlen : pre.length + q.k ≤ ((pre ++ dig q.k q.u) ++ rqL qs).length := by simp [dig_length]
    have hz := uErr_ok (l := (pre ++ dig q.k q.u) ++ rqL qs) (i := pre.length) w1 w8 hlen
    have hp : uPos ((pre ++ dig q.k q.u) ++ rqL qs) pre.length 0 q.k = (pre ++ dig q.k q.u).length := by simp only [uPos, if_pos hz]; simp [dig_length]
    have hv : uVal ((pre ++ dig q.k q.u) ++ rqL qs) pre.length 0 q.k = q.u := by
      simp only [uVal, if_pos hz]
      rw [List.append_assoc, List.drop_left, Int.toNat_natCast, List.take_append_of_le_length (by rw [dig_length]; exact Nat.le_refl _), List.take_of_length_le (by rw [dig_length]; exact Nat.le_refl _), num_dig, Nat.mod_eq_of_lt o1]
    rw [el]
    simp only [DSt.run, DSt.num, e1, e2, e3]
    rw [hv, if_pos ⟨o2, o3⟩, hp, hz]
    simp only [ih]
    simp [uus]
theorem run_rd_inv : ∀ (qs : List Rq) (l : List UInt8) (i : Nat) (err : Int) (bad : Bool), i ≤ l.length →
    ∃ i' err' bad', (DSt.run qs (.rd l i err bad)).2 = .rd l i' err' bad' ∧ i' ≤ l.length ∧ (err' = 0 → bad' = false → i' = l.length → err = 0 ∧ bad = false ∧
      ∃ qs', qs'.map Rq.frm = qs.map Rq.frm ∧ uus qs' = (DSt.run qs (.rd l i err bad)).1 ∧ (∀ q ∈ qs', q.ok) ∧ l.drop i = rqL qs')
  | [], l, i, err, bad, hi => ⟨i, err, bad, rfl, hi, fun h1 h2 h3 => ⟨h1, h2, [], rfl, rfl, by simp, by rw [h3]; simp [rqL]⟩⟩
  | q :: qs, l, i, err, bad, hi => by
    have hpl : uPos l i err q.k ≤ l.length := uPos_le hi
    by_cases h0 : q.lo ≤ uVal l i err q.k ∧ uVal l i err q.k ≤ q.hi
    · obtain ⟨i', err', bad', e, hi', h⟩ := run_rd_inv qs l (uPos l i err q.k) (uErr l i err q.k) bad hpl
      refine ⟨i', err', bad', by simp only [DSt.run, DSt.num, if_pos h0, e], hi', fun h1 h2 h3 => ?_⟩
      obtain ⟨z1, z2, qs', f1, f2, f3, f4⟩ := h h1 h2 h3
      obtain ⟨y1, y2⟩ := uErr_zero z1
      have hv : uVal l i err q.k = num ((l.drop i).take q.k) := by simp only [uVal, if_pos z1]; simp
      have hp : uPos l i err q.k = i + q.k := by simp only [uPos, if_pos z1]; simp
      have hlk : ((l.drop i).take q.k).length = q.k := by simp; omega
      have hlt := num_lt ((l.drop i).take q.k)
      have hdn := dig_num ((l.drop i).take q.k)
      rw [hlk] at hlt hdn
      refine ⟨y1, z2, ⟨q.k, q.lo, q.hi, uVal l i err q.k⟩ :: qs', by simp [f1, Rq.frm], ?_, ?_, ?_⟩
      · simp only [DSt.run, DSt.num, if_pos h0, ← f2]; rfl
      · intro x hx
        rcases List.mem_cons.1 hx with rfl | hx
        · exact ⟨by rw [hv]; exact hlt, h0⟩
        · exact f3 x hx
      · rw [hp] at f4
        simp only [rqL, List.flatMap_cons] at f4 ⊢
        rw [← f4, hv, hdn, ← List.drop_drop, List.take_append_drop]
    · obtain ⟨i', err', bad', e, hi', h⟩ := run_rd_inv qs l (uPos l i err q.k) (uErr l i err q.k) true hpl
      exact ⟨i', err', bad', by simp only [DSt.run, DSt.num, if_neg h0, e], hi', fun h1 h2 h3 => by have := (h h1 h2 h3).2.1; simp at this⟩
end Go.Proofs.Ytocogdcecnnnnaa
