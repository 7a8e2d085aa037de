/-
  Objects and their bytes, as lists: what is encoded, what is decoded, and that each gives the other back. No condition beside what is said.
-/
import Derived.Test.YtocogdcecnnnnaaRefB
import Derived.Test.YtocogdcecnnnnaaRow
namespace Go.Proofs.Ytocogdcecnnnnaa
open Go.RowKit

/-- Does a number fit in a byte? -/
def isb (n : Int) : Bool := decide (0 ≤ n) && decide (n ≤ 255)
theorem isb_yes {n : Int} (h : isb n = true) : 0 ≤ n ∧ n ≤ 255 := by simpa [isb] using h
/-- May an object of this class and type, with so many bytes, be? -/
def vld (x y : Int) (n : Nat) : Bool := isb x && (isb y && (decide (n % 4 = 0) && decide (n ≤ 4096)))
theorem vld_yes {x y : Int} {n : Nat} (h : vld x y n = true) : 0 ≤ x ∧ x ≤ 255 ∧ 0 ≤ y ∧ y ≤ 255 ∧ n % 4 = 0 ∧ n ≤ 4096 := by
  simp only [vld, Bool.and_eq_true, decide_eq_true_eq] at h
  have h1 := isb_yes h.1
  have h2 := isb_yes h.2.1
  exact ⟨h1.1, h1.2, h2.1, h2.2, h.2.2.1, h.2.2.2⟩
theorem vld_mk {x y : Int} {n : Nat} (h0 : 0 ≤ x) (h1 : x ≤ 255) (h2 : 0 ≤ y) (h3 : y ≤ 255) (h4 : n % 4 = 0) (h5 : n ≤ 4096) : vld x y n = true := by
  simp [vld, isb, h0, h1, h2, h3, h4, h5]
def mayO (o : (Int × Int × List UInt8)) : Bool := vld o.1 o.2.1 o.2.2.length
/-- What stands ahead of an object's bytes. -/
def hdL (x y : Int) (n : Nat) : List UInt8 := dig 2 (4 + n) ++ dig 1 x.toNat ++ dig 1 y.toNat
def obL (o : (Int × Int × List UInt8)) : List UInt8 := hdL o.1 o.2.1 o.2.2.length ++ o.2.2
def obsL (os : List (Int × Int × List UInt8)) : List UInt8 := os.flatMap obL
theorem hdL_length (x y : Int) (n : Nat) : (hdL x y n).length = 4 := by simp [hdL, dig_length]
theorem obL_length (o : (Int × Int × List UInt8)) : (obL o).length = 4 + o.2.2.length := by simp [obL, hdL_length]
theorem obsL_append (a b : List (Int × Int × List UInt8)) : obsL (a ++ b) = obsL a ++ obsL b := by simp [obsL]
theorem obsL_cons (o : (Int × Int × List UInt8)) (b : List (Int × Int × List UInt8)) : obsL (o :: b) = obL o ++ obsL b := by simp [obsL]
theorem obsL_snoc (a : List (Int × Int × List UInt8)) (o : (Int × Int × List UInt8)) : obsL (a ++ [o]) = obsL a ++ obL o := by simp [obsL]
theorem obsL_le : ∀ (l : List (Int × Int × List UInt8)), (∀ o ∈ l, mayO o = true) → (obsL l).length ≤ 4100 * l.length
  | [], _ => by simp [obsL]
  | o :: l, h => by
    have h1 := obsL_le l (fun q hq => h q (List.mem_cons_of_mem _ hq))
    have h2 := (vld_yes (h o (List.mem_cons_self ..))).2.2.2.2.2
    rw [obsL_cons, List.length_append, obL_length, List.length_cons]
    omega

def oErr (os : List (Int × Int × List UInt8)) : Int := if 32 < os.length then 3 else if os.all mayO = true then (if 4096 < (obsL os).length then 3 else 0) else 2
def oEnc (os : List (Int × Int × List UInt8)) : List UInt8 := if oErr os = 0 then obsL os else []
theorem oErr_big {os : List (Int × Int × List UInt8)} (h : 32 < os.length) : oErr os = 3 := by unfold oErr; rw [if_pos h]
theorem oErr_arg {os : List (Int × Int × List UInt8)} (h : os.length ≤ 32) {o : (Int × Int × List UInt8)} (ho : o ∈ os) (hm : mayO o = false) : oErr os = 2 := by
  unfold oErr
  rw [if_neg (by omega), if_neg]
  intro hall
  rw [List.all_eq_true] at hall
  rw [hall o ho] at hm; cases hm
theorem oErr_long {os : List (Int × Int × List UInt8)} (h : os.length ≤ 32) (hm : ∀ o ∈ os, mayO o = true) (hl : 4096 < (obsL os).length) : oErr os = 3 := by
  unfold oErr
  rw [if_neg (by omega), if_pos (List.all_eq_true.2 hm), if_pos hl]
theorem oErr_ok {os : List (Int × Int × List UInt8)} (h : os.length ≤ 32) (hm : ∀ o ∈ os, mayO o = true) (hl : (obsL os).length ≤ 4096) : oErr os = 0 := by
  unfold oErr
  rw [if_neg (by omega), if_pos (List.all_eq_true.2 hm), if_neg (by omega)]
theorem oErr_zero {os : List (Int × Int × List UInt8)} (h : oErr os = 0) : os.length ≤ 32 ∧ (∀ o ∈ os, mayO o = true) ∧ (obsL os).length ≤ 4096 := by
  unfold oErr at h
  by_cases h8 : 32 < os.length
  · rw [if_pos h8] at h; simp at h
  · rw [if_neg h8] at h
    by_cases ha : os.all mayO = true
    · rw [if_pos ha] at h
      by_cases hl : 4096 < (obsL os).length
      · rw [if_pos hl] at h; simp at h
      · exact ⟨by omega, List.all_eq_true.1 ha, by omega⟩
    · rw [if_neg ha] at h; simp at h
theorem oEnc_ok {os : List (Int × Int × List UInt8)} (h : oErr os = 0) : oEnc os = obsL os := by unfold oEnc; rw [if_pos h]
theorem oEnc_no {os : List (Int × Int × List UInt8)} (h : oErr os ≠ 0) : oEnc os = [] := by unfold oEnc; rw [if_neg h]
theorem oEnc_le (os : List (Int × Int × List UInt8)) : (oEnc os).length ≤ 4096 := by
  by_cases h : oErr os = 0
  · rw [oEnc_ok h]; exact (oErr_zero h).2.2
  · rw [oEnc_no h]; simp

/-- The number ahead, the object there, and what is wrong with it. -/
def oNum (b : List UInt8) : Nat := num (b.take 2)
def oHere (b : List UInt8) : (Int × Int × List UInt8) := (((num ((b.drop 2).take 1) : Nat) : Int), ((num ((b.drop 3).take 1) : Nat) : Int), (b.drop 4).take (oNum b - 4))
def oBad (b : List UInt8) : Int := if b.length < 4 then 4 else if oNum b < 4 ∨ oNum b % 4 ≠ 0 then 5 else if b.length < oNum b then 4 else 0
theorem oNum_lt (b : List UInt8) : oNum b < 65536 := by
  have h := num_lt (b.take 2)
  have h2 : 256 ^ (b.take 2).length ≤ 256 ^ 2 := Nat.pow_le_pow_right (by omega) (by simp; omega)
  unfold oNum; omega
theorem oBad_zero {b : List UInt8} (h : oBad b = 0) : 4 ≤ b.length ∧ 4 ≤ oNum b ∧ oNum b % 4 = 0 ∧ oNum b ≤ b.length := by
  unfold oBad at h
  by_cases h1 : b.length < 4
  · rw [if_pos h1] at h; simp at h
  · rw [if_neg h1] at h
    by_cases h2 : oNum b < 4 ∨ oNum b % 4 ≠ 0
    · rw [if_pos h2] at h; simp at h
    · rw [if_neg h2] at h
      by_cases h3 : b.length < oNum b
      · rw [if_pos h3] at h; simp at h
      · omega
theorem oBad_ok {b : List UInt8} (h1 : 4 ≤ b.length) (h2 : 4 ≤ oNum b) (h3 : oNum b % 4 = 0) (h4 : oNum b ≤ b.length) : oBad b = 0 := by
  unfold oBad; rw [if_neg (by omega), if_neg (by omega), if_neg (by omega)]
theorem oBad_short {b : List UInt8} (h1 : b.length < 4) : oBad b = 4 := by unfold oBad; rw [if_pos h1]
theorem oBad_form {b : List UInt8} (h1 : 4 ≤ b.length) (h2 : oNum b < 4 ∨ oNum b % 4 ≠ 0) : oBad b = 5 := by unfold oBad; rw [if_neg (by omega), if_pos h2]
theorem oBad_end {b : List UInt8} (h1 : 4 ≤ b.length) (h2 : 4 ≤ oNum b) (h3 : oNum b % 4 = 0) (h4 : b.length < oNum b) : oBad b = 4 := by unfold oBad; rw [if_neg (by omega), if_neg (by omega), if_pos h4]

def cont (ps : List (Int × Int × List UInt8)) (r : List (Int × Int × List UInt8) × Int) : List (Int × Int × List UInt8) × Int := if r.2 = 0 then (ps ++ r.1, 0) else ([], r.2)
theorem cont_cont (ps qs : List (Int × Int × List UInt8)) (r : List (Int × Int × List UInt8) × Int) : cont ps (cont qs r) = cont (ps ++ qs) r := by
  unfold cont
  by_cases h : r.2 = 0
  · rw [if_pos h]; simp [h]
  · rw [if_neg h]; simp [h]
theorem cont_nil (r : List (Int × Int × List UInt8) × Int) (h : r.2 ≠ 0 → r.1 = []) : cont [] r = r := by
  unfold cont
  by_cases h0 : r.2 = 0
  · rw [if_pos h0, List.nil_append, ← h0]
  · rw [if_neg h0, ← h h0]
theorem cont_no (ps : List (Int × Int × List UInt8)) {e : Int} (h : e ≠ 0) : cont ps ([], e) = ([], e) := by unfold cont; rw [if_neg h]
def odec : Nat → List UInt8 → List (Int × Int × List UInt8) × Int
  | 0, b => if b.length = 0 then ([], 0) else ([], 3)
  | k + 1, b => if b.length = 0 then ([], 0) else if oBad b = 0 then cont [oHere b] (odec k (b.drop (oNum b))) else ([], oBad b)
theorem odec_none (k : Nat) : odec k [] = ([], 0) := by cases k <;> rfl
theorem odec_full {b : List UInt8} (h : 0 < b.length) : odec 0 b = ([], 3) := by unfold odec; rw [if_neg (by omega)]
theorem odec_bad (k : Nat) {b : List UInt8} (h : 0 < b.length) (hb : oBad b ≠ 0) : odec (k + 1) b = ([], oBad b) := by
  rw [odec, if_neg (by omega), if_neg hb]
theorem odec_more (k : Nat) {b : List UInt8} (hb : oBad b = 0) : odec (k + 1) b = cont [oHere b] (odec k (b.drop (oNum b))) := by
  have := (oBad_zero hb).1
  rw [odec, if_neg (by omega), if_pos hb]
theorem odec_err (k : Nat) (b : List UInt8) : (odec k b).2 ≠ 0 → (odec k b).1 = [] := by
  cases k with
  | zero => unfold odec; split <;> simp
  | succ k =>
    rw [odec]
    split
    · simp
    · split
      · unfold cont; split <;> simp
      · simp
/-- The objects of bytes. -/
def oDec (b : List UInt8) : List (Int × Int × List UInt8) × Int := if 4096 < b.length then ([], 3) else odec 32 b
theorem oDec_big {b : List UInt8} (h : 4096 < b.length) : oDec b = ([], 3) := by unfold oDec; rw [if_pos h]
theorem oDec_ok {b : List UInt8} (h : b.length ≤ 4096) : oDec b = odec 32 b := by unfold oDec; rw [if_neg (by omega)]

theorem list_of_four (b : List UInt8) (h : 4 ≤ b.length) : ∃ s t u v r, b = s :: t :: u :: v :: r := by
  match b, h with
  | s :: t :: u :: v :: r, _ => exact ⟨s, t, u, v, r, rfl⟩
theorem num_one (x : UInt8) : num [x] = x.toNat := by simp [num]
theorem num2o (x y : UInt8) : num [x, y] = x.toNat * 256 + y.toNat := by simp [num]
theorem byte_of (n m : Nat) (y : UInt8) (h : n = m * 256 + y.toNat) : UInt8.ofNat n = y := by
  apply UInt8.toNat_inj.1
  have := y.toNat_lt
  rw [UInt8.toNat_ofNat']; omega
theorem dig_one (u : Nat) : dig 1 u = [UInt8.ofNat u] := by simp [dig]
theorem dig2o (u : Nat) : dig 2 u = [UInt8.ofNat (u / 256), UInt8.ofNat u] := by simp [dig]

theorem ob_parts {o : (Int × Int × List UInt8)} (h : mayO o = true) (t : List UInt8) : oBad (obL o ++ t) = 0 ∧ oNum (obL o ++ t) = 4 + o.2.2.length ∧ oHere (obL o ++ t) = o ∧ (obL o ++ t).drop (4 + o.2.2.length) = t := by
  obtain ⟨h0, h1, h2, h3, h4, h5⟩ := vld_yes h
  obtain ⟨x, y, l⟩ := o
  simp only at h0 h1 h2 h3 h4 h5 ⊢
  have hb : obL (x, y, l) ++ t = UInt8.ofNat ((4 + l.length) / 256) :: UInt8.ofNat (4 + l.length) :: UInt8.ofNat x.toNat :: UInt8.ofNat y.toNat :: (l ++ t) := by
    simp [obL, hdL, dig_one, dig2o]
  have hn : oNum (obL (x, y, l) ++ t) = 4 + l.length := by
    rw [hb]
    simp only [oNum, List.take_succ_cons, List.take_zero, num2o, UInt8.toNat_ofNat']
    omega
  have hd : (obL (x, y, l) ++ t).drop (4 + l.length) = t := by
    have : (obL (x, y, l)).length = 4 + l.length := obL_length _
    rw [← this, List.drop_left]
  refine ⟨oBad_ok ?_ ?_ ?_ ?_, hn, ?_, hd⟩
  · rw [hb]; simp
  · rw [hn]; omega
  · rw [hn]; omega
  · rw [hn, hb]; simp; omega
  · unfold oHere
    rw [hn, hb]
    have e1 : ((num [UInt8.ofNat x.toNat] : Nat) : Int) = x := by rw [num_one, UInt8.toNat_ofNat']; omega
    have e2 : ((num [UInt8.ofNat y.toNat] : Nat) : Int) = y := by rw [num_one, UInt8.toNat_ofNat']; omega
    have e3 : (l ++ t).take (4 + l.length - 4) = l := by rw [Nat.add_sub_cancel_left, List.take_left]
    simp only [List.drop_succ_cons, List.drop_zero, List.take_succ_cons, List.take_zero, e1, e2, e3]

theorem odec_enc : ∀ (os : List (Int × Int × List UInt8)) (k : Nat), (∀ o ∈ os, mayO o = true) → os.length ≤ k → odec k (obsL os) = (os, 0)
  | [], k, _, _ => odec_none k
  | o :: os, 0, _, hk => by simp at hk
  | o :: os, k + 1, h, hk => by
    obtain ⟨h1, h2, h3, h4⟩ := ob_parts (h o (List.mem_cons_self ..)) (obsL os)
    rw [obsL_cons, odec_more k h1, h2, h3, h4, odec_enc os k (fun q hq => h q (List.mem_cons_of_mem _ hq)) (by simpa using hk)]
    rfl

theorem here_enc {b : List UInt8} (h : oBad b = 0) (hl : b.length ≤ 4096) : obL (oHere b) = b.take (oNum b) ∧ mayO (oHere b) = true := by
  obtain ⟨h1, h2, h3, h4⟩ := oBad_zero h
  obtain ⟨s, t, u, v, r, rfl⟩ := list_of_four b h1
  have hn : oNum (s :: t :: u :: v :: r) = s.toNat * 256 + t.toNat := by simp only [oNum, List.take_succ_cons, List.take_zero, num2o]
  have hh : oHere (s :: t :: u :: v :: r) = ((u.toNat : Int), (v.toNat : Int), r.take (oNum (s :: t :: u :: v :: r) - 4)) := by
    simp only [oHere, List.drop_succ_cons, List.drop_zero, List.take_succ_cons, List.take_zero, num_one]
  obtain ⟨m, hm⟩ : ∃ m, oNum (s :: t :: u :: v :: r) = m + 4 := ⟨oNum (s :: t :: u :: v :: r) - 4, by omega⟩
  rw [hh, hm, Nat.add_sub_cancel]
  simp only [List.length_cons] at h4 hl
  have hml : (r.take m).length = m := by simp; omega
  have hu := u.toNat_lt
  have hv := v.toNat_lt
  constructor
  · have e1 : UInt8.ofNat ((4 + m) / 256) = s := byte_of _ 0 s (by have := t.toNat_lt; omega)
    have e2 : UInt8.ofNat (4 + m) = t := byte_of _ s.toNat t (by omega)
    simp only [obL, hdL, hml, dig_one, dig2o, e1, e2, Int.toNat_natCast, UInt8.ofNat_toNat, List.take_succ_cons, List.cons_append, List.nil_append]
  · refine vld_mk (by simp) (by simp only; omega) (by simp) (by simp only; omega) ?_ ?_
    · simp only [hml]; omega
    · simp only [hml]; omega

theorem enc_odec : ∀ (k : Nat) (b : List UInt8), b.length ≤ 4096 → (odec k b).2 = 0 → obsL (odec k b).1 = b ∧ (∀ o ∈ (odec k b).1, mayO o = true) ∧ (odec k b).1.length ≤ k
  | k, [], _, _ => by rw [odec_none]; simp [obsL]
  | 0, x :: b, _, h => by rw [odec_full (by simp)] at h; simp at h
  | k + 1, x :: b, hl, h => by
    by_cases hb : oBad (x :: b) = 0
    · rw [odec_more k hb] at h ⊢
      generalize x :: b = B at *
      have hz := oBad_zero hb
      have hr : (odec k (B.drop (oNum B))).2 = 0 := by
        unfold cont at h
        by_cases h0 : (odec k (B.drop (oNum B))).2 = 0
        · exact h0
        · rw [if_neg h0] at h; exact absurd h h0
      obtain ⟨i1, i2, i3⟩ := enc_odec k (B.drop (oNum B)) (by simp; omega) hr
      obtain ⟨j1, j2⟩ := here_enc hb hl
      have hc : cont [oHere B] (odec k (B.drop (oNum B))) = (oHere B :: (odec k (B.drop (oNum B))).1, 0) := by unfold cont; rw [if_pos hr]; rfl
      rw [hc]
      refine ⟨?_, ?_, by simpa using i3⟩
      · rw [obsL_cons, i1, j1, List.take_append_drop]
      · intro o ho
        rcases List.mem_cons.1 ho with rfl | ho
        · exact j2
        · exact i2 o ho
    · rw [odec_bad k (by simp) hb] at h
      exact absurd h hb

/-- Objects come back from their bytes. -/
theorem obj_back {os : List (Int × Int × List UInt8)} (h : oErr os = 0) : oDec (oEnc os) = (os, 0) := by
  obtain ⟨h1, h2, h3⟩ := oErr_zero h
  rw [oEnc_ok h, oDec_ok h3]
  exact odec_enc os 32 h2 h1
/-- Bytes that tell objects are their own. -/
theorem obj_own {b : List UInt8} (h : (oDec b).2 = 0) : oErr (oDec b).1 = 0 ∧ oEnc (oDec b).1 = b := by
  by_cases hl : 4096 < b.length
  · rw [oDec_big hl] at h; simp at h
  · rw [oDec_ok (by omega)] at h ⊢
    obtain ⟨h1, h2, h3⟩ := enc_odec 32 b (by omega) h
    have h0 : oErr (odec 32 b).1 = 0 := oErr_ok h3 h2 (by rw [h1]; omega)
    exact ⟨h0, by rw [oEnc_ok h0, h1]⟩
theorem oDec_err (b : List UInt8) : (oDec b).2 ≠ 0 → (oDec b).1 = [] := by
  by_cases hl : 4096 < b.length
  · rw [oDec_big hl]; simp
  · rw [oDec_ok (by omega)]; exact odec_err _ _
theorem oDec_le (b : List UInt8) : (oDec b).1.length ≤ 32 := by
  by_cases h : (oDec b).2 = 0
  · exact (oErr_zero (obj_own h).1).1
  · rw [oDec_err b h]; simp
/-- Objects one behind the other. -/
theorem apart_no {x y : List (Int × Int × List UInt8)} (h : oErr x ≠ 0 ∨ oErr y ≠ 0) : oErr (x ++ y) ≠ 0 := by
  intro h0
  obtain ⟨h1, h2, h3⟩ := oErr_zero h0
  rw [List.length_append] at h1
  rw [obsL_append, List.length_append] at h3
  rcases h with h | h
  · exact h (oErr_ok (by omega) (fun o ho => h2 o (List.mem_append_left _ ho)) (by omega))
  · exact h (oErr_ok (by omega) (fun o ho => h2 o (List.mem_append_right _ ho)) (by omega))
theorem apart_big {x y : List (Int × Int × List UInt8)} (hx : oErr x = 0) (hy : oErr y = 0) (h : oErr (x ++ y) ≠ 0) : 32 < x.length + y.length ∨ 4096 < (oEnc x).length + (oEnc y).length := by
  obtain ⟨h1, h2, h3⟩ := oErr_zero hx
  obtain ⟨k1, k2, k3⟩ := oErr_zero hy
  rw [oEnc_ok hx, oEnc_ok hy]
  by_cases ha : 32 < x.length + y.length
  · exact .inl ha
  · by_cases hb : 4096 < (obsL x).length + (obsL y).length
    · exact .inr hb
    · refine absurd (oErr_ok (by simp; omega) (fun o ho => ?_) (by rw [obsL_append, List.length_append]; omega)) h
      rcases List.mem_append.1 ho with ho | ho
      · exact h2 o ho
      · exact k2 o ho
theorem apart_ok {x y : List (Int × Int × List UInt8)} (hx : oErr x = 0) (hy : oErr y = 0) (h : oErr (x ++ y) = 0) : oEnc (x ++ y) = oEnc x ++ oEnc y := by
  rw [oEnc_ok hx, oEnc_ok hy, oEnc_ok h, obsL_append]
end Go.Proofs.Ytocogdcecnnnnaa
