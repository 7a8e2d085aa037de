/-
  Objects and their bytes, as lists: what is encoded, what is decoded, and that each gives the other back. No condition beside what is said.
  Slices of objects, and contracts of package object: isByte, valid, head. Conditions: head takes an object that may be.
  Contracts of object.Size and object.Encode. Condition: the objects that come in, and their bodies, read as lists.
  Contracts of object.read and object.Decode. Conditions: the reader is one that New made; the bytes that come in read as a list.
  Contract of object.Decode. Condition: the bytes that come in read as a list.
-/
import Derived.Test.YthmgpffpiggomaaRefB
import Derived.Test.YthmgpffpiggomaaRow
import Derived.Test.YthmgpffpiggomaaOctAF
import Derived.Test.YthmgpffpiggomaaBlk
namespace Go.Proofs.Ythmgpffpiggomaa
open Go.RowKit

/-- Does a number fit in a byte? -/
def isb (n : Int) : Bool := decide (0 ≤ n) && decide (n ≤ 255)
theorem isb_yes {n : Int} (h : isb n = true) : 0 ≤ n ∧ n ≤ 255 := by simpa [isb] using h
/-- May an object of this class and type, with so many bytes, be? -/
def vld (x y : Int) (n : Nat) : Bool := isb x && (isb y && (decide (n % 4 = 0) && decide (n ≤ 4096)))
theorem vld_yes {x y : Int} {n : Nat} (h : vld x y n = true) : 0 ≤ x ∧ x ≤ 255 ∧ 0 ≤ y ∧ y ≤ 255 ∧ n % 4 = 0 ∧ n ≤ 4096 := by
  simp only [vld, Bool.and_eq_true, decide_eq_true_eq] at h
  have h1 := isb_yes h.1
  have h2 := isb_yes h.2.1
  exact ⟨h1.1, h1.2, h2.1, h2.2, h.2.2.1, h.2.2.2⟩
theorem vld_mk {x y : Int} {n : Nat} (h0 : 0 ≤ x) (h1 : x ≤ 255) (h2 : 0 ≤ y) (h3 : y ≤ 255) (h4 : n % 4 = 0) (h5 : n ≤ 4096) : vld x y n = true := by
  simp [vld, isb, h0, h1, h2, h3, h4, h5]
def mayO (o : (Int × Int × List UInt8)) : Bool := vld o.1 o.2.1 o.2.2.length
/-- What stands ahead of an object's bytes. -/
def hdL (x y : Int) (n : Nat) : List UInt8 := dig 2 (4 + n) ++ dig 1 x.toNat ++ dig 1 y.toNat
def obL (o : (Int × Int × List UInt8)) : List UInt8 := hdL o.1 o.2.1 o.2.2.length ++ o.2.2
def obsL (os : List (Int × Int × List UInt8)) : List UInt8 := os.flatMap obL
theorem hdL_length (x y : Int) (n : Nat) : (hdL x y n).length = 4 := by simp [hdL, dig_length]
theorem obL_length (o : (Int × Int × List UInt8)) : (obL o).length = 4 + o.2.2.length := by simp [obL, hdL_length]
theorem obsL_append (a b : List (Int × Int × List UInt8)) : obsL (a ++ b) = obsL a ++ obsL b := by simp [obsL]
theorem obsL_cons (o : (Int × Int × List UInt8)) (b : List (Int × Int × List UInt8)) : obsL (o :: b) = obL o ++ obsL b := by simp [obsL]
theorem obsL_snoc (a : List (Int × Int × List UInt8)) (o : (Int × Int × List UInt8)) : obsL (a ++ [o]) = obsL a ++ obL o := by simp [obsL]
theorem obsL_le : ∀ (l : List (Int × Int × List UInt8)), (∀ o ∈ l, mayO o = true) → (obsL l).length ≤ 4100 * l.length
  | [], _ => by simp [obsL]
  | o :: l, h => by
    have h1 := obsL_le l (fun q hq => h q (List.mem_cons_of_mem _ hq))
    have h2 := (vld_yes (h o (List.mem_cons_self ..))).2.2.2.2.2
    rw [obsL_cons, List.length_append, obL_length, List.length_cons]
    omega

def oErr (os : List (Int × Int × List UInt8)) : Int := if 32 < os.length then 3 else if os.all mayO = true then (if 4096 < (obsL os).length then 3 else 0) else 2
def oEnc (os : List (Int × Int × List UInt8)) : List UInt8 := if oErr os = 0 then obsL os else []
theorem oErr_big {os : List (Int × Int × List UInt8)} (h : 32 < os.length) : oErr os = 3 := by unfold oErr; rw [if_pos h]
theorem oErr_arg {os : List (Int × Int × List UInt8)} (h : os.length ≤ 32) {o : (Int × Int × List UInt8)} (ho : o ∈ os) (hm : mayO o = false) : oErr os = 2 := by
  unfold oErr
  rw [if_neg (by omega), if_neg]
  intro hall
  rw [List.all_eq_true] at hall
  rw [hall o ho] at hm; cases hm
theorem oErr_long {os : List (Int × Int × List UInt8)} (h : os.length ≤ 32) (hm : ∀ o ∈ os, mayO o = true) (hl : 4096 < (obsL os).length) : oErr os = 3 := by
  unfold oErr
  rw [if_neg (by omega), if_pos (List.all_eq_true.2 hm), if_pos hl]
theorem oErr_ok {os : List (Int × Int × List UInt8)} (h : os.length ≤ 32) (hm : ∀ o ∈ os, mayO o = true) (hl : (obsL os).length ≤ 4096) : oErr os = 0 := by
  unfold oErr
  rw [if_neg (by omega), if_pos (List.all_eq_true.2 hm), if_neg (by omega)]
theorem oErr_zero {os : List (Int × Int × List UInt8)} (h : oErr os = 0) : os.length ≤ 32 ∧ (∀ o ∈ os, mayO o = true) ∧ (obsL os).length ≤ 4096 := by
  unfold oErr at h
  by_cases h8 : 32 < os.length
  · rw [if_pos h8] at h; simp at h
  · rw [if_neg h8] at h
    by_cases ha : os.all mayO = true
    · rw [if_pos ha] at h
      by_cases hl : 4096 < (obsL os).length
      · rw [if_pos hl] at h; simp at h
      · exact ⟨by omega, List.all_eq_true.1 ha, by omega⟩
    · rw [if_neg ha] at h; simp at h
theorem oEnc_ok {os : List (Int × Int × List UInt8)} (h : oErr os = 0) : oEnc os = obsL os := by unfold oEnc; rw [if_pos h]
theorem oEnc_no {os : List (Int × Int × List UInt8)} (h : oErr os ≠ 0) : oEnc os = [] := by unfold oEnc; rw [if_neg h]
theorem oEnc_le (os : List (Int × Int × List UInt8)) : (oEnc os).length ≤ 4096 := by
  by_cases h : oErr os = 0
  · rw [oEnc_ok h]; exact (oErr_zero h).2.2
  · rw [oEnc_no h]; simp

/-- The number ahead, the object there, and what is wrong with it. -/
def oNum (b : List UInt8) : Nat := num (b.take 2)
def oHere (b : List UInt8) : (Int × Int × List UInt8) := (((num ((b.drop 2).take 1) : Nat) : Int), ((num ((b.drop 3).take 1) : Nat) : Int), (b.drop 4).take (oNum b - 4))
def oBad (b : List UInt8) : Int := if b.length < 4 then 4 else if oNum b < 4 ∨ oNum b % 4 ≠ 0 then 5 else if b.length < oNum b then 4 else 0
theorem oNum_lt (b : List UInt8) : oNum b < 65536 := by
  have h := num_lt (b.take 2)
  have h2 : 256 ^ (b.take 2).length ≤ 256 ^ 2 := Nat.pow_le_pow_right (by omega) (by simp; omega)
  unfold oNum; omega
theorem oBad_zero {b : List UInt8} (h : oBad b = 0) : 4 ≤ b.length ∧ 4 ≤ oNum b ∧ oNum b % 4 = 0 ∧ oNum b ≤ b.length := by
  unfold oBad at h
  by_cases h1 : b.length < 4
  · rw [if_pos h1] at h; simp at h
  · rw [if_neg h1] at h
    by_cases h2 : oNum b < 4 ∨ oNum b % 4 ≠ 0
    · rw [if_pos h2] at h; simp at h
    · rw [if_neg h2] at h
      by_cases h3 : b.length < oNum b
      · rw [if_pos h3] at h; simp at h
      · omega
theorem oBad_ok {b : List UInt8} (h1 : 4 ≤ b.length) (h2 : 4 ≤ oNum b) (h3 : oNum b % 4 = 0) (h4 : oNum b ≤ b.length) : oBad b = 0 := by
  unfold oBad; rw [if_neg (by omega), if_neg (by omega), if_neg (by omega)]
theorem oBad_short {b : List UInt8} (h1 : b.length < 4) : oBad b = 4 := by unfold oBad; rw [if_pos h1]
theorem oBad_form {b : List UInt8} (h1 : 4 ≤ b.length) (h2 : oNum b < 4 ∨ oNum b % 4 ≠ 0) : oBad b = 5 := by unfold oBad; rw [if_neg (by omega), if_pos h2]
theorem oBad_end {b : List UInt8} (h1 : 4 ≤ b.length) (h2 : 4 ≤ oNum b) (h3 : oNum b % 4 = 0) (h4 : b.length < oNum b) : oBad b = 4 := by unfold oBad; rw [if_neg (by omega), if_neg (by omega), if_pos h4]

def cont (ps : List (Int × Int × List UInt8)) (r : List (Int × Int × List UInt8) × Int) : List (Int × Int × List UInt8) × Int := if r.2 = 0 then (ps ++ r.1, 0) else ([], r.2)
theorem cont_cont (ps qs : List (Int × Int × List UInt8)) (r : List (Int × Int × List UInt8) × Int) : cont ps (cont qs r) = cont (ps ++ qs) r := by
  unfold cont
  by_cases h : r.2 = 0
  · rw [if_pos h]; simp [h]
  · rw [if_neg h]; simp [h]
theorem cont_nil (r : List (Int × Int × List UInt8) × Int) (h : r.2 ≠ 0 → r.1 = []) : cont [] r = r := by
  unfold cont
  by_cases h0 : r.2 = 0
  · rw [if_pos h0, List.nil_append, ← h0]
  · rw [if_neg h0, ← h h0]
theorem cont_no (ps : List (Int × Int × List UInt8)) {e : Int} (h : e ≠ 0) : cont ps ([], e) = ([], e) := by unfold cont; rw [if_neg h]
def odec : Nat → List UInt8 → List (Int × Int × List UInt8) × Int
  | 0, b => if b.length = 0 then ([], 0) else ([], 3)
  | k + 1, b => if b.length = 0 then ([], 0) else if oBad b = 0 then cont [oHere b] (odec k (b.drop (oNum b))) else ([], oBad b)
theorem odec_none (k : Nat) : odec k [] = ([], 0) := by cases k <;> rfl
theorem odec_full {b : List UInt8} (h : 0 < b.length) : odec 0 b = ([], 3) := by unfold odec; rw [if_neg (by omega)]
theorem odec_bad (k : Nat) {b : List UInt8} (h : 0 < b.length) (hb : oBad b ≠ 0) : odec (k + 1) b = ([], oBad b) := by
  rw [odec, if_neg (by omega), if_neg hb]
theorem odec_more (k : Nat) {b : List UInt8} (hb : oBad b = 0) : odec (k + 1) b = cont [oHere b] (odec k (b.drop (oNum b))) := by
  have := (oBad_zero hb).1
  rw [odec, if_neg (by omega), if_pos hb]
theorem odec_err (k : Nat) (b : List UInt8) : (odec k b).2 ≠ 0 → (odec k b).1 = [] := by
  cases k with
  | zero => unfold odec; split <;> simp
  | succ k =>
    rw [odec]
    split
    · simp
    · split
      · unfold cont; split <;> simp
      · simp
/-- The objects of bytes. -/
def oDec (b : List UInt8) : List (Int × Int × List UInt8) × Int := if 4096 < b.length then ([], 3) else odec 32 b
theorem oDec_big {b : List UInt8} (h : 4096 < b.length) : oDec b = ([], 3) := by unfold oDec; rw [if_pos h]
theorem oDec_ok {b : List UInt8} (h : b.length ≤ 4096) : oDec b = odec 32 b := by unfold oDec; rw [if_neg (by omega)]

theorem list_of_four (b : List UInt8) (h : 4 ≤ b.length) : ∃ s t u v r, b = s :: t :: u :: v :: r := by
  match b, h with
  | s :: t :: u :: v :: r, _ => exact ⟨s, t, u, v, r, rfl⟩
theorem num_one (x : UInt8) : num [x] = x.toNat := by simp [num]
theorem num2o (x y : UInt8) : num [x, y] = x.toNat * 256 + y.toNat := by simp [num]
theorem byte_of (n m : Nat) (y : UInt8) (h : n = m * 256 + y.toNat) : UInt8.ofNat n = y := by
  apply UInt8.toNat_inj.1
  have := y.toNat_lt
  rw [UInt8.toNat_ofNat']; omega
theorem dig_one (u : Nat) : dig 1 u = [UInt8.ofNat u] := by simp [dig]
theorem dig2o (u : Nat) : dig 2 u = [UInt8.ofNat (u / 256), UInt8.ofNat u] := by simp [dig]

theorem ob_parts {o : (Int × Int × List UInt8)} (h : mayO o = true) (t : List UInt8) : oBad (obL o ++ t) = 0 ∧ oNum (obL o ++ t) = 4 + o.2.2.length ∧ oHere (obL o ++ t) = o ∧ (obL o ++ t).drop (4 + o.2.2.length) = t := by
  obtain ⟨h0, h1, h2, h3, h4, h5⟩ := vld_yes h
  obtain ⟨x, y, l⟩ := o
  simp only at h0 h1 h2 h3 h4 h5 ⊢
  have hb : obL (x, y, l) ++ t = UInt8.ofNat ((4 + l.length) / 256) :: UInt8.ofNat (4 + l.length) :: UInt8.ofNat x.toNat :: UInt8.ofNat y.toNat :: (l ++ t) := by
    simp [obL, hdL, dig_one, dig2o]
  have hn : oNum (obL (x, y, l) ++ t) = 4 + l.length := by
    rw [hb]
    simp only [oNum, List.take_succ_cons, List.take_zero, num2o, UInt8.toNat_ofNat']
    omega
  have hd : (obL (x, y, l) ++ t).drop (4 + l.length) = t := by
    have : (obL (x, y, l)).length = 4 + l.length := obL_length _
    rw [← this, List.drop_left]
  refine ⟨oBad_ok ?_ ?_ ?_ ?_, hn, ?_, hd⟩
  · rw [hb]; simp
  · rw [hn]; omega
  · rw [hn]; omega
  · rw [hn, hb]; simp; omega
  · unfold oHere
    rw [hn, hb]
    have e1 : ((num [UInt8.ofNat x.toNat] : Nat) : Int) = x := by rw [num_one, UInt8.toNat_ofNat']; omega
    have e2 : ((num [UInt8.ofNat y.toNat] : Nat) : Int) = y := by rw [num_one, UInt8.toNat_ofNat']; omega
    have e3 : (l ++ t).take (4 + l.length - 4) = l := by rw [Nat.add_sub_cancel_left, List.take_left]
    simp only [List.drop_succ_cons, List.drop_zero, List.take_succ_cons, List.take_zero, e1, e2, e3]

theorem odec_enc : ∀ (os : List (Int × Int × List UInt8)) (k : Nat), (∀ o ∈ os, mayO o = true) → os.length ≤ k → odec k (obsL os) = (os, 0)
  | [], k, _, _ => odec_none k
  | o :: os, 0, _, hk => by simp at hk
  | o :: os, k + 1, h, hk => by
    obtain ⟨h1, h2, h3, h4⟩ := ob_parts (h o (List.mem_cons_self ..)) (obsL os)
    rw [obsL_cons, odec_more k h1, h2, h3, h4, odec_enc os k (fun q hq => h q (List.mem_cons_of_mem _ hq)) (by simpa using hk)]
    rfl

theorem here_enc {b : List UInt8} (h : oBad b = 0) (hl : b.length ≤ 4096) : obL (oHere b) = b.take (oNum b) ∧ mayO (oHere b) = true := by
  obtain ⟨h1, h2, h3, h4⟩ := oBad_zero h
  obtain ⟨s, t, u, v, r, rfl⟩ := list_of_four b h1
  have hn : oNum (s :: t :: u :: v :: r) = s.toNat * 256 + t.toNat := by simp only [oNum, List.take_succ_cons, List.take_zero, num2o]
  have hh : oHere (s :: t :: u :: v :: r) = ((u.toNat : Int), (v.toNat : Int), r.take (oNum (s :: t :: u :: v :: r) - 4)) := by
    simp only [oHere, List.drop_succ_cons, List.drop_zero, List.take_succ_cons, List.take_zero, num_one]
  obtain ⟨m, hm⟩ : ∃ m, oNum (s :: t :: u :: v :: r) = m + 4 := ⟨oNum (s :: t :: u :: v :: r) - 4, by omega⟩
  rw [hh, hm, Nat.add_sub_cancel]
  simp only [List.length_cons] at h4 hl
  have hml : (r.take m).length = m := by simp; omega
  have hu := u.toNat_lt
  have hv := v.toNat_lt
  constructor
  · have e1 : UInt8.ofNat ((4 + m) / 256) = s := byte_of _ 0 s (by have := t.toNat_lt; omega)
    have e2 : UInt8.ofNat (4 + m) = t := byte_of _ s.toNat t (by omega)
    simp only [obL, hdL, hml, dig_one, dig2o, e1, e2, Int.toNat_natCast, UInt8.ofNat_toNat, List.take_succ_cons, List.cons_append, List.nil_append]
  · refine vld_mk (by simp) (by simp only; omega) (by simp) (by simp only; omega) ?_ ?_
    · simp only [hml]; omega
    · simp only [hml]; omega

theorem enc_odec : ∀ (k : Nat) (b : List UInt8), b.length ≤ 4096 → (odec k b).2 = 0 → obsL (odec k b).1 = b ∧ (∀ o ∈ (odec k b).1, mayO o = true) ∧ (odec k b).1.length ≤ k
  | k, [], _, _ => by rw [odec_none]; simp [obsL]
  | 0, x :: b, _, h => by rw [odec_full (by simp)] at h; simp at h
  | k + 1, x :: b, hl, h => by
    by_cases hb : oBad (x :: b) = 0
    · rw [odec_more k hb] at h ⊢
      generalize x :: b = B at *
      have hz := oBad_zero hb
      have hr : (odec k (B.drop (oNum B))).2 = 0 := by
        unfold cont at h
        by_cases h0 : (odec k (B.drop (oNum B))).2 = 0
        · exact h0
        · rw [if_neg h0] at h; exact absurd h h0
      obtain ⟨i1, i2, i3⟩ := enc_odec k (B.drop (oNum B)) (by simp; omega) hr
      obtain ⟨j1, j2⟩ := here_enc hb hl
      have hc : cont [oHere B] (odec k (B.drop (oNum B))) = (oHere B :: (odec k (B.drop (oNum B))).1, 0) := by unfold cont; rw [if_pos hr]; rfl
      rw [hc]
      refine ⟨?_, ?_, by simpa using i3⟩
      · rw [obsL_cons, i1, j1, List.take_append_drop]
      · intro o ho
        rcases List.mem_cons.1 ho with rfl | ho
        · exact j2
        · exact i2 o ho
    · rw [odec_bad k (by simp) hb] at h
      exact absurd h hb

/-- Objects come back from their bytes. -/
theorem obj_back {os : List (Int × Int × List UInt8)} (h : oErr os = 0) : oDec (oEnc os) = (os, 0) := by
  obtain ⟨h1, h2, h3⟩ := oErr_zero h
  rw [oEnc_ok h, oDec_ok h3]
  exact odec_enc os 32 h2 h1
/-- Bytes that tell objects are their own. -/
theorem obj_own {b : List UInt8} (h : (oDec b).2 = 0) : oErr (oDec b).1 = 0 ∧ oEnc (oDec b).1 = b := by
  by_cases hl : 4096 < b.length
  · rw [oDec_big hl] at h; simp at h
  · rw [oDec_ok (by omega)] at h ⊢
    obtain ⟨h1, h2, h3⟩ := enc_odec 32 b (by omega) h
    have h0 : oErr (odec 32 b).1 = 0 := oErr_ok h3 h2 (by rw [h1]; omega)
    exact ⟨h0, by rw [oEnc_ok h0, h1]⟩
theorem oDec_err (b : List UInt8) : (oDec b).2 ≠ 0 → (oDec b).1 = [] := by
  by_cases hl : 4096 < b.length
  · rw [oDec_big hl]; simp
  · rw [oDec_ok (by omega)]; exact odec_err _ _
theorem oDec_le (b : List UInt8) : (oDec b).1.length ≤ 32 := by
  by_cases h : (oDec b).2 = 0
  · exact (oErr_zero (obj_own h).1).1
  · rw [oDec_err b h]; simp
/-- Objects one behind the other. -/
theorem apart_no {x y : List (Int × Int × List UInt8)} (h : oErr x ≠ 0 ∨ oErr y ≠ 0) : oErr (x ++ y) ≠ 0 := by
  intro h0
  obtain ⟨h1, h2, h3⟩ := oErr_zero h0
  rw [List.length_append] at h1
  rw [obsL_append, List.length_append] at h3
  rcases h with h | h
  · exact h (oErr_ok (by omega) (fun o ho => h2 o (List.mem_append_left _ ho)) (by omega))
  · exact h (oErr_ok (by omega) (fun o ho => h2 o (List.mem_append_right _ ho)) (by omega))
theorem apart_big {x y : List (Int × Int × List UInt8)} (hx : oErr x = 0) (hy : oErr y = 0) (h : oErr (x ++ y) ≠ 0) : 32 < x.length + y.length ∨ 4096 < (oEnc x).length + (oEnc y).length := by
  obtain ⟨h1, h2, h3⟩ := oErr_zero hx
  obtain ⟨k1, k2, k3⟩ := oErr_zero hy
  rw [oEnc_ok hx, oEnc_ok hy]
  by_cases ha : 32 < x.length + y.length
  · exact .inl ha
  · by_cases hb : 4096 < (obsL x).length + (obsL y).length
    · exact .inr hb
    · refine absurd (oErr_ok (by simp; omega) (fun o ho => ?_) (by rw [obsL_append, List.length_append]; omega)) h
      rcases List.mem_append.1 ho with ho | ho
      · exact h2 o ho
      · exact k2 o ho
theorem apart_ok {x y : List (Int × Int × List UInt8)} (hx : oErr x = 0) (hy : oErr y = 0) (h : oErr (x ++ y) = 0) : oEnc (x ++ y) = oEnc x ++ oEnc y := by
  rw [oEnc_ok hx, oEnc_ok hy, oEnc_ok h, obsL_append]
end Go.Proofs.Ythmgpffpiggomaa

namespace Go.Proofs.Ythmgpffpiggomaa
open Go.RowKit

/-- An object as it lies in memory, and the bytes that its body reads as. -/
structure Ob where
  cl : Int
  ty : Int
  a : Option Addr
  n : Nat
  c : Nat
  l : List UInt8
def Ob.val (q : Ob) : (Int × Int × List UInt8) := (q.cl, q.ty, q.l)
def vals (qs : List Ob) : List (Int × Int × List UInt8) := qs.map Ob.val
def eo (q : Ob) : List Value := [.int .i64 q.cl, .int .i64 q.ty, .slice q.a q.n q.c]
theorem eo_length (q : Ob) : (eo q).length = 3 := rfl
theorem eo_one (q : Ob) : ∀ u ∈ eo q, u.oneCell' = true := by
  intro u hu
  simp [eo] at hu
  rcases hu with rfl | rfl | rfl <;> rfl
theorem vals_length (qs : List Ob) : (vals qs).length = qs.length := by simp [vals]
theorem vals_append (a b : List Ob) : vals (a ++ b) = vals a ++ vals b := by simp [vals]
theorem vals_take (qs : List Ob) (j : Nat) : vals (qs.take j) = (vals qs).take j := by simp [vals]

/-- Bodies read as their bytes. -/
def Bods (w : World) (B : Nat) (qs : List Ob) : Prop := ∀ q ∈ qs, Bts w B q.a q.n q.l ∧ q.n ≤ maxLen
/-- The slice reads as the objects 'qs', and so do their bodies. -/
def Objs (w : World) (B : Nat) (a : Option Addr) (n : Nat) (qs : List Ob) : Prop := Row eo w B a n qs ∧ Bods w B qs

section
variable {w w' : World} {B n : Nat} {a : Option Addr} {qs : List Ob}
theorem Bods.keep (h : Bods w B qs) (hk : ∀ b, b < B → w'.heap[b]? = w.heap[b]?) : Bods w' B qs := fun q hq => ⟨(h q hq).1.keep hk, (h q hq).2⟩
theorem Bods.below (h : Bods w B qs) (hb : Below B w w') : Bods w' B qs := h.keep hb.block
theorem Bods.more (h : Bods w B qs) {B' : Nat} (hB : B ≤ B') : Bods w B' qs := fun q hq => ⟨(h q hq).1.more hB, (h q hq).2⟩
theorem Objs.nil : Objs w B a 0 [] := ⟨Row.nil, by intro q hq; cases hq⟩
theorem Objs.len (h : Objs w B a n qs) : qs.length = n := h.1.1
theorem Objs.below (h : Objs w B a n qs) (hb : Below B w w') : Objs w' B a n qs := ⟨h.1.below hb, h.2.below hb⟩
theorem Objs.more (h : Objs w B a n qs) {B' : Nat} (hB : B ≤ B') : Objs w B' a n qs := ⟨h.1.more hB, h.2.more hB⟩
theorem Objs.drewN (h : Objs w B a n qs) (m : Nat) : Objs (w.drewN m) B a n qs := h
theorem Objs.up (h : Objs w w.heap.size a n qs) (hb : Below w.heap.size w w') : Objs w' w'.heap.size a n qs := (h.below hb).more hb.size
/-- An object lies at this place. -/
def AtO (W : World) (b k : Nat) (q : Ob) : Prop := W.cell? ⟨b, k, none⟩ = some (.int .i64 q.cl) ∧ W.cell? ⟨b, k + 1, none⟩ = some (.int .i64 q.ty) ∧ W.cell? ⟨b, k + 2, none⟩ = some (.slice q.a q.n q.c)
theorem Objs.at (h : Objs w B a n qs) {i : Nat} (hi : i < n) : ∃ (b o : Nat) (q : Ob), a = some ⟨b, o, none⟩ ∧ b < B ∧ q ∈ qs ∧ qs[i]? = some q ∧ AtO w b (o + i * 3) q ∧ Bts w B q.a q.n q.l ∧ q.n ≤ maxLen := by
  obtain ⟨b, o, e, hb, hc⟩ := h.1.cells eo_length (by omega)
  have hi' : i < qs.length := by rw [h.1.1]; exact hi
  have hm := List.getElem_mem hi'
  exact ⟨b, o, qs[i], e, hb, hm, by simp [hi'], ⟨hc i hi' 0 (by omega), hc i hi' 1 (by omega), hc i hi' 2 (by omega)⟩, (h.2 _ hm).1, (h.2 _ hm).2⟩
theorem AtO.below {W W' : World} {b k : Nat} {q : Ob} (h : AtO W b k q) (hb : Below B W W') (hB : b < B) : AtO W' b k q :=
  ⟨(hb.cell (p := ⟨b, k, none⟩) hB).trans h.1, (hb.cell (p := ⟨b, k + 1, none⟩) hB).trans h.2.1, (hb.cell (p := ⟨b, k + 2, none⟩) hB).trans h.2.2⟩
end
theorem take_next {α : Type} (l : List α) (j : Nat) (q : α) (h : l[j]? = some q) : l.take (j + 1) = l.take j ++ [q] := by
  have hj : j < l.length := by
    rcases Nat.lt_or_ge j l.length with h' | h'
    · exact h'
    · rw [List.getElem?_eq_none h'] at h; cases h
  rw [List.getElem?_eq_getElem hj] at h
  injection h with h
  rw [List.take_succ_eq_append_getElem hj, h]

theorem isByte_calls (n : Int) (w : World) :
    Calls Try.prog 94 #[.int .i64 n] w fun e w' => e = .returned (.bool (isb n)) ∧ w = w' := by
  by_cases h1 : 0 ≤ n
  · by_cases h2 : n ≤ 255
    · have hw : isb n = true := by simp [isb, h1, h2]
      go_enter Try.func94, Try.ntmps94
      go_wp2
      go_ret
      exact ⟨by first | rfl | (rw [hw]; rfl), rfl⟩
    · have hw : isb n = false := by simp [isb, h2]
      go_enter Try.func94, Try.ntmps94
      go_wp2
      go_ret
      exact ⟨by first | rfl | (rw [hw]; rfl), rfl⟩
  · have hw : isb n = false := by simp [isb, h1]
    go_enter Try.func94, Try.ntmps94
    go_wp2
    go_ret
    exact ⟨by first | rfl | (rw [hw]; rfl), rfl⟩

theorem obvalid_calls (x y : Int) (a : Option Addr) (n c : Nat) (w : World) (hn : n ≤ maxLen) :
    Calls Try.prog 56 #[.agg #[.int .i64 x, .int .i64 y, .slice a n c]] w fun e w' => e = .returned (.bool (vld x y n)) ∧ w' = w.alloc (.cells #[.int .i64 x, .int .i64 y, .slice a n c] 67) := by
  unfold maxLen at hn
  go_enter Try.func56, Try.ntmps56
  go_wp2_with fail
  ((with_reducible refine (isByte_calls x _).mono ?_))
  rintro e w1 ⟨rfl, rfl⟩
  cases hx : isb x
  · go_wp2
    go_ret
    exact ⟨by simp [vld, hx], rfl⟩
  · go_wp2_with fail
    ((with_reducible refine (isByte_calls y _).mono ?_))
    rintro e w1 ⟨rfl, rfl⟩
    cases hy : isb y
    · go_wp2
      go_ret
      exact ⟨by simp [vld, hx, hy], rfl⟩
    · by_cases h4 : n % 4 = 0
      · have q1 : ((n : Int) % 4 == 0) = true := by rw [beq_iff_eq]; omega
        go_wp2
        go_ret
        exact ⟨by simp [vld, hx, hy, h4]; try omega, rfl⟩
      · have q1 : ((n : Int) % 4 == 0) = false := by rw [beq_eq_false_iff_ne]; omega
        go_wp2
        go_ret
        exact ⟨by simp [vld, hx, hy, h4], rfl⟩

theorem put_two (a : Option Addr) (n c : Nat) (l : List UInt8) (u : Int) (w : World) (h : Bts w w.heap.size a n l) (hlen : n ≤ 1099511627776) (hu : 0 ≤ u) (hb : u < 65536) :
    Calls Try.prog 31 #[.slice a n c, .int .i64 2, .int .u64 u] w fun e w' => e = .returned (.tuple #[.slice (some ⟨w.heap.size, 0, none⟩) (n + 2) (n + 2), .int .i64 0]) ∧ Own w' w.heap.size (l ++ dig 2 u.toNat) ∧ Below w.heap.size w w' := by
  have hl := h.1
  have hp : u.toNat < 256 ^ (2 : Int).toNat := by simp; omega
  refine (put_i a n c l 2 u w h (by omega) (by omega) (by omega) hu hp).mono ?_
  rintro e w' ⟨rfl, h2, h3⟩
  rw [hl]
  exact ⟨rfl, h2, h3⟩
theorem put_one (a : Option Addr) (n c : Nat) (l : List UInt8) (u : Int) (w : World) (h : Bts w w.heap.size a n l) (hlen : n ≤ 1099511627776) (hu : 0 ≤ u) (hb : u < 256) :
    Calls Try.prog 31 #[.slice a n c, .int .i64 1, .int .u64 u] w fun e w' => e = .returned (.tuple #[.slice (some ⟨w.heap.size, 0, none⟩) (n + 1) (n + 1), .int .i64 0]) ∧ Own w' w.heap.size (l ++ dig 1 u.toNat) ∧ Below w.heap.size w w' := by
  have hl := h.1
  have hp : u.toNat < 256 ^ (1 : Int).toNat := by simp; omega
  refine (put_i a n c l 1 u w h (by omega) (by omega) (by omega) hu hp).mono ?_
  rintro e w' ⟨rfl, h2, h3⟩
  rw [hl]
  exact ⟨rfl, h2, h3⟩

def HeadPost (w : World) (x y : Int) (n : Nat) (e : Ending) (w' : World) : Prop :=
  ∃ g, e = .returned (.slice (some ⟨g, 0, none⟩) 4 4) ∧ w.heap.size ≤ g ∧ Own w' g (hdL x y n) ∧ Below w.heap.size w w'

theorem head_calls (x y : Int) (a : Option Addr) (n c : Nat) (w : World) (hv : vld x y n = true) :
    Calls Try.prog 28 #[.agg #[.int .i64 x, .int .i64 y, .slice a n c]] w (HeadPost w x y n) := by
  obtain ⟨x0, x1, y0, y1, _, n1⟩ := vld_yes hv
  have c0 : AtO (w.alloc (.cells #[.int .i64 x, .int .i64 y, .slice a n c] 67)) w.heap.size 0 ⟨x, y, a, n, c, []⟩ :=
    ⟨cell_of_row _ _ _ _ _ _ (heap_alloc_new w _), cell_of_row _ _ _ _ _ _ (heap_alloc_new w _), cell_of_row _ _ _ _ _ _ (heap_alloc_new w _)⟩
  have C0 := Lib.hid c0
  have K0 := Lib.hid (bel_new (Below.refl w.heap.size w) (.cells #[.int .i64 x, .int .i64 y, .slice a n c] 67))
  have Z0 := Lib.hid (show w.heap.size < (w.alloc (.cells #[.int .i64 x, .int .i64 y, .slice a n c] 67)).heap.size by simp)
  clear c0 hv
  go_enter Try.func28, Try.ntmps28
  go_wp2_with fail
  generalize (w.alloc (.cells #[.int .i64 x, .int .i64 y, .slice a n c] 67)) = w1 at *
  ((with_reducible refine (put_two none 0 0 [] (4 + (n : Int)) _ Bts.nil (by omega) (by omega) (by omega)).mono ?_))
  rintro e w2 ⟨rfl, o2, b2⟩
  have C2 := Lib.hid (C0.out.below b2 Z0.out)
  have c2 := C2.out.1
  have O2 := Lib.hid (o2.bts o2.lt)
  have K2 := Lib.hid (bel_more K0.out (Nat.le_refl _) b2)
  have Z2 := Lib.hid (Nat.lt_of_lt_of_le Z0.out b2.size)
  clear o2 b2
  go_wp2_with fail
  ((with_reducible refine (put_one _ 2 2 _ x _ O2.out (by omega) (by omega) (by omega)).mono ?_))
  rintro e w3 ⟨rfl, o3, b3⟩
  have C3 := Lib.hid (C2.out.below b3 Z2.out)
  have c3 := C3.out.2.1
  have O3 := Lib.hid (o3.bts o3.lt)
  have K3 := Lib.hid (bel_more K2.out (Nat.le_refl _) b3)
  have Z3 := Lib.hid (Nat.lt_of_lt_of_le Z2.out b3.size)
  clear o3 b3 c2
  go_wp2_with fail
  ((with_reducible refine (put_one _ 3 3 _ y _ O3.out (by omega) (by omega) (by omega)).mono ?_))
  rintro e w4 ⟨rfl, o4, b4⟩
  have K4 := Lib.hid (bel_more K3.out (Nat.le_refl _) b4)
  have O4 := Lib.hid o4
  clear o4 b4 c3
  go_wp2
  go_ret
  refine ⟨w3.heap.size, rfl, Nat.le_of_lt Z3.out, ?_, K4.out⟩
  have e1 : (4 + (n : Int)).toNat = 4 + n := by omega
  have h := O4.out
  rw [e1] at h
  exact h
end Go.Proofs.Ythmgpffpiggomaa

namespace Go.Proofs.Ythmgpffpiggomaa
open Go.RowKit

def SizePost (w : World) (os : List (Int × Int × List UInt8)) (e : Ending) (w' : World) : Prop :=
  e = .returned (.tuple #[.int .i64 ((oEnc os).length : Nat), .int .i64 (oErr os)]) ∧ Below w.heap.size w w'
theorem sizePost_no {w w' : World} {os : List (Int × Int × List UInt8)} {e : Ending} {err : Int} (h : oErr os = err) (h0 : err ≠ 0) (he : e = .returned (.tuple #[.int .i64 0, .int .i64 err])) (hb : Below w.heap.size w w') : SizePost w os e w' := by
  have hr : oEnc os = [] := oEnc_no (by rw [h]; exact h0)
  exact ⟨by rw [hr, h, he]; rfl, hb⟩

theorem size_big (a : Option Addr) (n c : Nat) (os : List (Int × Int × List UInt8)) (w : World) (hl : os.length = n) (hn : 32 < n) (hm : n ≤ maxLen) :
    Calls Try.prog 27 #[.slice a n c] w (SizePost w os) := by
  unfold maxLen at hm
  have HL := Lib.hid hl
  clear hl
  go_enter Try.func27, Try.ntmps27
  go_wp2
  go_ret2
  exact sizePost_no (oErr_big (by rw [HL.out]; exact hn)) (by omega) rfl (Below.refl _ _)

set_option maxHeartbeats 800000 in
theorem size_ok (a : Option Addr) (n c : Nat) (qs : List Ob) (w : World) (h : Objs w w.heap.size a n qs) (hn : n ≤ 32) :
    Calls Try.prog 27 #[.slice a n c] w (SizePost w (vals qs)) := by
  have HR := Lib.hid h
  have HL := Lib.hid h.len
  clear h
  go_enter Try.func27, Try.ntmps27
  go_wp2
  go_loopw [4, 12] (fun t i W => ∃ j s : Nat, j ≤ n ∧ i = .int .i64 (j : Int) ∧ t = .int .i64 (s : Int) ∧ s ≤ 4100 * j ∧ Hid (s = (obsL (vals (qs.take j))).length) ∧ (∀ o ∈ vals (qs.take j), mayO o = true) ∧ Below w.heap.size w W) (fun _ i _ => n - (intOf i).toNat)
  case atStart => exact ⟨0, 0, Nat.zero_le _, rfl, rfl, by omega, by exact rfl, by simp [vals], Below.refl _ _⟩
  case round =>
    obtain ⟨j, s, hj, rfl, rfl, hs, HS, hM, hbel⟩ := hrel
    have HM := Lib.hid hM
    have HBel := Lib.hid hbel
    clear hM hbel
    by_cases hlt : j < n
    · obtain ⟨b, o, q, rfl, hb, hq, hqi, hat, hbt, hmx⟩ := (HR.out.below HBel.out).at hlt
      have HQ := Lib.hid hq
      have HT := Lib.hid (show vals (qs.take (j + 1)) = vals (qs.take j) ++ [q.val] by rw [take_next qs j q hqi, vals_append]; rfl)
      have HO := Lib.hid (show mayO q.val = vld q.cl q.ty q.n by unfold mayO Ob.val; rw [hbt.1])
      have HLn := Lib.hid (show (obL q.val).length = 4 + q.n by rw [obL_length]; unfold Ob.val; rw [hbt.1])
      have HI := Lib.hid (show q.val ∈ vals qs from List.mem_map_of_mem hq)
      obtain ⟨c0, c1, c2⟩ := hat
      clear hqi hbt hb hq
      obtain ⟨x, y, qa, qn, qc, ql⟩ := q
      simp only at c0 c1 c2 HO HLn hmx
      go_wp2_with fail
      ((with_reducible refine (obvalid_calls x y qa qn qc _ hmx).mono ?_))
      rintro e w1 ⟨rfl, rfl⟩
      cases hv : vld x y qn
      · go_wp2
        go_ret2
        exact sizePost_no (oErr_arg (by rw [vals_length, HL.out]; exact hn) HI.out (by rw [HO.out]; exact hv)) (by omega) rfl (bel_new (bel_new HBel.out _) _)
      · have hv4 := (vld_yes hv).2.2.2.2.2
        unfold maxLen at hmx
        have HV := Lib.hid hv
        clear hv
        go_wp2
        refine ⟨⟨j + 1, s + (4 + qn), by omega, by go_num, by go_num, by omega, ?_, ?_, bel_new (bel_new HBel.out _) _⟩, by simp [intOf]; omega⟩
        · exact (by rw [HT.out, obsL_snoc, List.length_append, HLn.out, HS.out] : s + (4 + qn) = (obsL (vals (qs.take (j + 1)))).length)
        · rw [HT.out]
          intro o ho
          rcases List.mem_append.1 ho with ho | ho
          · exact HM.out o ho
          · obtain rfl := List.mem_singleton.1 ho
            rw [HO.out]; exact HV.out
    · have hjn : j = n := by omega
      subst hjn
      have e1 : qs.take j = qs := List.take_of_length_le (by rw [HL.out]; exact Nat.le_refl _)
      rw [e1] at HS HM
      by_cases hbig : 4096 < s
      · have h0 := Lib.hid (oErr_long (by rw [vals_length, HL.out]; exact hn) HM.out (by rw [← HS.out]; exact hbig))
        go_wp2
        go_ret2
        exact sizePost_no h0.out (by omega) rfl HBel.out
      · have h0 := Lib.hid (oErr_ok (by rw [vals_length, HL.out]; exact hn) HM.out (by rw [← HS.out]; omega))
        go_wp2
        go_ret2
        exact ⟨by rw [h0.out, oEnc_ok h0.out, HS.out]; rfl, HBel.out⟩

theorem size_calls (a : Option Addr) (n c : Nat) (qs : List Ob) (w : World) (h : Objs w w.heap.size a n qs) (hm : n ≤ maxLen) :
    Calls Try.prog 27 #[.slice a n c] w (SizePost w (vals qs)) := by
  by_cases hn : n ≤ 32
  · exact size_ok a n c qs w h hn
  · exact size_big a n c _ w (by rw [vals_length]; exact h.len) (by omega) hm

/-- Room for bytes, of which none is there. -/
theorem make_room (n : Nat) (hn : n ≤ 140737488355328) (W : World) : (Instr.makeSlice 31 (.int .i64 0) (.int .i64 (n : Int))).run Try.prog W =
      .ok (.slice (some ⟨W.heap.size, 0, none⟩) 0 n) (W.alloc (.cells (Array.replicate n (bv 0)) 5)) := by
  obtain ⟨i, hi, hzz⟩ := Option.map_eq_some_iff.1 Try.infoByte
  simp only [Prod.mk.injEq] at hzz
  obtain ⟨hz, hs, hb⟩ := hzz
  have h := run_make (P := Try.prog) W 31 5 i (.int .u8 0) Try.underlying31 hi hz .i64 .i64 0 (n : Int) (by omega) (by omega) (by rw [hb]; omega) (by omega)
  simp only [hs, Nat.mul_one, Int.toNat_natCast] at h
  rw [h]
  have e : (Value.int .u8 0).cells = #[.int .u8 0] := rfl
  rw [e, made_zero]; rfl
theorem acc_room (w : World) (n : Nat) (hn : n ≤ 140737488355328) : Acc (w.alloc (.cells (Array.replicate n (bv 0)) 5)) w.heap.size (some ⟨w.heap.size, 0, none⟩) n [] :=
  ⟨rfl, .inr ⟨w.heap.size, n, Array.replicate n (bv 0), rfl, Nat.le_refl _, heap_alloc_new w _, Nat.zero_le _, by unfold maxLen; omega, by simp, by simp⟩⟩

/-- What Encode answers: bytes in memory of the call's own. -/
def ObEncPost (w : World) (os : List (Int × Int × List UInt8)) (e : Ending) (w' : World) : Prop :=
  ∃ A c, e = .returned (.tuple #[.slice A (oEnc os).length c, .int .i64 (oErr os)]) ∧ Acc w' w.heap.size A c (oEnc os) ∧ Below w.heap.size w w'
theorem obEncPost_no {w w' : World} {os : List (Int × Int × List UInt8)} {e : Ending} {err : Int} (h : oErr os = err) (h0 : err ≠ 0) (he : e = .returned (.tuple #[.slice none 0 0, .int .i64 err])) (hb : Below w.heap.size w w') : ObEncPost w os e w' := by
  have hr : oEnc os = [] := oEnc_no (by rw [h]; exact h0)
  refine ⟨none, 0, ?_, ?_, hb⟩
  · rw [hr, h, he]; rfl
  · rw [hr]; exact Acc.nil _ _

set_option maxRecDepth 100000 in
set_option maxHeartbeats 1000000 in
theorem obencode_calls (a : Option Addr) (n c : Nat) (qs : List Ob) (w : World) (h : Objs w w.heap.size a n qs) (hm : n ≤ maxLen) :
    Calls Try.prog 16 #[.slice a n c] w (ObEncPost w (vals qs)) := by
  have HR := Lib.hid h
  have HL := Lib.hid h.len
  clear h
  go_enter Try.func16, Try.ntmps16
  go_wp2_with fail
  ((with_reducible refine (size_calls a n c qs _ HR.out hm).mono ?_))
  rintro e w1 ⟨rfl, b1⟩
  have B1 := Lib.hid b1
  clear b1
  by_cases h0 : oErr (vals qs) = 0
  · obtain ⟨z1, z2, z3⟩ := oErr_zero h0
    have hn : n ≤ 32 := by rw [← HL.out, ← vals_length]; exact z1
    have HE := Lib.hid (oEnc_ok h0)
    have H0 := Lib.hid h0
    have HZ := Lib.hid z2
    rw [h0, oEnc_ok h0]
    have hsz : (obsL (vals qs)).length ≤ 4096 := z3
    have hmk := make_room (obsL (vals qs)).length (by omega)
    have A1 := Lib.hid ((acc_room w1 (obsL (vals qs)).length (by omega)).lower B1.out.size)
    have K1 := Lib.hid (bel_new B1.out (.cells (Array.replicate (obsL (vals qs)).length (bv 0)) 5))
    clear h0 z1 z2 z3 hm
    generalize hN : (obsL (vals qs)).length = N at *
    have HN := Lib.hid hN
    clear hN
    go_wp2
    go_loopw [6, 21] (fun s i W => ∃ j m cc : Nat, ∃ A : Option Addr, j ≤ n ∧ i = .int .i64 (j : Int) ∧ s = .slice A m cc ∧ m ≤ 4100 * j ∧ Hid (m = (obsL (vals (qs.take j))).length) ∧ Acc W w.heap.size A cc (obsL (vals (qs.take j))) ∧ Below w.heap.size w W) (fun _ i _ => n - (intOf i).toNat)
    case atStart => exact ⟨0, 0, N, _, Nat.zero_le _, rfl, rfl, by omega, by exact rfl, A1.out, K1.out⟩
    case round =>
      obtain ⟨j, m, cc, A, hj, rfl, rfl, hm4, HMl, hacc, hbel⟩ := hrel
      have HA := Lib.hid hacc
      have HBel := Lib.hid hbel
      clear hacc hbel
      by_cases hlt : j < n
      · obtain ⟨b, o, q, rfl, hb, hq, hqi, hat, hbt, hmx⟩ := (HR.out.below HBel.out).at hlt
        have HT := Lib.hid (show vals (qs.take (j + 1)) = vals (qs.take j) ++ [q.val] by rw [take_next qs j q hqi, vals_append]; rfl)
        have hv : vld q.cl q.ty q.n = true := by
          have := HZ.out q.val (List.mem_map_of_mem hq)
          unfold mayO Ob.val at this
          rwa [hbt.1] at this
        have HOb := Lib.hid (show obL q.val = hdL q.cl q.ty q.n ++ q.l by unfold obL Ob.val; rw [hbt.1])
        have hv4 := (vld_yes hv).2.2.2.2.2
        have HV := Lib.hid hv
        have HBt := Lib.hid hbt
        obtain ⟨c0, c1, c2⟩ := hat
        clear hqi hbt hq hv hmx
        obtain ⟨x, y, qa, qn, qc, ql⟩ := q
        simp only at c0 c1 c2 HOb hv4 HV HBt
        have K2 := Lib.hid (bel_new HBel.out (.cells #[.int .i64 x, .int .i64 y, .slice qa qn qc] 67))
        have A2 := Lib.hid (HA.out.alloc (.cells #[.int .i64 x, .int .i64 y, .slice qa qn qc] 67))
        have C2 : Hid (AtO (wr.alloc (.cells #[.int .i64 x, .int .i64 y, .slice qa qn qc] 67)) wr.heap.size 0 ⟨x, y, qa, qn, qc, ql⟩) :=
          ⟨cell_of_row _ _ _ _ _ _ (heap_alloc_new wr _), cell_of_row _ _ _ _ _ _ (heap_alloc_new wr _), cell_of_row _ _ _ _ _ _ (heap_alloc_new wr _)⟩
        have Z2 := Lib.hid (show wr.heap.size < (wr.alloc (.cells #[.int .i64 x, .int .i64 y, .slice qa qn qc] 67)).heap.size by simp)
        have U2 := Lib.hid (show Below w.heap.size wr (wr.alloc (.cells #[.int .i64 x, .int .i64 y, .slice qa qn qc] 67)) from (Below.refl _ _).alloc HBel.out.size _)
        have G2 := Lib.hid (show ∀ k, blk A = some k → k < wr.heap.size from fun k hk => (HA.out.ge hk).2)
        go_wp2_with fail
        generalize (wr.alloc (.cells #[.int .i64 x, .int .i64 y, .slice qa qn qc] 67)) = w2 at *
        ((with_reducible refine (head_calls x y qa qn qc _ HV.out).mono ?_))
        rintro e w3 ⟨g, rfl, hg, ho, b3⟩
        have K3 := Lib.hid (bel_more K2.out (Nat.le_refl _) b3)
        have a3 := A2.out.bel b3
        have C3 := C2.out.below b3 Z2.out
        have Z3 := Nat.lt_of_lt_of_le Z2.out b3.size
        have o3 := ho.bts ho.lt
        rw [hdL_length] at o3
        obtain ⟨A4, c4, w4, r4, a4, g4, e4⟩ := acc_append a3 (cc := 4) o3 K3.out.size (by rw [← HMl.out]; omega) 31
        rw [← HMl.out] at r4
        have K4 := bel_acc K3.out a3 g4
        have C4 : AtO w4 wr.heap.size 0 ⟨x, y, qa, qn, qc, ql⟩ := by
          have hcell : ∀ k, w4.cell? ⟨wr.heap.size, k, none⟩ = w3.cell? ⟨wr.heap.size, k, none⟩ := fun k => World.cell?_of_block (w := w3) (g4.block _ Z3 (fun hk => absurd (G2.out wr.heap.size hk.symm) (Nat.lt_irrefl _)))
          exact ⟨(hcell _).trans C3.1, (hcell _).trans C3.2.1, (hcell _).trans C3.2.2⟩
        have U3 : Below w.heap.size wr w3 := U2.out.trans (b3.mono K2.out.size)
        have U4 : Below w.heap.size wr w4 := U3.grown g4 K3.out.size (fun k hk => (a3.ge hk).1)
        have bt4 := HBt.out.below U4
        obtain ⟨A5, c5, w5, r5, a5, g5, e5⟩ := acc_append a4 (cc := qc) bt4 K4.size (by rw [List.length_append, ← HMl.out, hdL_length]; omega) 31
        rw [List.length_append, ← HMl.out, hdL_length] at r5
        have K5 := Lib.hid (bel_acc K4 a4 g5)
        have R4 := Lib.hid r4
        have R5 := Lib.hid r5
        have A5' := Lib.hid a5
        have c42 := C4.2.2
        clear a3 C3 Z3 o3 r4 a4 g4 e4 K4 C4 bt4 r5 a5 g5 e5 b3 ho U3 U4
        go_wp2_with (at_builtin; first | refine step_append (o := ⟨some 28, _, _, _, _, _⟩) rfl rfl rfl rfl R4.out ?_ | refine step_append (o := ⟨some 32, _, _, _, _, _⟩) rfl rfl rfl rfl R5.out ?_)
        refine ⟨⟨j + 1, m + 4 + qn, c5, A5, by omega, by go_num, rfl, by omega, ?_, ?_, K5.out⟩, by simp [intOf]; omega⟩
        · exact (by rw [HT.out, obsL_snoc, HOb.out, List.length_append, List.length_append, hdL_length, HMl.out, HBt.out.1]; omega : m + 4 + qn = (obsL (vals (qs.take (j + 1)))).length)
        · rw [HT.out, obsL_snoc, HOb.out, ← List.append_assoc]; exact A5'.out
      · have hjn : j = n := by omega
        subst hjn
        have e1 : qs.take j = qs := List.take_of_length_le (by rw [HL.out]; exact Nat.le_refl _)
        rw [e1] at HA HMl
        go_wp2
        go_ret2
        refine ⟨A, cc, ?_, ?_, HBel.out⟩
        · rw [H0.out, HE.out, ← HMl.out]; rfl
        · rw [HE.out]; exact HA.out
  · have hb : (oErr (vals qs) != 0) = true := by simpa using h0
    have HE := Lib.hid (show oErr (vals qs) = oErr (vals qs) from rfl)
    generalize hN : oErr (vals qs) = N at *
    have HN := Lib.hid hN
    clear hN HE
    generalize (oEnc (vals qs)).length = M
    go_wp2
    go_ret2
    exact obEncPost_no HN.out h0 rfl B1.out
end Go.Proofs.Ythmgpffpiggomaa

namespace Go.Proofs.Ythmgpffpiggomaa
open Go.RowKit

section
variable {w : World} {r g i : Nat} {l : List UInt8}
theorem uint_two (h : Rdr w r g l i 0) (hn : i + 2 ≤ l.length) :
    Calls Try.prog 33 #[.pointer (some ⟨r, 0, none⟩), .int .i64 2] w fun e w' => e = .returned (.int .u64 ((num ((l.drop i).take 2) : Nat) : Int)) ∧ Rdr w' r g l (i + 2) 0 ∧ w.grownBy w' (some r) :=
  uint_ok h 2 (by omega) (by omega) hn
theorem uint_one (h : Rdr w r g l i 0) (hn : i + 1 ≤ l.length) :
    Calls Try.prog 33 #[.pointer (some ⟨r, 0, none⟩), .int .i64 1] w fun e w' => e = .returned (.int .u64 ((num ((l.drop i).take 1) : Nat) : Int)) ∧ Rdr w' r g l (i + 1) 0 ∧ w.grownBy w' (some r) :=
  uint_ok h 1 (by omega) (by omega) hn
end

theorem uErr_stay (l : List UInt8) (p : Nat) : uErr l p 4 1 = 4 := by unfold uErr errOf; rw [if_neg (by omega)]
theorem uErr_lack (l : List UInt8) (p : Nat) (n : Int) (hw : wid n = true) (h : (l.length : Int) - (p : Int) < n) : uErr l p 0 n = 4 := by
  unfold uErr errOf; rw [if_pos rfl, hw, if_pos rfl, if_pos h]
theorem uErr_have (l : List UInt8) (p : Nat) (n : Int) (hw : wid n = true) (h : n ≤ (l.length : Int) - (p : Int)) : uErr l p 0 n = 0 := by
  unfold uErr errOf; rw [if_pos rfl, hw, if_pos rfl, if_neg (by omega)]
theorem short_err (l : List UInt8) (i : Nat) (h : l.length < i + 4) :
    uErr l (uPos l (uPos l i 0 2) (uErr l i 0 2) 1) (uErr l (uPos l i 0 2) (uErr l i 0 2) 1) 1 = 4 := by
  have w2 : wid 2 = true := by decide
  have w1 : wid 1 = true := by decide
  by_cases h2 : l.length < i + 2
  · rw [uErr_lack l i 2 w2 (by omega), uErr_stay, uErr_stay]
  · have e1 := uErr_have l i 2 w2 (by omega)
    have p1 : uPos l i 0 2 = i + 2 := by unfold uPos; rw [if_pos e1]; rfl
    rw [e1, p1]
    by_cases h3 : l.length < i + 3
    · rw [uErr_lack l (i + 2) 1 w1 (by omega), uErr_stay]
    · have e2 := uErr_have l (i + 2) 1 w1 (by omega)
      have p2 : uPos l (i + 2) 0 1 = i + 3 := by unfold uPos; rw [if_pos e2]; rfl
      rw [e2, p2, uErr_lack l (i + 3) 1 w1 (by omega)]

theorem Blk.grown {w w' : World} {q r : Nat} {T : TypeId} {vs : List Value} (h : Blk w q T vs) (hg : w.grownBy w' (some r)) (hne : q ≠ r) : Blk w' q T vs :=
  h.same (hg.block q h.lt (fun e => hne (by injection e)))
theorem Blk.set3o {w : World} {q : Nat} {T : TypeId} {u0 u1 u2 : Value} (h : Blk w q T [u0, u1, u2]) (v0 v1 v2 : Value) : Blk (((w.setCell ⟨q, 0, none⟩ v0).setCell ⟨q, 1, none⟩ v1).setCell ⟨q, 2, none⟩ v2) q T [v0, v1, v2] := ((h.set 0 v0).set 1 v1).set 2 v2
theorem block_set3 (w : World) {q k : Nat} (h : k ≠ q) (v0 v1 v2 : Value) : (((w.setCell ⟨q, 0, none⟩ v0).setCell ⟨q, 1, none⟩ v1).setCell ⟨q, 2, none⟩ v2).heap[k]? = w.heap[k]? := by
  rw [Below.heap_setCell _ _ _ _ h, Below.heap_setCell _ _ _ _ h, Below.heap_setCell _ _ _ _ h]
theorem upd_set3 {a w : World} {row : Option Nat} {q : Nat} (h : a.grownBy w row) (hq : a.heap.size ≤ q) (v0 v1 v2 : Value) : a.grownBy (((w.setCell ⟨q, 0, none⟩ v0).setCell ⟨q, 1, none⟩ v1).setCell ⟨q, 2, none⟩ v2) row :=
  ⟨h.os, h.tape, h.output, by simp [World.setCell]; exact h.size, fun k hk hne => (block_set3 w (by omega) v0 v1 v2).trans (h.block k hk hne)⟩
theorem Rdr.set3 {w : World} {r g i q : Nat} {l : List UInt8} {err : Int} (h : Rdr w r g l i err) (hr : r ≠ q) (hg : g ≠ q) (v0 v1 v2 : Value) : Rdr (((w.setCell ⟨q, 0, none⟩ v0).setCell ⟨q, 1, none⟩ v1).setCell ⟨q, 2, none⟩ v2) r g l i err :=
  h.same (block_set3 w hr v0 v1 v2) (block_set3 w hg v0 v1 v2)

/-- What 'read' answers where something is wrong. -/
def ReadNo (w : World) (r : Nat) (err : Int) (e : Ending) (w' : World) : Prop :=
  e = .returned (.tuple #[.agg #[.int .i64 0, .int .i64 0, .slice none 0 0], .int .i64 err]) ∧ w.grownBy w' (some r)
/-- What it answers where nothing is: an object whose bytes lie in new memory. -/
def ReadOk (w : World) (r g : Nat) (l : List UInt8) (i : Nat) (x y : Int) (M : Nat) (e : Ending) (w' : World) : Prop :=
  ∃ gb, e = .returned (.tuple #[.agg #[.int .i64 x, .int .i64 y, .slice (some ⟨gb, 0, none⟩) (M - 4) (M - 4)], .int .i64 0]) ∧ w.heap.size ≤ gb ∧ Own w' gb ((l.drop (i + 4)).take (M - 4)) ∧ Rdr w' r g l (i + M) 0 ∧ w.grownBy w' (some r)

section
variable {w : World} {r g i : Nat} {l : List UInt8}

set_option maxHeartbeats 400000 in
theorem read_short (h : Rdr w r g l i 0) (hs : l.length < i + 4) :
    Calls Try.prog 36 #[.pointer (some ⟨r, 0, none⟩)] w (ReadNo w r 4) := by
  have hrl := h.lt
  have b0 := bel_new (Below.refl w.heap.size w) (.cells #[.int .i64 0, .int .i64 0, .slice none 0 0] 67)
  have R0 := Lib.hid (h.bel b0)
  have Q0 := Lib.hid (Blk.new w 67 [.int .i64 0, .int .i64 0, .slice none 0 0])
  have U0 := Lib.hid (upd_below b0 (some r))
  have HE := Lib.hid (short_err l i hs)
  clear h b0
  go_enter Try.func36, Try.ntmps36
  go_wp2_with fail
  generalize (w.alloc (.cells #[.int .i64 0, .int .i64 0, .slice none 0 0] 67)) = w0 at *
  ((with_reducible refine (uint_any R0.out 2).mono ?_))
  rintro e w1 ⟨rfl, h1, u1⟩
  have R1 := Lib.hid h1
  have Q1 := Lib.hid (Q0.out.grown u1 (by omega))
  have U1 := Lib.hid (upd_trans U0.out u1)
  clear h1 u1
  generalize uVal l i 0 2 = V1
  go_wp2_with fail
  ((with_reducible refine (uint_any R1.out 1).mono ?_))
  rintro e w2 ⟨rfl, h2, u2⟩
  have R2 := Lib.hid h2
  have Q2 := Lib.hid (Q1.out.grown u2 (by omega))
  have U2 := Lib.hid (upd_trans U1.out u2)
  clear h2 u2
  generalize uVal l (uPos l i 0 2) (uErr l i 0 2) 1 = V2
  go_wp2_with fail
  ((with_reducible refine (uint_any R2.out 1).mono ?_))
  rintro e w3 ⟨rfl, h3, u3⟩
  rw [HE.out] at h3
  have R3 := Lib.hid h3
  have Q3 := Lib.hid (Q2.out.grown u3 (by omega))
  have U3 := Lib.hid (upd_trans U2.out u3)
  clear h3 u3
  generalize uVal l _ _ 1 = V3
  go_wp2_with fail
  ((with_reducible refine (err_calls R3.out).mono ?_))
  rintro e w4 ⟨rfl, rfl⟩
  go_wp2_with fail
  ((with_reducible refine (err_calls R3.out).mono ?_))
  rintro e w4 ⟨rfl, rfl⟩
  have r0 : w3.cell? ⟨w.heap.size, 0, none⟩ = some (.int .i64 0) := Q3.out.cell 0
  have r1 : w3.cell? ⟨w.heap.size, 1, none⟩ = some (.int .i64 0) := Q3.out.cell 1
  have r2 : w3.cell? ⟨w.heap.size, 2, none⟩ = some (.slice none 0 0) := Q3.out.cell 2
  have f0 := Q3.out.free 0
  have f1 := Q3.out.free 1
  have f2 := Q3.out.free 2
  go_wp2
  have hq := Q3.out.set3o (.int .i64 0) (.int .i64 0) (.slice none 0 0)
  have y0 := hq.cell 0
  have y1 := hq.cell 1
  have y2 := hq.cell 2
  simp only [List.getElem?_cons_zero, List.getElem?_cons_succ] at y0 y1 y2
  refine bodyPost_ret (v := .tuple #[.agg #[.int .i64 0, .int .i64 0, .slice none 0 0], .int .i64 4]) (by simp [results, Try.results36, go_sem, y0, y1, y2]) rfl ?_
  exact ⟨rfl, upd_set3 U3.out (Nat.le_refl _) _ _ _⟩

set_option maxHeartbeats 400000 in
theorem read_form (h : Rdr w r g l i 0) (hs : i + 4 ≤ l.length) (hf : oNum (l.drop i) < 4 ∨ oNum (l.drop i) % 4 ≠ 0) :
    Calls Try.prog 36 #[.pointer (some ⟨r, 0, none⟩)] w (ReadNo w r 5) := by
  have hrl := h.lt
  have b0 := bel_new (Below.refl w.heap.size w) (.cells #[.int .i64 0, .int .i64 0, .slice none 0 0] 67)
  have R0 := Lib.hid (h.bel b0)
  have Q0 := Lib.hid (Blk.new w 67 [.int .i64 0, .int .i64 0, .slice none 0 0])
  have U0 := Lib.hid (upd_below b0 (some r))
  have HN := Lib.hid (show num ((l.drop i).take 2) = oNum (l.drop i) from rfl)
  have hN := oNum_lt (l.drop i)
  generalize oNum (l.drop i) = N at *
  clear h b0
  go_enter Try.func36, Try.ntmps36
  go_wp2_with fail
  generalize (w.alloc (.cells #[.int .i64 0, .int .i64 0, .slice none 0 0] 67)) = w0 at *
  ((with_reducible refine (uint_two R0.out (by omega)).mono ?_))
  rintro e w1 ⟨rfl, h1, u1⟩
  rw [HN.out]
  have R1 := Lib.hid h1
  have Q1 := Lib.hid (Q0.out.grown u1 (by omega))
  have U1 := Lib.hid (upd_trans U0.out u1)
  clear h1 u1
  go_wp2_with fail
  ((with_reducible refine (uint_one R1.out (by omega)).mono ?_))
  rintro e w2 ⟨rfl, h2, u2⟩
  have R2 := Lib.hid h2
  have Q2 := Lib.hid (Q1.out.grown u2 (by omega))
  have U2 := Lib.hid (upd_trans U1.out u2)
  clear h2 u2
  generalize num ((l.drop (i + 2)).take 1) = V2
  go_wp2_with fail
  ((with_reducible refine (uint_one R2.out (by omega)).mono ?_))
  rintro e w3 ⟨rfl, h3, u3⟩
  have R3 := Lib.hid h3
  have Q3 := Lib.hid (Q2.out.grown u3 (by omega))
  have U3 := Lib.hid (upd_trans U2.out u3)
  clear h3 u3
  generalize num ((l.drop (i + 2 + 1)).take 1) = V3
  go_wp2_with fail
  ((with_reducible refine (err_calls R3.out).mono ?_))
  rintro e w4 ⟨rfl, rfl⟩
  have r0 : w3.cell? ⟨w.heap.size, 0, none⟩ = some (.int .i64 0) := Q3.out.cell 0
  have r1 : w3.cell? ⟨w.heap.size, 1, none⟩ = some (.int .i64 0) := Q3.out.cell 1
  have r2 : w3.cell? ⟨w.heap.size, 2, none⟩ = some (.slice none 0 0) := Q3.out.cell 2
  have f0 := Q3.out.free 0
  have f1 := Q3.out.free 1
  have f2 := Q3.out.free 2
  have hq := Q3.out.set3o (.int .i64 0) (.int .i64 0) (.slice none 0 0)
  have y0 := hq.cell 0
  have y1 := hq.cell 1
  have y2 := hq.cell 2
  simp only [List.getElem?_cons_zero, List.getElem?_cons_succ] at y0 y1 y2
  have Y0 := Lib.hid y0
  have Y1 := Lib.hid y1
  have Y2 := Lib.hid y2
  clear y0 y1 y2 hq
  by_cases h4 : N < 4
  · clear hf
    go_wp2
    have y0 := Y0.out
    have y1 := Y1.out
    have y2 := Y2.out
    refine bodyPost_ret (v := .tuple #[.agg #[.int .i64 0, .int .i64 0, .slice none 0 0], .int .i64 5]) (by simp [results, Try.results36, go_sem, y0, y1, y2]) rfl ?_
    exact ⟨rfl, upd_set3 U3.out (Nat.le_refl _) _ _ _⟩
  · have q1 : ((N : Int) % 4 != 0) = true := by rw [bne_iff_ne]; omega
    clear hf
    go_wp2
    have y0 := Y0.out
    have y1 := Y1.out
    have y2 := Y2.out
    refine bodyPost_ret (v := .tuple #[.agg #[.int .i64 0, .int .i64 0, .slice none 0 0], .int .i64 5]) (by simp [results, Try.results36, go_sem, y0, y1, y2]) rfl ?_
    exact ⟨rfl, upd_set3 U3.out (Nat.le_refl _) _ _ _⟩

set_option maxHeartbeats 800000 in
theorem read_end (h : Rdr w r g l i 0) (hs : i + 4 ≤ l.length) (h4 : 4 ≤ oNum (l.drop i)) (hm : oNum (l.drop i) % 4 = 0) (he : l.length < i + oNum (l.drop i)) :
    Calls Try.prog 36 #[.pointer (some ⟨r, 0, none⟩)] w (ReadNo w r 4) := by
  have hrl := h.lt
  have b0 := bel_new (Below.refl w.heap.size w) (.cells #[.int .i64 0, .int .i64 0, .slice none 0 0] 67)
  have R0 := Lib.hid (h.bel b0)
  have Q0 := Lib.hid (Blk.new w 67 [.int .i64 0, .int .i64 0, .slice none 0 0])
  have U0 := Lib.hid (upd_below b0 (some r))
  have HN := Lib.hid (show num ((l.drop i).take 2) = oNum (l.drop i) from rfl)
  have hN := oNum_lt (l.drop i)
  generalize oNum (l.drop i) = N at *
  have q1 : ((N : Int) % 4 != 0) = false := by rw [bne_eq_false_iff_eq]; omega
  have HX := Lib.hid (show errOf 0 (decide (0 ≤ (N : Int) - 4)) ((N : Int) - 4) ((l.length : Int) - ((i + 2 + 1 + 1 : Nat) : Int)) = 4 by
    unfold errOf; rw [if_pos rfl, if_pos (decide_eq_true (by omega)), if_pos (by omega)])
  clear h b0
  go_enter Try.func36, Try.ntmps36
  go_wp2_with fail
  generalize (w.alloc (.cells #[.int .i64 0, .int .i64 0, .slice none 0 0] 67)) = w0 at *
  ((with_reducible refine (uint_two R0.out (by omega)).mono ?_))
  rintro e w1 ⟨rfl, h1, u1⟩
  rw [HN.out]
  have R1 := Lib.hid h1
  have Q1 := Lib.hid (Q0.out.grown u1 (by omega))
  have U1 := Lib.hid (upd_trans U0.out u1)
  clear h1 u1
  go_wp2_with fail
  ((with_reducible refine (uint_one R1.out (by omega)).mono ?_))
  rintro e w2 ⟨rfl, h2, u2⟩
  have R2 := Lib.hid h2
  have Q2 := Lib.hid (Q1.out.grown u2 (by omega))
  have U2 := Lib.hid (upd_trans U1.out u2)
  clear h2 u2
  generalize num ((l.drop (i + 2)).take 1) = V2
  go_wp2_with fail
  ((with_reducible refine (uint_one R2.out (by omega)).mono ?_))
  rintro e w3 ⟨rfl, h3, u3⟩
  have R3 := Lib.hid h3
  have Q3 := Lib.hid (Q2.out.grown u3 (by omega))
  have U3 := Lib.hid (upd_trans U2.out u3)
  clear h3 u3
  generalize num ((l.drop (i + 2 + 1)).take 1) = V3
  go_wp2_with fail
  ((with_reducible refine (err_calls R3.out).mono ?_))
  rintro e w4 ⟨rfl, rfl⟩
  have HB := Lib.hid (bytes_no R3.out ((N : Int) - 4) (by rw [HX.out]; omega))
  go_wp2_with fail
  ((with_reducible refine HB.out.mono ?_))
  rintro e w4 ⟨rfl, h4', u4⟩
  rw [HX.out] at h4'
  have R4 := Lib.hid h4'
  have Q4 := Lib.hid (Q3.out.grown u4 (by omega))
  have U4 := Lib.hid (upd_trans U3.out u4)
  clear h4' u4 HB
  go_wp2_with fail
  ((with_reducible refine (err_calls R4.out).mono ?_))
  rintro e w5 ⟨rfl, rfl⟩
  go_wp2_with fail
  ((with_reducible refine (err_calls R4.out).mono ?_))
  rintro e w5 ⟨rfl, rfl⟩
  have r0 : w4.cell? ⟨w.heap.size, 0, none⟩ = some (.int .i64 0) := Q4.out.cell 0
  have r1 : w4.cell? ⟨w.heap.size, 1, none⟩ = some (.int .i64 0) := Q4.out.cell 1
  have r2 : w4.cell? ⟨w.heap.size, 2, none⟩ = some (.slice none 0 0) := Q4.out.cell 2
  have f0 := Q4.out.free 0
  have f1 := Q4.out.free 1
  have f2 := Q4.out.free 2
  go_wp2
  have hq := Q4.out.set3o (.int .i64 0) (.int .i64 0) (.slice none 0 0)
  have y0 := hq.cell 0
  have y1 := hq.cell 1
  have y2 := hq.cell 2
  simp only [List.getElem?_cons_zero, List.getElem?_cons_succ] at y0 y1 y2
  refine bodyPost_ret (v := .tuple #[.agg #[.int .i64 0, .int .i64 0, .slice none 0 0], .int .i64 4]) (by simp [results, Try.results36, go_sem, y0, y1, y2]) rfl ?_
  exact ⟨rfl, upd_set3 U4.out (Nat.le_refl _) _ _ _⟩

set_option maxHeartbeats 800000 in
theorem read_ok (h : Rdr w r g l i 0) (hs : i + 4 ≤ l.length) (M : Nat) (hN : oNum (l.drop i) = M) (h4 : 4 ≤ M) (hm : M % 4 = 0) (he : i + M ≤ l.length) :
    Calls Try.prog 36 #[.pointer (some ⟨r, 0, none⟩)] w (ReadOk w r g l i ((num ((l.drop (i + 2)).take 1) : Nat) : Int) ((num ((l.drop (i + 3)).take 1) : Nat) : Int) M) := by
  have hrl := h.lt
  have hgl := h.2.1.lt
  have b0 := bel_new (Below.refl w.heap.size w) (.cells #[.int .i64 0, .int .i64 0, .slice none 0 0] 67)
  have R0 := Lib.hid (h.bel b0)
  have Q0 := Lib.hid (Blk.new w 67 [.int .i64 0, .int .i64 0, .slice none 0 0])
  have U0 := Lib.hid (upd_below b0 (some r))
  have hNl := oNum_lt (l.drop i)
  have HN := Lib.hid (show num ((l.drop i).take 2) = M from hN)
  have hN2 : M < 65536 := by omega
  have q1 : ((M : Int) % 4 != 0) = false := by rw [bne_eq_false_iff_eq]; omega
  have hV2 := num_lt ((l.drop (i + 2)).take 1)
  have hV3 := num_lt ((l.drop (i + 2 + 1)).take 1)
  have p2 : 256 ^ ((l.drop (i + 2)).take 1).length ≤ 256 ^ 1 := Nat.pow_le_pow_right (by omega) (by simp; omega)
  have p3 : 256 ^ ((l.drop (i + 2 + 1)).take 1).length ≤ 256 ^ 1 := Nat.pow_le_pow_right (by omega) (by simp; omega)
  have hv2 : num ((l.drop (i + 2)).take 1) < 256 := by omega
  have hv3 : num ((l.drop (i + 2 + 1)).take 1) < 256 := by omega
  clear h b0 hN hNl hV2 hV3 p2 p3
  go_enter Try.func36, Try.ntmps36
  go_wp2_with fail
  have Z0 := Lib.hid (show w.heap.size < (w.alloc (.cells #[.int .i64 0, .int .i64 0, .slice none 0 0] 67)).heap.size by simp)
  generalize (w.alloc (.cells #[.int .i64 0, .int .i64 0, .slice none 0 0] 67)) = w0 at *
  ((with_reducible refine (uint_two R0.out (by omega)).mono ?_))
  rintro e w1 ⟨rfl, h1, u1⟩
  rw [HN.out]
  have R1 := Lib.hid h1
  have Q1 := Lib.hid (Q0.out.grown u1 (by omega))
  have U1 := Lib.hid (upd_trans U0.out u1)
  have Z1 := Lib.hid (Nat.lt_of_lt_of_le Z0.out u1.size)
  clear h1 u1
  go_wp2_with fail
  ((with_reducible refine (uint_one R1.out (by omega)).mono ?_))
  rintro e w2 ⟨rfl, h2, u2⟩
  have R2 := Lib.hid h2
  have Q2 := Lib.hid (Q1.out.grown u2 (by omega))
  have U2 := Lib.hid (upd_trans U1.out u2)
  have Z2 := Lib.hid (Nat.lt_of_lt_of_le Z1.out u2.size)
  clear h2 u2
  have e3 : i + 3 = i + 2 + 1 := rfl
  rw [e3]
  clear e3
  generalize num ((l.drop (i + 2)).take 1) = V2 at *
  go_wp2_with fail
  ((with_reducible refine (uint_one R2.out (by omega)).mono ?_))
  rintro e w3 ⟨rfl, h3, u3⟩
  have R3 := Lib.hid h3
  have Q3 := Lib.hid (Q2.out.grown u3 (by omega))
  have U3 := Lib.hid (upd_trans U2.out u3)
  have Z3 := Lib.hid (Nat.lt_of_lt_of_le Z2.out u3.size)
  clear h3 u3
  generalize num ((l.drop (i + 2 + 1)).take 1) = V3 at *
  go_wp2_with fail
  ((with_reducible refine (err_calls R3.out).mono ?_))
  rintro e w4 ⟨rfl, rfl⟩
  have HB := Lib.hid (bytes_i R3.out ((M : Int) - 4) (by omega) (by omega))
  go_wp2_with fail
  ((with_reducible refine HB.out.mono ?_))
  rintro e w4 ⟨gb, rfl, hgb, o4, h4', u4⟩
  have hMN : ((M : Int) - 4).toNat = M - 4 := by omega
  rw [hMN] at o4 h4' ⊢
  have ZL := Lib.hid (Nat.lt_of_lt_of_le Z3.out hgb)
  have ei : i + 2 + 1 + 1 = i + 4 := rfl
  rw [ei] at o4 h4'
  have e5 : i + 4 + (M - 4) = i + M := by omega
  rw [e5] at h4'
  have R4 := Lib.hid h4'
  have O4 := Lib.hid o4
  have Q4 := Lib.hid (Q3.out.grown u4 (by omega))
  have U4 := Lib.hid (upd_trans U3.out u4)
  clear h4' u4 HB o4 hMN ei e5 hgb
  go_wp2_with fail
  ((with_reducible refine (err_calls R4.out).mono ?_))
  rintro e w5 ⟨rfl, rfl⟩
  have r0 : w4.cell? ⟨w.heap.size, 0, none⟩ = some (.int .i64 0) := Q4.out.cell 0
  have r1 : w4.cell? ⟨w.heap.size, 1, none⟩ = some (.int .i64 0) := Q4.out.cell 1
  have r2 : w4.cell? ⟨w.heap.size, 2, none⟩ = some (.slice none 0 0) := Q4.out.cell 2
  have f0 := Q4.out.free 0
  have f1 := Q4.out.free 1
  have f2 := Q4.out.free 2
  go_wp2
  have hq := Q4.out.set3o (.int .i64 (V2 : Int)) (.int .i64 (V3 : Int)) (.slice (some ⟨gb, 0, none⟩) (M - 4) (M - 4))
  have y0 := hq.cell 0
  have y1 := hq.cell 1
  have y2 := hq.cell 2
  simp only [List.getElem?_cons_zero, List.getElem?_cons_succ] at y0 y1 y2
  refine bodyPost_ret (v := .tuple #[.agg #[.int .i64 (V2 : Int), .int .i64 (V3 : Int), .slice (some ⟨gb, 0, none⟩) (M - 4) (M - 4)], .int .i64 0]) (by simp [results, Try.results36, go_sem, y0, y1, y2]) rfl ?_
  have hzl := ZL.out
  exact ⟨gb, rfl, by omega, O4.out.same (block_set3 w4 (by omega) _ _ _), R4.out.set3 (by omega) (by omega) _ _ _, upd_set3 U4.out (Nat.le_refl _) _ _ _⟩
end
end Go.Proofs.Ythmgpffpiggomaa

namespace Go.Proofs.Ythmgpffpiggomaa
open Go.RowKit

theorem Try.infoObj : (Try.prog.info? 67).map (fun i => (i.zero, i.size, i.bytes)) = some (some (.agg #[.int .i64 0, .int .i64 0, .slice none 0 0]), 3, 40) := by kernel_rfl

/-- Objects that a call itself gathers. -/
def AccO (w : World) (base : Nat) (A : Option Addr) (c : Nat) (qs : List Ob) : Prop := AccR eo 3 w base 67 A c qs
theorem acco_push {w : World} {base c : Nat} {A : Option Addr} {qs : List Ob} (h : AccO w base A c qs) (q : Ob) (hbase : base ≤ w.heap.size) (hlen : qs.length ≤ 1099511627776) (ty : TypeId) :
    ∃ A' c' w', (Builtin.append_ #[46, 46] ty #[.slice A qs.length c, .slice (some ⟨w.heap.size, 0, none⟩) 1 1]).run Try.prog (w.alloc (.cells (eo q).toArray 67)) = .ok (.slice A' (qs.length + 1) c') w' ∧
      AccO w' base A' c' (qs ++ [q]) ∧ w.grownBy w' (blk A) :=
  accr_push eo_length eo_one (by omega) h q Try.underlying46 Try.infoObj rfl hbase (by omega) (by omega)

theorem accr_kind {α : Type} {enc : α → List Value} {k : Nat} {w : World} {base c : Nat} {T : TypeId} {A : Option Addr} {l : List α} (h : AccR enc k w base T A c l) {x : Nat} (hx : blk A = some x) : ∃ cs, w.heap[x]? = some (.cells cs T (0, 0)) := by
  rcases h.2 with ⟨hv, _⟩ | ⟨g, cap, cur, hv, _, hh, _⟩
  · injection hv with e; subst e; cases hx
  · injection hv with e; subst e; injection hx with hx; subst hx; exact ⟨cur, hh⟩

/-- Bodies lie in blocks of their own from 'base' on. -/
def Bos (w : World) (base : Nat) (qs : List Ob) : Prop := ∀ q ∈ qs, ∃ gb, q.a = some ⟨gb, 0, none⟩ ∧ base ≤ gb ∧ q.l.length = q.n ∧ q.n ≤ 65536 ∧ Own w gb q.l
section
variable {w w' : World} {base : Nat} {qs : List Ob}
theorem Bos.keep (h : Bos w base qs) (hk : ∀ gb, base ≤ gb → gb < w.heap.size → (∃ l, Own w gb l) → w'.heap[gb]? = w.heap[gb]?) : Bos w' base qs := by
  intro q hq
  obtain ⟨gb, h1, h2, h3, h4, h5⟩ := h q hq
  exact ⟨gb, h1, h2, h3, h4, h5.same (hk gb h2 h5.lt ⟨_, h5⟩)⟩
theorem Bos.nil : Bos w base [] := fun q hq => by cases hq
theorem Bos.bel (h : Bos w base qs) (hb : Below w.heap.size w w') : Bos w' base qs := h.keep (fun gb _ hl _ => hb.block gb hl)
theorem Bos.turn (h : Bos w base qs) {r : Nat} (hg : w.grownBy w' (some r)) (hr : r < base) : Bos w' base qs := h.keep (fun gb hb hl _ => hg.block gb hl (fun e => by injection e with e; omega))
theorem Bos.row (h : Bos w base qs) {A : Option Addr} {base2 c : Nat} {rs : List Ob} (ha : AccO w base2 A c rs) (hg : w.grownBy w' (blk A)) : Bos w' base qs :=
  h.keep (fun gb hb hl ho => hg.block gb hl (fun e => by
    obtain ⟨cs, hc⟩ := accr_kind ha e.symm
    obtain ⟨l, ho⟩ := ho
    unfold Own at ho
    rw [ho] at hc
    injection hc with hc
    injection hc with _ ht
    exact absurd ht (by decide)))
theorem Bos.snoc (h : Bos w base qs) {q : Ob} {gb : Nat} (h1 : q.a = some ⟨gb, 0, none⟩) (h2 : base ≤ gb) (h3 : q.l.length = q.n) (h4 : q.n ≤ 65536) (h5 : Own w gb q.l) : Bos w base (qs ++ [q]) := by
  intro p hp
  rcases List.mem_append.1 hp with hp | hp
  · exact h p hp
  · obtain rfl := List.mem_singleton.1 hp
    exact ⟨gb, h1, h2, h3, h4, h5⟩
theorem Bos.lower (h : Bos w base qs) {b : Nat} (hb : b ≤ base) : Bos w b qs := by
  intro q hq
  obtain ⟨gb, h1, h2, h3, h4, h5⟩ := h q hq
  exact ⟨gb, h1, by omega, h3, h4, h5⟩
theorem Bos.bods (h : Bos w base qs) : Bods w w.heap.size qs := by
  intro q hq
  obtain ⟨gb, h1, h2, h3, h4, h5⟩ := h q hq
  refine ⟨?_, by unfold maxLen; omega⟩
  have := h5.bts h5.lt
  rw [h3] at this
  rw [h1]; exact this
end

/-- What Decode answers: objects in memory of the call's own. -/
def ObDecPost (w : World) (b : List UInt8) (e : Ending) (w' : World) : Prop :=
  ∃ A c qs, e = .returned (.tuple #[.slice A qs.length c, .int .i64 (oDec b).2]) ∧ vals qs = (oDec b).1 ∧ AccO w' w.heap.size A c qs ∧ Bos w' w.heap.size qs ∧ Below w.heap.size w w'
theorem obDecPost_no {w w' : World} {b : List UInt8} {e : Ending} {err : Int} (h : oDec b = ([], err)) (he : e = .returned (.tuple #[.slice none 0 0, .int .i64 err])) (hb : Below w.heap.size w w') : ObDecPost w b e w' :=
  ⟨none, 0, [], by rw [h, he]; rfl, by rw [h]; rfl, AccR.nil _ _ _, Bos.nil, hb⟩
theorem acco_objs {w : World} {base c : Nat} {A : Option Addr} {qs : List Ob} (h : AccO w base A c qs) (hb : Bos w base qs) : Objs w w.heap.size A qs.length qs := by
  have hr := AccR.row h
  exact ⟨hr, hb.bods⟩

theorem obdecode_big (a : Option Addr) (n c : Nat) (b : List UInt8) (w : World) (hl : b.length = n) (hn : 4096 < n) (hm : n ≤ maxLen) :
    Calls Try.prog 20 #[.slice a n c] w (ObDecPost w b) := by
  unfold maxLen at hm
  have HL := Lib.hid hl
  clear hl
  go_enter Try.func20, Try.ntmps20
  go_wp2
  go_ret2
  exact obDecPost_no (oDec_big (by rw [HL.out]; exact hn)) rfl (Below.refl _ _)

set_option maxHeartbeats 1000000 in
theorem obdecode_ok (a : Option Addr) (n c : Nat) (b : List UInt8) (w : World) (h : Bts w w.heap.size a n b) (hn : n ≤ 4096) :
    Calls Try.prog 20 #[.slice a n c] w (ObDecPost w b) := by
  have HL := Lib.hid h.1
  have hbl : b.length ≤ 4096 := by rw [HL.out]; exact hn
  have HD := Lib.hid (oDec_ok hbl)
  go_enter Try.func20, Try.ntmps20
  go_wp2_with fail
  ((with_reducible refine (new_calls a n c b w h (by omega)).mono ?_))
  rintro e w1 ⟨r, g, rfl, hr, hg, h1, b1⟩
  have hr1 : r < w1.heap.size := h1.lt
  have R1 := Lib.hid h1
  have B1 := Lib.hid b1
  clear h1 b1 h
  go_wp2
  go_loopw [5] (fun s W => ∃ (cc m p : Nat) (A : Option Addr) (qs : List Ob), s = .slice A m cc ∧ m ≤ 32 ∧ Hid (qs.length = m) ∧ AccO W w1.heap.size A cc qs ∧ Bos W w1.heap.size qs ∧ Rdr W r g b p 0 ∧ Hid (odec 32 b = cont (vals qs) (odec (32 - m) (b.drop p))) ∧ Below w.heap.size w W ∧ w1.heap.size ≤ W.heap.size) (fun s _ => 32 - lenOf s)
  case atStart => exact ⟨0, 0, 0, none, [], rfl, Nat.zero_le _, by exact rfl, AccR.nil _ _ _, Bos.nil, R1.out, (cont_nil _ (odec_err _ _)).symm, B1.out, Nat.le_refl _⟩
  case round =>
    obtain ⟨cc, m, p, A, qs, rfl, hm, HQL, hA, hBo, hR, HO, hbel, hsz⟩ := hrel
    have hpl := hR.2.2.1
    have HA := Lib.hid hA
    have HBo := Lib.hid hBo
    have HR := Lib.hid hR
    have HBel := Lib.hid hbel
    have HSZ := Lib.hid hsz
    clear hA hBo hR hbel hsz
    go_wp2_with fail
    ((with_reducible refine (left_calls HR.out).mono ?_))
    rintro e w2 ⟨rfl, md, rfl⟩
    by_cases hend : p = b.length
    · subst hend
      have hfin : oDec b = (vals qs, 0) := by
        rw [HD.out, HO.out, List.drop_length, odec_none]; unfold cont; rw [if_pos rfl, List.append_nil]
      have HF := Lib.hid hfin
      clear hfin
      go_wp2
      go_ret2
      exact ⟨A, cc, qs, by rw [HF.out, HQL.out]; rfl, by rw [HF.out], AccR.drewN (AccR.lower HA.out B1.out.size) md, HBo.out.lower B1.out.size, bel_drewN HBel.out md⟩
    · have hlt : p < b.length := by omega
      have hd0 : 0 < (b.drop p).length := by simp; omega
      by_cases hfull : m = 32
      · subst hfull
        have hfin : oDec b = ([], 3) := by
          rw [HD.out, HO.out, Nat.sub_self, odec_full hd0, cont_no _ (by omega)]
        have HF := Lib.hid hfin
        clear hfin
        go_wp2
        go_ret2
        exact obDecPost_no HF.out rfl (bel_drewN HBel.out md)
      · have hm32 : ((m : Int) == 32) = false := by rw [beq_eq_false_iff_ne]; omega
        have hk : 32 - m = (32 - (m + 1)) + 1 := by omega
        have hO := HO.out
        rw [hk] at hO
        by_cases hbad : oBad (b.drop p) = 0
        · obtain ⟨z1, z2, z3, z4⟩ := oBad_zero hbad
          rw [List.length_drop] at z1 z4
          have hO2 : odec 32 b = cont (vals qs ++ [oHere (b.drop p)]) (odec (32 - (m + 1)) (b.drop (p + oNum (b.drop p)))) := by
            rw [hO, odec_more _ hbad, cont_cont, List.drop_drop]
          have hN := oNum_lt (b.drop p)
          have hH : oHere (b.drop p) = (((num ((b.drop (p + 2)).take 1) : Nat) : Int), ((num ((b.drop (p + 3)).take 1) : Nat) : Int), (b.drop (p + 4)).take (oNum (b.drop p) - 4)) := by
            unfold oHere; rw [List.drop_drop, List.drop_drop, List.drop_drop]
          rw [hH] at hO2
          have HO2 := Lib.hid hO2
          have HRD := Lib.hid (read_ok (HR.out.drewN md) (by omega) (oNum (b.drop p)) rfl z2 z3 (by omega))
          have HBL := Lib.hid (show ((b.drop (p + 4)).take (oNum (b.drop p) - 4)).length = oNum (b.drop p) - 4 by rw [List.length_take, List.length_drop]; omega)
          clear hO hO2 hH
          generalize oNum (b.drop p) = M at *
          generalize hbd : (b.drop (p + 4)).take (M - 4) = bd at *
          have HBD := Lib.hid hbd
          clear hbd
          generalize num ((b.drop (p + 2)).take 1) = V2 at *
          generalize num ((b.drop (p + 3)).take 1) = V3 at *
          go_wp2_with fail
          ((with_reducible refine HRD.out.mono ?_))
          rintro e w3 ⟨gb, rfl, hgb, ho, h3, u3⟩
          rw [HBD.out] at ho
          have gl := HR.out.2.1.lt
          have a3 : AccO w3 w1.heap.size A cc qs := AccR.kept (AccR.drewN HA.out md) u3 (fun x hx e => by have := (AccR.ge HA.out hx).1; injection e with e; omega)
          have s3 : Bos w3 w1.heap.size qs := Bos.turn (show Bos (wr.drewN md) w1.heap.size qs from HBo.out) u3 hr1
          have k3 := bel_upd (bel_drewN HBel.out md) u3 (Nat.le_refl _) hr
          have sz3 : w1.heap.size ≤ w3.heap.size := Nat.le_trans HSZ.out u3.size
          have hgb1 : w1.heap.size ≤ gb := Nat.le_trans HSZ.out hgb
          have k4' := bel_new (Below.refl w3.heap.size w3) (.cells #[.int .i64 (V2 : Int), .int .i64 (V3 : Int), .slice (some ⟨gb, 0, none⟩) (M - 4) (M - 4)] 67)
          have a4 : AccO (w3.alloc (.cells #[.int .i64 (V2 : Int), .int .i64 (V3 : Int), .slice (some ⟨gb, 0, none⟩) (M - 4) (M - 4)] 67)) w1.heap.size A cc qs := AccR.alloc a3 _
          have s4 := s3.bel k4'
          have k4 := bel_more k3 (Nat.le_refl _) k4'
          have o4 := ho.below k4' ho.lt
          have h4 := h3.bel k4'
          have sz4 := Nat.le_trans sz3 k4'.size
          obtain ⟨A5, c5, w5, r5, a5, g5⟩ := acco_push a4 ⟨(V2 : Int), (V3 : Int), some ⟨gb, 0, none⟩, M - 4, M - 4, bd⟩ sz4 (by rw [HQL.out]; omega) 46
          have ne5 : ∀ x, blk A = some x → w1.heap.size ≤ x := fun x hx => (AccR.ge a4 hx).1
          have hg1 : g < w1.heap.size := R1.out.2.1.lt
          have h5 : Rdr w5 r g b (p + M) 0 := h4.same (g5.block r (by omega) (fun e => by have := ne5 r e.symm; omega)) (g5.block g (by omega) (fun e => by have := ne5 g e.symm; omega))
          have bel5 : Below w.heap.size w w5 := k4.grown g5 k4.size (fun x hx => Nat.le_trans B1.out.size (ne5 x hx))
          have s5 : Bos w5 w1.heap.size (qs ++ [⟨(V2 : Int), (V3 : Int), some ⟨gb, 0, none⟩, M - 4, M - 4, bd⟩]) :=
            (s4.snoc (q := ⟨(V2 : Int), (V3 : Int), some ⟨gb, 0, none⟩, M - 4, M - 4, bd⟩) rfl hgb1 HBL.out (by show M - 4 ≤ 65536; omega) o4).row a4 g5
          have sz5 := Nat.le_trans sz4 g5.size
          rw [HQL.out, World.size_alloc] at r5
          have R5 := Lib.hid (show (Builtin.append_ #[46, 46] 46 #[.slice A m cc, .slice (some ⟨w3.heap.size + 1, 0, none⟩) 1 1]).run Try.prog ((w3.alloc (.cells #[.int .i64 (V2 : Int), .int .i64 (V3 : Int), .slice (some ⟨gb, 0, none⟩) (M - 4) (M - 4)] 67)).alloc (.cells #[.int .i64 (V2 : Int), .int .i64 (V3 : Int), .slice (some ⟨gb, 0, none⟩) (M - 4) (M - 4)] 67)) = .ok (.slice A5 (m + 1) c5) w5 from r5)
          have A5' := Lib.hid a5
          have H5 := Lib.hid h5
          have BEL5 := Lib.hid bel5
          have S5 := Lib.hid s5
          have SZ5 := Lib.hid sz5
          clear ho h3 u3 a3 s3 k3 sz3 hgb1 k4' a4 s4 k4 o4 h4 sz4 r5 a5 g5 ne5 h5 bel5 s5 sz5 HRD hgb
          go_wp2_with (at_builtin; refine step_append rfl rfl rfl rfl R5.out ?_)
          refine ⟨⟨c5, m + 1, p + M, A5, _, rfl, by omega, ?_, A5'.out, S5.out, H5.out, ?_, BEL5.out, SZ5.out⟩, by simp [lenOf]; omega⟩
          · exact (by rw [List.length_append, HQL.out]; rfl : (qs ++ [(⟨(V2 : Int), (V3 : Int), some ⟨gb, 0, none⟩, M - 4, M - 4, bd⟩ : Ob)]).length = m + 1)
          · exact (by rw [vals_append]; exact HO2.out : odec 32 b = cont (vals (qs ++ [(⟨(V2 : Int), (V3 : Int), some ⟨gb, 0, none⟩, M - 4, M - 4, bd⟩ : Ob)])) (odec (32 - (m + 1)) (b.drop (p + M))))
        · have hfin : oDec b = ([], oBad (b.drop p)) := by rw [HD.out, hO, odec_bad _ hd0 hbad, cont_no _ hbad]
          have HF := Lib.hid hfin
          have hRD : Calls Try.prog 36 #[.pointer (some ⟨r, 0, none⟩)] (wr.drewN md) (ReadNo (wr.drewN md) r (oBad (b.drop p))) := by
            by_cases h4 : b.length < p + 4
            · rw [oBad_short (by simp; omega)]; exact read_short (HR.out.drewN md) h4
            · by_cases hf : oNum (b.drop p) < 4 ∨ oNum (b.drop p) % 4 ≠ 0
              · rw [oBad_form (by simp; omega) hf]; exact read_form (HR.out.drewN md) (by omega) hf
              · by_cases he : b.length < p + oNum (b.drop p)
                · rw [oBad_end (by simp; omega) (by omega) (by omega) (by simp; omega)]; exact read_end (HR.out.drewN md) (by omega) (by omega) (by omega) he
                · exact absurd (oBad_ok (by simp; omega) (by omega) (by omega) (by simp; omega)) hbad
          have HRD := Lib.hid hRD
          have hbb : (oBad (b.drop p) != 0) = true := by simpa using hbad
          clear hfin hO hRD hbad
          generalize oBad (b.drop p) = E at *
          go_wp2_with fail
          ((with_reducible refine HRD.out.mono ?_))
          rintro e w3 ⟨rfl, u3⟩
          have k3 := bel_upd (bel_drewN HBel.out md) u3 (Nat.le_refl _) hr
          have K3 := Lib.hid k3
          clear u3 k3
          go_wp2
          go_ret2
          exact obDecPost_no HF.out rfl (bel_new K3.out _)

theorem obdecode_calls (a : Option Addr) (n c : Nat) (b : List UInt8) (w : World) (h : Bts w w.heap.size a n b) (hm : n ≤ maxLen) :
    Calls Try.prog 20 #[.slice a n c] w (ObDecPost w b) := by
  by_cases hn : n ≤ 4096
  · exact obdecode_ok a n c b w h hn
  · exact obdecode_big a n c b w h.1 (by omega) hm
end Go.Proofs.Ythmgpffpiggomaa
