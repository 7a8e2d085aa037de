/-
  Sums with carry, as numbers: what a total of words comes to, and what happens to it when bytes are joined, set or exchanged. No condition: plain arithmetic.
-/
import Derived.Test.YteadmbfbkgbhpaaOctE
namespace Go.Proofs.Yteadmbfbkgbhpaa

/-- The sum of two numbers with carry. -/
def oadd (a b : Nat) : Nat := if 65535 < a + b then a + b - 65535 else a + b
/-- A total reduced to a word. -/
def red (n : Nat) : Nat := if n = 0 then 0 else (n - 1) % 65535 + 1
theorem red_le (n : Nat) : red n ≤ 65535 := by unfold red; split <;> omega
theorem red_small {n : Nat} (h : n ≤ 65535) : red n = n := by unfold red; split <;> omega
theorem red_add (n m : Nat) : oadd (red n) (red m) = red (n + m) := by
  unfold oadd red
  split <;> split <;> split <;> split <;> omega
theorem red_word (n : Nat) {m : Nat} (h : m ≤ 65535) : oadd (red n) m = red (n + m) := by rw [← red_add, red_small h]
theorem oadd_le {a b : Nat} (ha : a ≤ 65535) (hb : b ≤ 65535) : oadd a b ≤ 65535 := by unfold oadd; split <;> omega
theorem oadd_comm (a b : Nat) : oadd a b = oadd b a := by unfold oadd; rw [Nat.add_comm]
theorem oadd_assoc {a b c : Nat} (ha : a ≤ 65535) (hb : b ≤ 65535) (hc : c ≤ 65535) : oadd (oadd a b) c = oadd a (oadd b c) := by
  rw [← red_small ha, ← red_small hb, ← red_small hc, red_add, red_add, red_add, red_add, Nat.add_assoc]
theorem oadd_zero {a : Nat} (ha : a ≤ 65535) : oadd a 0 = a := by unfold oadd; split <;> omega
/-- A number that comes to nought is a multiple that is not nought. -/
theorem red_top (n : Nat) : red n = 65535 ↔ 0 < n ∧ n % 65535 = 0 := by
  unfold red; split <;> omega

/-- The plain total of the words of bytes. -/
def tot : List UInt8 → Nat
  | [] => 0
  | [x] => x.toNat * 256
  | x :: y :: r => x.toNat * 256 + y.toNat + tot r
/-- The check sum. -/
def ofL (l : List UInt8) : Nat := 65535 - red (tot l)
theorem ofL_le (l : List UInt8) : ofL l ≤ 65535 := by unfold ofL; omega
theorem ofL_back (l : List UInt8) : 65535 - ofL l = red (tot l) := by have := red_le (tot l); unfold ofL; omega
theorem ofL_zero (l : List UInt8) : ofL l = 0 ↔ 0 < tot l ∧ tot l % 65535 = 0 := by
  have := red_le (tot l)
  rw [← red_top]; unfold ofL; omega

/-- Bytes with a nought behind them where their number is odd. -/
def ev (l : List UInt8) : List UInt8 := if l.length % 2 = 0 then l else l ++ [0]
theorem ev_even (l : List UInt8) : (ev l).length % 2 = 0 := by
  unfold ev; split
  · assumption
  · simp; omega
theorem ev_length (l : List UInt8) : (ev l).length ≤ l.length + 1 := by unfold ev; split <;> simp
theorem tot_snoc : ∀ l : List UInt8, l.length % 2 = 1 → tot (l ++ [0]) = tot l
  | [], h => by simp at h
  | [x], _ => by simp [tot]
  | x :: y :: r, h => by
    have := tot_snoc r (by simp at h; omega)
    simp [tot, this]
theorem tot_ev (l : List UInt8) : tot (ev l) = tot l := by
  unfold ev; split
  · rfl
  · exact tot_snoc l (by omega)

theorem tot_append : ∀ (a b : List UInt8), a.length % 2 = 0 → tot (a ++ b) = tot a + tot b
  | [], b, _ => by simp [tot]
  | [x], b, h => by simp at h
  | x :: y :: r, b, h => by
    have := tot_append r b (by simp at h; omega)
    simp only [List.cons_append, tot, this]; omega

/-- What a byte at a place counts. -/
def wt (i : Nat) : Nat := if i % 2 = 0 then 256 else 1
theorem wt_two (i : Nat) : wt (i + 2) = wt i := by unfold wt; congr 1; simp
theorem tot_set : ∀ (l : List UInt8) (i : Nat) (h : i < l.length) (x : UInt8), tot (l.set i x) + l[i].toNat * wt i = tot l + x.toNat * wt i
  | [], i, h, x => by simp at h
  | [y], i, h, x => by
    obtain rfl : i = 0 := by simp at h; omega
    simp [tot, wt]; omega
  | y :: z :: r, 0, h, x => by simp [tot, wt]; omega
  | y :: z :: r, 1, h, x => by simp [tot, wt]; omega
  | y :: z :: r, i + 2, h, x => by
    have hi : i < r.length := by simp at h; omega
    have := tot_set r i hi x
    simp only [List.set_cons_succ, tot, List.getElem_cons_succ, wt_two]
    omega

/-- The word at an even place. -/
def word (l : List UInt8) (i : Nat) : Nat := num ((l.drop i).take 2)
theorem num_two (x y : UInt8) : num [x, y] = x.toNat * 256 + y.toNat := by simp [num]
theorem tot_two (x y : UInt8) : tot [x, y] = x.toNat * 256 + y.toNat := by simp [tot]
theorem take_two (l : List UInt8) (i : Nat) (h : i + 2 ≤ l.length) : (l.drop i).take 2 = [l[i], l[i + 1]] := by
  rw [List.drop_eq_getElem_cons (by omega), List.drop_eq_getElem_cons (by omega)]; rfl
theorem word_le (l : List UInt8) (i : Nat) (h : i + 2 ≤ l.length) : word l i ≤ 65535 := by
  unfold word
  rw [take_two l i h, num_two]
  have h1 : l[i].toNat < 256 := l[i].toNat_lt
  have h2 : l[i + 1].toNat < 256 := l[i + 1].toNat_lt
  omega
theorem tot_take (l : List UInt8) (i : Nat) (he : i % 2 = 0) (h : i + 2 ≤ l.length) : tot (l.take (i + 2)) = tot (l.take i) + word l i := by
  have e : l.take (i + 2) = l.take i ++ (l.drop i).take 2 := by rw [List.take_add]
  rw [e, tot_append _ _ (by simp; omega), take_two l i h, tot_two]
  unfold word
  rw [take_two l i h, num_two]
/-- A step of the sum: the next word. -/
theorem red_step (l : List UInt8) (i : Nat) (he : i % 2 = 0) (h : i + 2 ≤ l.length) : oadd (red (tot (l.take i))) (word l i) = red (tot (l.take (i + 2))) := by
  rw [red_word _ (word_le l i h), tot_take l i he h]
/-- The last step where the number of bytes is odd. -/
theorem red_last (l : List UInt8) (i : Nat) (he : i % 2 = 0) (h : i + 1 = l.length) : oadd (red (tot (l.take i))) (l[i].toNat * 256) = red (tot l) := by
  have hx : l[i].toNat < 256 := l[i].toNat_lt
  have e : l = l.take i ++ [l[i]] := by
    rw [← List.take_succ_eq_append_getElem (by omega), List.take_of_length_le (by omega)]
  have e2 : tot l = tot (l.take i) + l[i].toNat * 256 := by
    conv => lhs; rw [e]
    rw [tot_append _ _ (by simp; omega)]; rfl
  rw [e2, red_word _ (by omega)]

/-- A word laid at an even place. -/
def lay (l : List UInt8) (i v : Nat) : List UInt8 := l.take i ++ (dig 2 v ++ l.drop (i + 2))
theorem dig_two (v : Nat) : dig 2 v = [UInt8.ofNat (v / 256), UInt8.ofNat v] := by simp [dig]
theorem tot_dig (v : Nat) (h : v ≤ 65535) : tot (dig 2 v) = v := by rw [dig_two, tot_two]; simp [UInt8.toNat_ofNat']; omega
theorem lay_length (l : List UInt8) (i v : Nat) (h : i + 2 ≤ l.length) : (lay l i v).length = l.length := by simp [lay, dig_length]; omega
theorem lay_tot (l : List UInt8) (i v : Nat) (he : i % 2 = 0) (h : i + 2 ≤ l.length) (hv : v ≤ 65535) : tot (lay l i v) = tot (l.take i) + (v + tot (l.drop (i + 2))) := by
  unfold lay
  rw [tot_append _ _ (by simp; omega), tot_append _ _ (by rw [dig_length]), tot_dig v hv]
theorem lay_set (l : List UInt8) (i v : Nat) (h : i + 2 ≤ l.length) : (l.set i (UInt8.ofNat (v / 256))).set (i + 1) (UInt8.ofNat v) = lay l i v := by
  unfold lay
  rw [dig_two]
  apply List.ext_getElem
  · simp; omega
  · intro k h1 h2
    simp only [List.getElem_set, List.getElem_append]
    by_cases hk : k < i
    · have hp : k < (l.take i).length := by simp; omega
      have a1 : ¬ (i + 1 = k) := by omega
      have a2 : ¬ (i = k) := by omega
      simp only [hp, dite_true, a1, a2, if_false, List.getElem_take]
    · have hn : ¬ k < (l.take i).length := by simp; omega
      have hlt : (l.take i).length = i := by simp; omega
      simp only [hn, dite_false]
      by_cases k0 : k = i
      · subst k0; simp [hlt]
      · by_cases k1 : k = i + 1
        · subst k1; simp [hlt]
        · have a1 : ¬ (i + 1 = k) := by omega
          have a2 : ¬ (i = k) := by omega
          simp only [a1, a2, if_false]
          have a3 : ¬ (k - (l.take i).length < [UInt8.ofNat (v / 256), UInt8.ofNat v].length) := by simp; omega
          simp only [a3, dite_false]
          simp only [List.getElem_drop]
          congr 1
          simp; omega
theorem lay_lay (l : List UInt8) (i u v : Nat) (h : i + 2 ≤ l.length) : lay (lay l i u) i v = lay l i v := by
  rw [← lay_set (lay l i u) i v (by rw [lay_length l i u h]; exact h), ← lay_set l i u h, ← lay_set l i v h]
  apply List.ext_getElem
  · simp
  · intro k h1 h2
    simp only [List.getElem_set]
    by_cases k1 : i + 1 = k <;> by_cases k2 : i = k <;> simp [k1, k2]
/-- Sealed bytes are right. -/
theorem sealed_right (l : List UInt8) (i : Nat) (he : i % 2 = 0) (h : i + 2 ≤ l.length) : ofL (lay l i (ofL (lay l i 0))) = 0 := by
  have h1 := lay_tot l i 0 he h (by omega)
  have h2 := lay_tot l i _ he h (ofL_le (lay l i 0))
  have hr := red_le (tot (lay l i 0))
  have e : tot (lay l i (ofL (lay l i 0))) = tot (lay l i 0) + ofL (lay l i 0) := by omega
  have e2 : red (tot (lay l i (ofL (lay l i 0)))) = 65535 := by
    rw [e, ← red_word _ (ofL_le _)]
    unfold oadd ofL; split <;> omega
  show 65535 - red (tot (lay l i (ofL (lay l i 0)))) = 0
  rw [e2]
/-- Right bytes of which one is another are not right. -/
theorem finds (l : List UInt8) (i : Nat) (h : i < l.length) (x : UInt8) (hx : x ≠ l[i]) (h0 : ofL l = 0) : ofL (l.set i x) ≠ 0 := by
  intro hz
  have h1 := ((ofL_zero l).1 h0).2
  have h2 := ((ofL_zero _).1 hz).2
  have hs := tot_set l i h x
  have b1 : x.toNat < 256 := x.toNat_lt
  have b2 : l[i].toNat < 256 := l[i].toNat_lt
  have hne : x.toNat ≠ l[i].toNat := fun e => hx (UInt8.toNat_inj.1 e)
  unfold wt at hs
  generalize tot l = A at *
  generalize tot (l.set i x) = B at *
  split at hs <;> omega
end Go.Proofs.Yteadmbfbkgbhpaa
