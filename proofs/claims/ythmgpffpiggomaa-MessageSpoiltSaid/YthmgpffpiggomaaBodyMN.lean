/-
  Items and their bytes, as lists: what is written, what is read, and that each gives the other back. No condition beside what is said.
  Items as plain data: what is packed, what is unpacked, and that each gives the other back. No condition beside what is said.
-/
import Derived.Test.YthmgpffpiggomaaBodyAE
import Derived.Test.YthmgpffpiggomaaRefB
namespace Go.Proofs.Ythmgpffpiggomaa
open Go.RowKit

theorem dig_mod (k : Nat) : ∀ a r : Nat, dig k (a * 256 ^ k + r) = dig k r := by
  induction k with
  | zero => intro a r; rfl
  | succ k ih =>
    intro a r
    have e : a * 256 ^ (k + 1) + r = (a * 256) * 256 ^ k + r := by rw [Nat.pow_succ, Nat.mul_assoc, Nat.mul_comm (256 ^ k)]
    have hp : 0 < 256 ^ k := Nat.pow_pos (by omega)
    simp only [dig]
    rw [e, ih, Nat.add_comm (a * 256 * 256 ^ k), Nat.add_mul_div_right _ _ hp]
    congr 1
    apply UInt8.toNat_inj.1
    rw [UInt8.toNat_ofNat', UInt8.toNat_ofNat']
    omega
theorem num_head (x : UInt8) (l : List UInt8) : num (x :: l) = x.toNat * 256 ^ l.length + num l := by
  have h : ∀ (l : List UInt8) (s : Nat), l.foldl (fun u x => u * 256 + x.toNat) s = s * 256 ^ l.length + num l := by
    intro l
    induction l with
    | nil => intro s; simp [num]
    | cons y l ih =>
      intro s
      rw [List.foldl_cons, ih, show num (y :: l) = l.foldl (fun u x => u * 256 + x.toNat) (0 * 256 + y.toNat) from rfl, ih, List.length_cons, Nat.pow_succ, Nat.add_mul, Nat.mul_assoc, Nat.mul_comm 256]
      simp
      omega
  rw [show num (x :: l) = l.foldl (fun u x => u * 256 + x.toNat) (0 * 256 + x.toNat) from rfl, h]
  simp
theorem dig_num (l : List UInt8) : dig l.length (num l) = l := by
  induction l with
  | nil => rfl
  | cons x l ih =>
    have hp : 0 < 256 ^ l.length := Nat.pow_pos (by omega)
    have hl := num_lt l
    rw [num_head, List.length_cons]
    simp only [dig]
    rw [dig_mod, ih, Nat.add_comm, Nat.add_mul_div_right _ _ hp, Nat.div_eq_of_lt hl]
    simp
theorem dig_split (j k : Nat) : ∀ (a b : Nat), b < 256 ^ k → dig (j + k) (a * 256 ^ k + b) = dig j a ++ dig k b := by
  induction j with
  | zero => intro a b h; rw [Nat.zero_add, dig_mod]; rfl
  | succ j ih =>
    intro a b h
    have hp : 0 < 256 ^ k := Nat.pow_pos (by omega)
    rw [show j + 1 + k = (j + k) + 1 by omega]
    simp only [dig]
    rw [ih a b h, Nat.pow_add, Nat.mul_comm (256 ^ j), ← Nat.div_div_eq_div_mul, Nat.add_comm (a * 256 ^ k), Nat.add_mul_div_right _ _ hp, Nat.div_eq_of_lt h]
    simp

/-- One number that is asked for: of 'k' bytes, from 'lo' to 'hi', 'u' if it is written. -/
structure Rq where
  k : Nat
  lo : Nat
  hi : Nat
  u : Nat
def Rq.ok (q : Rq) : Prop := q.u < 256 ^ q.k ∧ q.lo ≤ q.u ∧ q.u ≤ q.hi
def Rq.wide (q : Rq) : Prop := 1 ≤ q.k ∧ q.k ≤ 8
def Rq.frm (q : Rq) : Nat × Nat × Nat := (q.k, q.lo, q.hi)
/-- All of them, one behind the other. -/
def DSt.run : List Rq → DSt → List Nat × DSt
  | [], σ => ([], σ)
  | q :: qs, σ => ((σ.num q.k q.lo q.hi q.u).1 :: (DSt.run qs (σ.num q.k q.lo q.hi q.u).2).1, (DSt.run qs (σ.num q.k q.lo q.hi q.u).2).2)
def rqL (qs : List Rq) : List UInt8 := qs.flatMap fun q => dig q.k q.u
def uus (qs : List Rq) : List Nat := qs.map Rq.u
def DSt.bad : DSt → Bool
  | .wr _ b => b
  | .rd _ _ _ b => b
def DSt.byt : DSt → List UInt8
  | .wr b _ => b
  | .rd .. => []

theorem run_wr : ∀ (qs : List Rq) (b : List UInt8), (∀ q ∈ qs, q.ok) → DSt.run qs (.wr b false) = (uus qs, .wr (b ++ rqL qs) false)
  | [], b, _ => by simp [DSt.run, uus, rqL]
  | q :: qs, b, h => by
    have h0 : q.u < 256 ^ q.k ∧ q.lo ≤ q.u ∧ q.u ≤ q.hi := h q (List.mem_cons_self ..)
    have ih := run_wr qs (b ++ dig q.k q.u) (fun x hx => h x (List.mem_cons_of_mem _ hx))
    simp only [DSt.run, DSt.num, if_pos h0, ih]
    simp [uus, rqL]
theorem run_wr_bad : ∀ (qs : List Rq) (b : List UInt8) (bad : Bool), ∃ b' bad', (DSt.run qs (.wr b bad)).2 = .wr b' bad' ∧ (bad' = false → bad = false ∧ ∀ q ∈ qs, q.ok)
  | [], b, bad => ⟨b, bad, rfl, fun h => ⟨h, by simp⟩⟩
  | q :: qs, b, bad => by
    by_cases h0 : q.u < 256 ^ q.k ∧ q.lo ≤ q.u ∧ q.u ≤ q.hi
    · obtain ⟨b', bad', e, h⟩ := run_wr_bad qs (b ++ dig q.k q.u) bad
      refine ⟨b', bad', by simp only [DSt.run, DSt.num, if_pos h0, e], fun hb => ⟨(h hb).1, ?_⟩⟩
      intro x hx
      rcases List.mem_cons.1 hx with rfl | hx
      · exact h0
      · exact (h hb).2 x hx
    · obtain ⟨b', bad', e, h⟩ := run_wr_bad qs b true
      exact ⟨b', bad', by simp only [DSt.run, DSt.num, if_neg h0, e], fun hb => by have := (h hb).1; simp at this⟩

theorem uErr_ok {l : List UInt8} {i k : Nat} (h1 : 1 ≤ k) (h8 : k ≤ 8) (hk : i + k ≤ l.length) : uErr l i 0 k = 0 := by
  have hw : wid (k : Int) = true := by simp [wid]; omega
  simp only [uErr, errOf, hw, if_true]
  rw [if_neg (by omega)]
theorem uErr_zero {l : List UInt8} {i k : Nat} {err : Int} (h : uErr l i err k = 0) : err = 0 ∧ i + k ≤ l.length := by
  obtain ⟨h1, _, h3⟩ := errOf_zero h
  exact ⟨h1, by omega⟩
theorem uPos_len {l : List UInt8} {i k : Nat} {err : Int} (hi : i ≤ l.length) : uPos l i err k ≤ l.length := by
  unfold uPos
  split
  · rename_i h; have := uErr_zero h; simp; omega
  · exact hi

theorem run_rd : ∀ (qs qs' : List Rq) (pre : List UInt8), (∀ q ∈ qs, q.ok ∧ q.wide) → qs'.map Rq.frm = qs.map Rq.frm → DSt.run qs' (.rd (pre ++ rqL qs) pre.length 0 false) = (uus qs, .rd (pre ++ rqL qs) (pre ++ rqL qs).length 0 false)
  | [], [], pre, _, _ => by simp [DSt.run, uus, rqL]
  | [], _ :: _, pre, _, h => by simp at h
  | _ :: _, [], pre, _, h => by simp at h
  | q :: qs, q' :: qs', pre, h, hf => by
    simp only [List.map_cons, List.cons.injEq] at hf
    obtain ⟨hq, hf⟩ := hf
    have ih := run_rd qs qs' (pre ++ dig q.k q.u) (fun x hx => h x (List.mem_cons_of_mem _ hx)) hf
    obtain ⟨⟨o1, o2, o3⟩, w1, w8⟩ := h q (List.mem_cons_self ..)
    simp only [Rq.frm, Prod.mk.injEq] at hq
    obtain ⟨e1, e2, e3⟩ := hq
    have el : pre ++ rqL (q :: qs) = (pre ++ dig q.k q.u) ++ rqL qs := by simp [rqL]
    have hlen : pre.length + q.k ≤ ((pre ++ dig q.k q.u) ++ rqL qs).length := by simp [dig_length]
    have hz := uErr_ok (l := (pre ++ dig q.k q.u) ++ rqL qs) (i := pre.length) w1 w8 hlen
    have hp : uPos ((pre ++ dig q.k q.u) ++ rqL qs) pre.length 0 q.k = (pre ++ dig q.k q.u).length := by simp only [uPos, if_pos hz]; simp [dig_length]
    have hv : uVal ((pre ++ dig q.k q.u) ++ rqL qs) pre.length 0 q.k = q.u := by
      simp only [uVal, if_pos hz]
      rw [List.append_assoc, List.drop_left, Int.toNat_natCast, List.take_append_of_le_length (by rw [dig_length]; exact Nat.le_refl _), List.take_of_length_le (by rw [dig_length]; exact Nat.le_refl _), num_dig, Nat.mod_eq_of_lt o1]
    rw [el]
    simp only [DSt.run, DSt.num, e1, e2, e3]
    rw [hv, if_pos ⟨o2, o3⟩, hp, hz]
    simp only [ih]
    simp [uus]
theorem run_rd_inv : ∀ (qs : List Rq) (l : List UInt8) (i : Nat) (err : Int) (bad : Bool), i ≤ l.length →
    ∃ i' err' bad', (DSt.run qs (.rd l i err bad)).2 = .rd l i' err' bad' ∧ i' ≤ l.length ∧ (err' = 0 → bad' = false → i' = l.length → err = 0 ∧ bad = false ∧
      ∃ qs', qs'.map Rq.frm = qs.map Rq.frm ∧ uus qs' = (DSt.run qs (.rd l i err bad)).1 ∧ (∀ q ∈ qs', q.ok) ∧ l.drop i = rqL qs')
  | [], l, i, err, bad, hi => ⟨i, err, bad, rfl, hi, fun h1 h2 h3 => ⟨h1, h2, [], rfl, rfl, by simp, by rw [h3]; simp [rqL]⟩⟩
  | q :: qs, l, i, err, bad, hi => by
    have hpl : uPos l i err q.k ≤ l.length := uPos_len hi
    by_cases h0 : q.lo ≤ uVal l i err q.k ∧ uVal l i err q.k ≤ q.hi
    · obtain ⟨i', err', bad', e, hi', h⟩ := run_rd_inv qs l (uPos l i err q.k) (uErr l i err q.k) bad hpl
      refine ⟨i', err', bad', by simp only [DSt.run, DSt.num, if_pos h0, e], hi', fun h1 h2 h3 => ?_⟩
      obtain ⟨z1, z2, qs', f1, f2, f3, f4⟩ := h h1 h2 h3
      obtain ⟨y1, y2⟩ := uErr_zero z1
      have hv : uVal l i err q.k = num ((l.drop i).take q.k) := by simp only [uVal, if_pos z1]; simp
      have hp : uPos l i err q.k = i + q.k := by simp only [uPos, if_pos z1]; simp
      have hlk : ((l.drop i).take q.k).length = q.k := by simp; omega
      have hlt := num_lt ((l.drop i).take q.k)
      have hdn := dig_num ((l.drop i).take q.k)
      rw [hlk] at hlt hdn
      refine ⟨y1, z2, ⟨q.k, q.lo, q.hi, uVal l i err q.k⟩ :: qs', by simp [f1, Rq.frm], ?_, ?_, ?_⟩
      · simp only [DSt.run, DSt.num, if_pos h0, ← f2]; rfl
      · intro x hx
        rcases List.mem_cons.1 hx with rfl | hx
        · exact ⟨by rw [hv]; exact hlt, h0⟩
        · exact f3 x hx
      · rw [hp] at f4
        simp only [rqL, List.flatMap_cons] at f4 ⊢
        rw [← f4, hv, hdn, ← List.drop_drop, List.take_append_drop]
    · obtain ⟨i', err', bad', e, hi', h⟩ := run_rd_inv qs l (uPos l i err q.k) (uErr l i err q.k) true hpl
      exact ⟨i', err', bad', by simp only [DSt.run, DSt.num, if_neg h0, e], hi', fun h1 h2 h3 => by have := (h h1 h2 h3).2.1; simp at this⟩
end Go.Proofs.Ythmgpffpiggomaa

namespace Go.Proofs.Ythmgpffpiggomaa
open Go.RowKit

/-- An item: class, numbers, nodes, what is wanted. -/
structure PIt where
  cl : Int
  a : Int
  b : Int
  c : Int
  u : Nat
  l : List Int
  w : Wnt
/-- An item of which nothing but the class is known. -/
def PIt.blank (cl : Int) : PIt := ⟨cl, 0, 0, 0, 0, [], Wnt.zero⟩
/-- The type of a class's objects, 0 if there is no such class. -/
def knd (cl : Int) : Int :=
  if cl = 1 ∨ cl = 10 ∨ cl = 11 then 7
  else if cl = 9 ∨ cl = 12 then 2
  else if cl = 3 ∨ cl = 5 ∨ cl = 6 ∨ cl = 8 ∨ cl = 16 ∨ cl = 19 ∨ cl = 20 ∨ cl = 21 ∨ cl = 23 ∨ cl = 207 then 1
  else 0
theorem knd_cases {cl : Int} (h : knd cl ≠ 0) : cl = 1 ∨ cl = 3 ∨ cl = 5 ∨ cl = 6 ∨ cl = 8 ∨ cl = 9 ∨ cl = 10 ∨ cl = 11 ∨ cl = 12 ∨ cl = 16 ∨ cl = 19 ∨ cl = 20 ∨ cl = 21 ∨ cl = 23 ∨ cl = 207 := by
  unfold knd at h
  split at h
  · omega
  · split at h
    · omega
    · split at h
      · omega
      · exact absurd rfl h

def nodeR (n : Int) : List Rq := [⟨3, 655360, 655360, 655360⟩, ⟨1, 0, 15, u64 n⟩]
def zR (k u : Nat) : Rq := ⟨k, u, u, u⟩
def hopR (n : Int) : List Rq := [zR 1 1, zR 1 8, ⟨3, 655360, 655360, 655360⟩, ⟨1, 0, 15, u64 n⟩, zR 1 32, zR 1 0]
/-- The numbers of an item's object, one behind the other; 'm' nodes, where there are any. -/
def rqs (m : Nat) (x : PIt) : List Rq :=
  if x.cl = 1 then [⟨3, 655360, 655360, 655360⟩, ⟨1, 0, 15, u64 x.a⟩, zR 2 0, ⟨2, 0, 65535, u64 x.b⟩, ⟨3, 655360, 655360, 655360⟩, ⟨1, 0, 15, u64 x.c⟩]
  else if x.cl = 3 then [⟨3, 655360, 655360, 655360⟩, ⟨1, 0, 15, u64 x.a⟩, zR 4 0]
  else if x.cl = 5 then [⟨4, 0, 4294967295, x.u⟩]
  else if x.cl = 6 then [⟨3, 655360, 655360, 655360⟩, ⟨1, 0, 15, u64 x.a⟩, zR 1 0, ⟨1, 0, 255, u64 x.b⟩, ⟨2, 0, 65535, u64 x.c⟩]
  else if x.cl = 8 then [zR 4 18]
  else if x.cl = 9 ∨ x.cl = 12 then [⟨8, 0, 18446744073709551615, x.u⟩]
  else if x.cl = 10 ∨ x.cl = 11 then [⟨3, 655360, 655360, 655360⟩, ⟨1, 0, 15, u64 x.a⟩, zR 2 0, ⟨2, 0, 65535, u64 x.b⟩]
  else if x.cl = 16 then [⟨4, 0, 1048575, u64 x.a⟩]
  else if x.cl = 19 then [zR 2 0, ⟨2, 0, 65535, u64 x.a⟩]
  else if x.cl = 20 ∨ x.cl = 21 then (front m x.l).flatMap hopR
  else if x.cl = 23 then [zR 4 0, ⟨4, 0, 4294967295, x.u⟩]
  else if x.cl = 207 then [⟨4, 0, 4294967295, x.w.non⟩, ⟨4, 0, 4294967295, x.w.any⟩, ⟨4, 0, 4294967295, x.w.all⟩, ⟨1, 0, 7, u64 x.w.setup⟩, ⟨1, 0, 7, u64 x.w.hold⟩, zR 2 0]
  else []
/-- The nodes among the numbers of hops. -/
def nds : List Nat → List Int
  | _ :: _ :: _ :: d :: _ :: _ :: r => (d : Int) :: nds r
  | _ => []
def at' (vs : List Nat) (i : Nat) : Nat := (vs[i]?).getD 0
/-- The item that these numbers tell. -/
def mkI (cl : Int) (vs : List Nat) : PIt :=
  if cl = 1 then ⟨cl, at' vs 1, at' vs 3, at' vs 5, 0, [], Wnt.zero⟩
  else if cl = 3 then ⟨cl, at' vs 1, 0, 0, 0, [], Wnt.zero⟩
  else if cl = 5 then ⟨cl, 0, 0, 0, at' vs 0, [], Wnt.zero⟩
  else if cl = 6 then ⟨cl, at' vs 1, at' vs 3, at' vs 4, 0, [], Wnt.zero⟩
  else if cl = 8 then ⟨cl, 0, 0, 0, 0, [], Wnt.zero⟩
  else if cl = 9 ∨ cl = 12 then ⟨cl, 0, 0, 0, at' vs 0, [], Wnt.zero⟩
  else if cl = 10 ∨ cl = 11 then ⟨cl, at' vs 1, at' vs 3, 0, 0, [], Wnt.zero⟩
  else if cl = 16 then ⟨cl, at' vs 0, 0, 0, 0, [], Wnt.zero⟩
  else if cl = 19 then ⟨cl, at' vs 1, 0, 0, 0, [], Wnt.zero⟩
  else if cl = 20 ∨ cl = 21 then ⟨cl, 0, 0, 0, 0, nds vs, Wnt.zero⟩
  else if cl = 23 then ⟨cl, 0, 0, 0, at' vs 1, [], Wnt.zero⟩
  else if cl = 207 then ⟨cl, 0, 0, 0, 0, [], ⟨0, at' vs 3, at' vs 4, at' vs 1, at' vs 2, at' vs 0⟩⟩
  else ⟨cl, 0, 0, 0, 0, [], Wnt.zero⟩
theorem mkI_cl (cl : Int) (vs : List Nat) : (mkI cl vs).cl = cl := by
  simp [mkI, apply_ite PIt.cl]

theorem hop_frm (a : List Int) : ∀ b : List Int, a.length = b.length → (a.flatMap hopR).map Rq.frm = (b.flatMap hopR).map Rq.frm := by
  induction a with
  | nil => intro b h; cases b with | nil => rfl | cons y b => simp at h
  | cons x a ih =>
    intro b h
    cases b with
    | nil => simp at h
    | cons y b => simp only [List.flatMap_cons, List.map_append, ih b (by simpa using h)]; rfl
theorem rqs_frm (m : Nat) (x y : PIt) (h : x.cl = y.cl) (hk : knd x.cl ≠ 0) : (rqs m x).map Rq.frm = (rqs m y).map Rq.frm := by
  rcases knd_cases hk with e | e | e | e | e | e | e | e | e | e | e | e | e | e | e
  all_goals
    have e' := e
    rw [h] at e'
    simp [rqs, e, e', Rq.frm, zR]
    try exact hop_frm _ _ (by rw [front_length, front_length])
theorem rqs_other (m n : Nat) (x : PIt) (h : ¬ (x.cl = 20 ∨ x.cl = 21)) : rqs m x = rqs n x := by
  unfold rqs
  rw [if_neg h, if_neg h]
theorem rqs_list (m : Nat) (x : PIt) (h : x.cl = 20 ∨ x.cl = 21) : rqs m x = (front m x.l).flatMap hopR := by
  unfold rqs
  rw [if_neg (by omega), if_neg (by omega), if_neg (by omega), if_neg (by omega), if_neg (by omega), if_neg (by omega), if_neg (by omega), if_neg (by omega), if_neg (by omega), if_pos h]
theorem rqs_wide (m : Nat) (x : PIt) (hk : knd x.cl ≠ 0) : ∀ q ∈ rqs m x, q.wide := by
  have hh : ∀ n : Int, ∀ q ∈ hopR n, q.wide := by
    intro n q hq
    simp only [hopR, List.mem_cons, List.not_mem_nil, or_false] at hq
    rcases hq with rfl | rfl | rfl | rfl | rfl | rfl <;> simp [Rq.wide, zR]
  by_cases hl : x.cl = 20 ∨ x.cl = 21
  · intro q hq
    rw [rqs_list m x hl, List.mem_flatMap] at hq
    obtain ⟨n, _, hn⟩ := hq
    exact hh n q hn
  · rcases knd_cases hk with e | e | e | e | e | e | e | e | e | e | e | e | e | e | e
    all_goals first
      | exact absurd (Or.inl e) hl
      | exact absurd (Or.inr e) hl
      | simp [rqs, e, Rq.wide, zR]

theorem u64_nat {n : Nat} (h : n < 18446744073709551616) : u64 (n : Int) = n := by unfold u64; omega
theorem rq_of {q : Rq} {k lo hi : Nat} (h : q.frm = (k, lo, hi)) : q = ⟨k, lo, hi, q.u⟩ := by
  obtain ⟨k', lo', hi', u⟩ := q
  simp only [Rq.frm, Prod.mk.injEq] at h
  obtain ⟨rfl, rfl, rfl⟩ := h
  rfl
theorem rq_var {q : Rq} {k hi : Nat} (h : q.frm = (k, 0, hi)) (ho : q.ok) (hh : hi < 18446744073709551616) : ∃ v : Nat, q = ⟨k, 0, hi, v⟩ ∧ v ≤ hi ∧ u64 (v : Int) = v := by
  have e := rq_of h
  have h3 := ho.2.2
  rw [e] at h3
  simp only at h3
  exact ⟨q.u, e, h3, u64_nat (by omega)⟩
theorem rq_con {q : Rq} {k u : Nat} (h : q.frm = (k, u, u)) (ho : q.ok) : q = zR k u := by
  have e := rq_of h
  obtain ⟨_, h2, h3⟩ := ho
  rw [e] at h2 h3
  simp only at h2 h3
  rw [e, show q.u = u by omega]
  rfl

/-- Hops that are right are those of their nodes. -/
theorem hop_back : ∀ (l : List Int) (qs : List Rq), qs.map Rq.frm = (l.flatMap hopR).map Rq.frm → (∀ q ∈ qs, q.ok) → (nds (uus qs)).flatMap hopR = qs ∧ (nds (uus qs)).length = l.length
  | [], qs, hf, _ => by
    have : qs = [] := by simpa using hf
    subst this
    exact ⟨rfl, rfl⟩
  | x :: l, qs, hf, ho => by
    simp only [List.flatMap_cons, hopR, List.map_cons, List.cons_append, List.nil_append] at hf
    match qs, hf, ho with
    | q0 :: q1 :: q2 :: q3 :: q4 :: q5 :: qs, hf, ho =>
      simp only [List.map_cons, List.cons.injEq] at hf
      obtain ⟨f0, f1, f2, f3, f4, f5, hf⟩ := hf
      obtain ⟨h1, h2⟩ := hop_back l qs hf (fun q hq => ho q (by simp [hq]))
      have e0 : q0 = zR 1 1 := rq_con f0 (ho _ (by simp))
      have e1 : q1 = zR 1 8 := rq_con f1 (ho _ (by simp))
      have e2 : q2 = zR 3 655360 := rq_con f2 (ho _ (by simp))
      obtain ⟨v, e3, _, e6⟩ : ∃ v : Nat, q3 = ⟨1, 0, 15, v⟩ ∧ v ≤ 15 ∧ u64 (v : Int) = v := rq_var f3 (ho _ (by simp)) (by omega)
      have e4 : q4 = zR 1 32 := rq_con f4 (ho _ (by simp))
      have e5 : q5 = zR 1 0 := rq_con f5 (ho _ (by simp))
      subst e0 e1 e2 e3 e4 e5
      have en : nds (uus (zR 1 1 :: zR 1 8 :: zR 3 655360 :: ⟨1, 0, 15, v⟩ :: zR 1 32 :: zR 1 0 :: qs)) = (v : Int) :: nds (uus qs) := rfl
      rw [en]
      refine ⟨?_, by simp [h2]⟩
      rw [List.flatMap_cons, h1]
      simp [hopR, e6, zR]
    | [], hf, _ => simp at hf
    | [_], hf, _ => simp at hf
    | [_, _], hf, _ => simp at hf
    | [_, _, _], hf, _ => simp at hf
    | [_, _, _, _], hf, _ => simp at hf
    | [_, _, _, _, _], hf, _ => simp at hf
theorem front_all (l : List Int) : front l.length l = l := by simp [front]
theorem map_inv {α β : Type} {f : α → β} {l : List α} {b : β} {r : List β} (h : l.map f = b :: r) : ∃ x t, l = x :: t ∧ f x = b ∧ t.map f = r := by
  cases l with
  | nil => simp at h
  | cons x t => simp only [List.map_cons, List.cons.injEq] at h; exact ⟨x, t, rfl, h.1, h.2⟩
/-- The numbers that an item tells are those that tell it. -/
theorem rqs_back (m : Nat) (x0 : PIt) (qs : List Rq) (hk : knd x0.cl ≠ 0) (hf : qs.map Rq.frm = (rqs m x0).map Rq.frm) (ho : ∀ q ∈ qs, q.ok) :
    rqs m (mkI x0.cl (uus qs)) = qs ∧ ((x0.cl = 20 ∨ x0.cl = 21) → (mkI x0.cl (uus qs)).l.length = m) := by
  by_cases hl : x0.cl = 20 ∨ x0.cl = 21
  · rw [rqs_list m x0 hl] at hf
    obtain ⟨h1, h2⟩ := hop_back _ qs hf ho
    rw [front_length] at h2
    have e : (mkI x0.cl (uus qs)).l = nds (uus qs) := by rcases hl with e | e <;> simp [mkI, e]
    refine ⟨?_, fun _ => by rw [e]; exact h2⟩
    rw [rqs_list m _ (by rw [mkI_cl]; exact hl), e]
    have e2 : front m (nds (uus qs)) = nds (uus qs) := by rw [← h2]; exact front_all _
    rw [e2, h1]
  · refine ⟨?_, fun h => absurd h hl⟩
    rcases knd_cases hk with e | e | e | e | e | e | e | e | e | e | e | e | e | e | e
    · rw [show rqs m x0 = [⟨3, 655360, 655360, 655360⟩, ⟨1, 0, 15, u64 x0.a⟩, zR 2 0, ⟨2, 0, 65535, u64 x0.b⟩, ⟨3, 655360, 655360, 655360⟩, ⟨1, 0, 15, u64 x0.c⟩] by simp [rqs, e]] at hf
      obtain ⟨q0, qs, rfl, f0, hf⟩ := map_inv hf
      obtain ⟨q1, qs, rfl, f1, hf⟩ := map_inv hf
      obtain ⟨q2, qs, rfl, f2, hf⟩ := map_inv hf
      obtain ⟨q3, qs, rfl, f3, hf⟩ := map_inv hf
      obtain ⟨q4, qs, rfl, f4, hf⟩ := map_inv hf
      obtain ⟨q5, qs, rfl, f5, hf⟩ := map_inv hf
      obtain rfl : qs = [] := by simpa using hf
      obtain rfl : q0 = zR 3 655360 := rq_con f0 (ho _ (by simp))
      obtain ⟨v1, rfl, _, h1⟩ : ∃ v : Nat, q1 = ⟨1, 0, 15, v⟩ ∧ v ≤ 15 ∧ u64 (v : Int) = v := rq_var f1 (ho _ (by simp)) (by omega)
      obtain rfl : q2 = zR 2 0 := rq_con f2 (ho _ (by simp))
      obtain ⟨v3, rfl, _, h3⟩ : ∃ v : Nat, q3 = ⟨2, 0, 65535, v⟩ ∧ v ≤ 65535 ∧ u64 (v : Int) = v := rq_var f3 (ho _ (by simp)) (by omega)
      obtain rfl : q4 = zR 3 655360 := rq_con f4 (ho _ (by simp))
      obtain ⟨v5, rfl, _, h5⟩ : ∃ v : Nat, q5 = ⟨1, 0, 15, v⟩ ∧ v ≤ 15 ∧ u64 (v : Int) = v := rq_var f5 (ho _ (by simp)) (by omega)
      rw [e]
      simp [rqs, mkI, at', uus, zR, h1, h3, h5]
    · rw [show rqs m x0 = [⟨3, 655360, 655360, 655360⟩, ⟨1, 0, 15, u64 x0.a⟩, zR 4 0] by simp [rqs, e]] at hf
      obtain ⟨q0, qs, rfl, f0, hf⟩ := map_inv hf
      obtain ⟨q1, qs, rfl, f1, hf⟩ := map_inv hf
      obtain ⟨q2, qs, rfl, f2, hf⟩ := map_inv hf
      obtain rfl : qs = [] := by simpa using hf
      obtain rfl : q0 = zR 3 655360 := rq_con f0 (ho _ (by simp))
      obtain ⟨v1, rfl, _, h1⟩ : ∃ v : Nat, q1 = ⟨1, 0, 15, v⟩ ∧ v ≤ 15 ∧ u64 (v : Int) = v := rq_var f1 (ho _ (by simp)) (by omega)
      obtain rfl : q2 = zR 4 0 := rq_con f2 (ho _ (by simp))
      rw [e]
      simp [rqs, mkI, at', uus, zR, h1]
    · rw [show rqs m x0 = [⟨4, 0, 4294967295, x0.u⟩] by simp [rqs, e]] at hf
      obtain ⟨q0, qs, rfl, f0, hf⟩ := map_inv hf
      obtain rfl : qs = [] := by simpa using hf
      obtain ⟨v0, rfl, _, h0⟩ : ∃ v : Nat, q0 = ⟨4, 0, 4294967295, v⟩ ∧ v ≤ 4294967295 ∧ u64 (v : Int) = v := rq_var f0 (ho _ (by simp)) (by omega)
      rw [e]
      simp [rqs, mkI, at', uus]
    · rw [show rqs m x0 = [⟨3, 655360, 655360, 655360⟩, ⟨1, 0, 15, u64 x0.a⟩, zR 1 0, ⟨1, 0, 255, u64 x0.b⟩, ⟨2, 0, 65535, u64 x0.c⟩] by simp [rqs, e]] at hf
      obtain ⟨q0, qs, rfl, f0, hf⟩ := map_inv hf
      obtain ⟨q1, qs, rfl, f1, hf⟩ := map_inv hf
      obtain ⟨q2, qs, rfl, f2, hf⟩ := map_inv hf
      obtain ⟨q3, qs, rfl, f3, hf⟩ := map_inv hf
      obtain ⟨q4, qs, rfl, f4, hf⟩ := map_inv hf
      obtain rfl : qs = [] := by simpa using hf
      obtain rfl : q0 = zR 3 655360 := rq_con f0 (ho _ (by simp))
      obtain ⟨v1, rfl, _, h1⟩ : ∃ v : Nat, q1 = ⟨1, 0, 15, v⟩ ∧ v ≤ 15 ∧ u64 (v : Int) = v := rq_var f1 (ho _ (by simp)) (by omega)
      obtain rfl : q2 = zR 1 0 := rq_con f2 (ho _ (by simp))
      obtain ⟨v3, rfl, _, h3⟩ : ∃ v : Nat, q3 = ⟨1, 0, 255, v⟩ ∧ v ≤ 255 ∧ u64 (v : Int) = v := rq_var f3 (ho _ (by simp)) (by omega)
      obtain ⟨v4, rfl, _, h4⟩ : ∃ v : Nat, q4 = ⟨2, 0, 65535, v⟩ ∧ v ≤ 65535 ∧ u64 (v : Int) = v := rq_var f4 (ho _ (by simp)) (by omega)
      rw [e]
      simp [rqs, mkI, at', uus, zR, h1, h3, h4]
    · rw [show rqs m x0 = [zR 4 18] by simp [rqs, e]] at hf
      obtain ⟨q0, qs, rfl, f0, hf⟩ := map_inv hf
      obtain rfl : qs = [] := by simpa using hf
      obtain rfl : q0 = zR 4 18 := rq_con f0 (ho _ (by simp))
      rw [e]
      simp [rqs, mkI, zR]
    · rw [show rqs m x0 = [⟨8, 0, 18446744073709551615, x0.u⟩] by simp [rqs, e]] at hf
      obtain ⟨q0, qs, rfl, f0, hf⟩ := map_inv hf
      obtain rfl : qs = [] := by simpa using hf
      obtain ⟨v0, rfl, _, h0⟩ : ∃ v : Nat, q0 = ⟨8, 0, 18446744073709551615, v⟩ ∧ v ≤ 18446744073709551615 ∧ u64 (v : Int) = v := rq_var f0 (ho _ (by simp)) (by omega)
      rw [e]
      simp [rqs, mkI, at', uus]
    · rw [show rqs m x0 = [⟨3, 655360, 655360, 655360⟩, ⟨1, 0, 15, u64 x0.a⟩, zR 2 0, ⟨2, 0, 65535, u64 x0.b⟩] by simp [rqs, e]] at hf
      obtain ⟨q0, qs, rfl, f0, hf⟩ := map_inv hf
      obtain ⟨q1, qs, rfl, f1, hf⟩ := map_inv hf
      obtain ⟨q2, qs, rfl, f2, hf⟩ := map_inv hf
      obtain ⟨q3, qs, rfl, f3, hf⟩ := map_inv hf
      obtain rfl : qs = [] := by simpa using hf
      obtain rfl : q0 = zR 3 655360 := rq_con f0 (ho _ (by simp))
      obtain ⟨v1, rfl, _, h1⟩ : ∃ v : Nat, q1 = ⟨1, 0, 15, v⟩ ∧ v ≤ 15 ∧ u64 (v : Int) = v := rq_var f1 (ho _ (by simp)) (by omega)
      obtain rfl : q2 = zR 2 0 := rq_con f2 (ho _ (by simp))
      obtain ⟨v3, rfl, _, h3⟩ : ∃ v : Nat, q3 = ⟨2, 0, 65535, v⟩ ∧ v ≤ 65535 ∧ u64 (v : Int) = v := rq_var f3 (ho _ (by simp)) (by omega)
      rw [e]
      simp [rqs, mkI, at', uus, zR, h1, h3]
    · rw [show rqs m x0 = [⟨3, 655360, 655360, 655360⟩, ⟨1, 0, 15, u64 x0.a⟩, zR 2 0, ⟨2, 0, 65535, u64 x0.b⟩] by simp [rqs, e]] at hf
      obtain ⟨q0, qs, rfl, f0, hf⟩ := map_inv hf
      obtain ⟨q1, qs, rfl, f1, hf⟩ := map_inv hf
      obtain ⟨q2, qs, rfl, f2, hf⟩ := map_inv hf
      obtain ⟨q3, qs, rfl, f3, hf⟩ := map_inv hf
      obtain rfl : qs = [] := by simpa using hf
      obtain rfl : q0 = zR 3 655360 := rq_con f0 (ho _ (by simp))
      obtain ⟨v1, rfl, _, h1⟩ : ∃ v : Nat, q1 = ⟨1, 0, 15, v⟩ ∧ v ≤ 15 ∧ u64 (v : Int) = v := rq_var f1 (ho _ (by simp)) (by omega)
      obtain rfl : q2 = zR 2 0 := rq_con f2 (ho _ (by simp))
      obtain ⟨v3, rfl, _, h3⟩ : ∃ v : Nat, q3 = ⟨2, 0, 65535, v⟩ ∧ v ≤ 65535 ∧ u64 (v : Int) = v := rq_var f3 (ho _ (by simp)) (by omega)
      rw [e]
      simp [rqs, mkI, at', uus, zR, h1, h3]
    · rw [show rqs m x0 = [⟨8, 0, 18446744073709551615, x0.u⟩] by simp [rqs, e]] at hf
      obtain ⟨q0, qs, rfl, f0, hf⟩ := map_inv hf
      obtain rfl : qs = [] := by simpa using hf
      obtain ⟨v0, rfl, _, h0⟩ : ∃ v : Nat, q0 = ⟨8, 0, 18446744073709551615, v⟩ ∧ v ≤ 18446744073709551615 ∧ u64 (v : Int) = v := rq_var f0 (ho _ (by simp)) (by omega)
      rw [e]
      simp [rqs, mkI, at', uus]
    · rw [show rqs m x0 = [⟨4, 0, 1048575, u64 x0.a⟩] by simp [rqs, e]] at hf
      obtain ⟨q0, qs, rfl, f0, hf⟩ := map_inv hf
      obtain rfl : qs = [] := by simpa using hf
      obtain ⟨v0, rfl, _, h0⟩ : ∃ v : Nat, q0 = ⟨4, 0, 1048575, v⟩ ∧ v ≤ 1048575 ∧ u64 (v : Int) = v := rq_var f0 (ho _ (by simp)) (by omega)
      rw [e]
      simp [rqs, mkI, at', uus, h0]
    · rw [show rqs m x0 = [zR 2 0, ⟨2, 0, 65535, u64 x0.a⟩] by simp [rqs, e]] at hf
      obtain ⟨q0, qs, rfl, f0, hf⟩ := map_inv hf
      obtain ⟨q1, qs, rfl, f1, hf⟩ := map_inv hf
      obtain rfl : qs = [] := by simpa using hf
      obtain rfl : q0 = zR 2 0 := rq_con f0 (ho _ (by simp))
      obtain ⟨v1, rfl, _, h1⟩ : ∃ v : Nat, q1 = ⟨2, 0, 65535, v⟩ ∧ v ≤ 65535 ∧ u64 (v : Int) = v := rq_var f1 (ho _ (by simp)) (by omega)
      rw [e]
      simp [rqs, mkI, at', uus, zR, h1]
    · exact absurd (Or.inl e) hl
    · exact absurd (Or.inr e) hl
    · rw [show rqs m x0 = [zR 4 0, ⟨4, 0, 4294967295, x0.u⟩] by simp [rqs, e]] at hf
      obtain ⟨q0, qs, rfl, f0, hf⟩ := map_inv hf
      obtain ⟨q1, qs, rfl, f1, hf⟩ := map_inv hf
      obtain rfl : qs = [] := by simpa using hf
      obtain rfl : q0 = zR 4 0 := rq_con f0 (ho _ (by simp))
      obtain ⟨v1, rfl, _, h1⟩ : ∃ v : Nat, q1 = ⟨4, 0, 4294967295, v⟩ ∧ v ≤ 4294967295 ∧ u64 (v : Int) = v := rq_var f1 (ho _ (by simp)) (by omega)
      rw [e]
      simp [rqs, mkI, at', uus, zR]
    · rw [show rqs m x0 = [⟨4, 0, 4294967295, x0.w.non⟩, ⟨4, 0, 4294967295, x0.w.any⟩, ⟨4, 0, 4294967295, x0.w.all⟩, ⟨1, 0, 7, u64 x0.w.setup⟩, ⟨1, 0, 7, u64 x0.w.hold⟩, zR 2 0] by simp [rqs, e]] at hf
      obtain ⟨q0, qs, rfl, f0, hf⟩ := map_inv hf
      obtain ⟨q1, qs, rfl, f1, hf⟩ := map_inv hf
      obtain ⟨q2, qs, rfl, f2, hf⟩ := map_inv hf
      obtain ⟨q3, qs, rfl, f3, hf⟩ := map_inv hf
      obtain ⟨q4, qs, rfl, f4, hf⟩ := map_inv hf
      obtain ⟨q5, qs, rfl, f5, hf⟩ := map_inv hf
      obtain rfl : qs = [] := by simpa using hf
      obtain ⟨v0, rfl, _, h0⟩ : ∃ v : Nat, q0 = ⟨4, 0, 4294967295, v⟩ ∧ v ≤ 4294967295 ∧ u64 (v : Int) = v := rq_var f0 (ho _ (by simp)) (by omega)
      obtain ⟨v1, rfl, _, h1⟩ : ∃ v : Nat, q1 = ⟨4, 0, 4294967295, v⟩ ∧ v ≤ 4294967295 ∧ u64 (v : Int) = v := rq_var f1 (ho _ (by simp)) (by omega)
      obtain ⟨v2, rfl, _, h2⟩ : ∃ v : Nat, q2 = ⟨4, 0, 4294967295, v⟩ ∧ v ≤ 4294967295 ∧ u64 (v : Int) = v := rq_var f2 (ho _ (by simp)) (by omega)
      obtain ⟨v3, rfl, _, h3⟩ : ∃ v : Nat, q3 = ⟨1, 0, 7, v⟩ ∧ v ≤ 7 ∧ u64 (v : Int) = v := rq_var f3 (ho _ (by simp)) (by omega)
      obtain ⟨v4, rfl, _, h4⟩ : ∃ v : Nat, q4 = ⟨1, 0, 7, v⟩ ∧ v ≤ 7 ∧ u64 (v : Int) = v := rq_var f4 (ho _ (by simp)) (by omega)
      obtain rfl : q5 = zR 2 0 := rq_con f5 (ho _ (by simp))
      rw [e]
      simp [rqs, mkI, at', uus, zR, h3, h4]

def Wnt.same (x y : Wnt) : Bool := x.bw == y.bw && (x.setup == y.setup && (x.hold == y.hold && (x.any == y.any && (x.all == y.all && x.non == y.non))))
theorem Wnt.same_iff (x y : Wnt) : x.same y = true ↔ x = y := by cases x; cases y; simp [Wnt.same]
def PIt.same (x y : PIt) : Bool := x.cl == y.cl && (x.a == y.a && (x.b == y.b && (x.c == y.c && (x.u == y.u && (x.l == y.l && x.w.same y.w)))))
theorem PIt.same_iff (x y : PIt) : x.same y = true ↔ x = y := by cases x; cases y; simp [PIt.same, Wnt.same_iff]

/-- What fields answers, and what the direction holds then. -/
def DSt.fields (x : PIt) (σ : DSt) : PIt × DSt := (mkI x.cl (DSt.run (rqs (σ.many x.l.length) x) σ).1, (DSt.run (rqs (σ.many x.l.length) x) σ).2)
/-- All that is there was read, and it was right. -/
def DSt.done : DSt → Bool
  | .wr .. => false
  | .rd l i err bad => !bad && (err == 0 && i == l.length)
/-- An item as an object. -/
def pack (x : PIt) : Option (Int × Int × List UInt8) :=
  if knd x.cl = 0 then none else if (DSt.fields x (.wr [] false)).2.bad = true then none
  else if x.same (DSt.fields x (.wr [] false)).1 = true then some (x.cl, knd x.cl, (DSt.fields x (.wr [] false)).2.byt) else none
/-- What an object says. -/
def unpack (o : Int × Int × List UInt8) : Option PIt :=
  if knd o.1 = 0 then none else if o.2.1 = knd o.1 then (if (DSt.fields (.blank o.1) (.rd o.2.2 0 0 false)).2.done = true then some (DSt.fields (.blank o.1) (.rd o.2.2 0 0 false)).1 else none) else none

theorem pack_some {x : PIt} {o : Int × Int × List UInt8} : pack x = some o ↔ knd x.cl ≠ 0 ∧ (∀ q ∈ rqs (min x.l.length 16) x, q.ok) ∧ mkI x.cl (uus (rqs (min x.l.length 16) x)) = x ∧ o = (x.cl, knd x.cl, rqL (rqs (min x.l.length 16) x)) := by
  have hm : (DSt.wr [] false).many x.l.length = min x.l.length 16 := rfl
  unfold pack
  by_cases hk : knd x.cl = 0
  · simp [hk]
  · rw [if_neg hk]
    unfold DSt.fields
    rw [hm]
    by_cases ho : ∀ q ∈ rqs (min x.l.length 16) x, q.ok
    · rw [run_wr _ _ ho]
      simp only [DSt.bad, DSt.byt, List.nil_append, Bool.false_eq_true, if_false]
      by_cases hx : x = mkI x.cl (uus (rqs (min x.l.length 16) x))
      · rw [if_pos ((PIt.same_iff _ _).2 hx)]
        constructor
        · intro h; injection h with h; exact ⟨hk, ho, hx.symm, h.symm⟩
        · rintro ⟨_, _, _, h⟩; rw [h]
      · rw [if_neg (fun h => hx ((PIt.same_iff _ _).1 h))]
        constructor
        · intro h; cases h
        · rintro ⟨_, _, h, _⟩; exact absurd h.symm hx
    · obtain ⟨b', bad', e, h⟩ := run_wr_bad (rqs (min x.l.length 16) x) [] false
      have hb : bad' = true := by
        cases bad' with
        | true => rfl
        | false => exact absurd (h rfl).2 ho
      rw [e, hb]
      simp only [DSt.bad, if_true]
      constructor
      · intro h; cases h
      · rintro ⟨_, h, _⟩; exact absurd h ho

theorem hopR_len (l : List Int) : (rqL (l.flatMap hopR)).length = 8 * l.length := by
  induction l with
  | nil => rfl
  | cons x l ih =>
    have e : rqL ((x :: l).flatMap hopR) = rqL (hopR x) ++ rqL (l.flatMap hopR) := by simp [rqL]
    rw [e, List.length_append, ih]
    simp [rqL, hopR, zR, dig_length]
    omega

theorem back_one {x : PIt} {o : Int × Int × List UInt8} (h : pack x = some o) : unpack o = some x := by
  obtain ⟨hk, ho, hx, rfl⟩ := pack_some.1 h
  have hrun : DSt.run (rqs ((DSt.rd (rqL (rqs (min x.l.length 16) x)) 0 0 false).many 0) (.blank x.cl)) (.rd (rqL (rqs (min x.l.length 16) x)) 0 0 false) = (uus (rqs (min x.l.length 16) x), .rd (rqL (rqs (min x.l.length 16) x)) (rqL (rqs (min x.l.length 16) x)).length 0 false) := by
    refine run_rd (rqs (min x.l.length 16) x) _ [] (fun q hq => ⟨ho q hq, rqs_wide _ _ hk q hq⟩) ?_
    by_cases hl : x.cl = 20 ∨ x.cl = 21
    · have hf : (rqL (rqs (min x.l.length 16) x)).length = 8 * min x.l.length 16 := by rw [rqs_list _ _ hl, hopR_len, front_length]
      have hm : (DSt.rd (rqL (rqs (min x.l.length 16) x)) 0 0 false).many 0 = min x.l.length 16 := by
        simp only [DSt.many, DSt.cnt, hf]; omega
      rw [hm]
      exact rqs_frm _ _ _ rfl hk
    · rw [rqs_other _ (min x.l.length 16) (.blank x.cl) hl]
      exact rqs_frm _ _ _ rfl hk
  unfold unpack
  rw [if_neg hk, if_pos rfl]
  have hf : DSt.fields (.blank x.cl) (.rd (rqL (rqs (min x.l.length 16) x)) 0 0 false) = (x, .rd (rqL (rqs (min x.l.length 16) x)) (rqL (rqs (min x.l.length 16) x)).length 0 false) := by
    unfold DSt.fields
    show (mkI x.cl (DSt.run (rqs ((DSt.rd (rqL (rqs (min x.l.length 16) x)) 0 0 false).many 0) (.blank x.cl)) _).1, _) = _
    rw [show (PIt.blank x.cl).l.length = 0 from rfl, hrun]
    simp only [hx]
  simp only [hf]
  simp [DSt.done]

theorem back_two {x : PIt} {o : Int × Int × List UInt8} (h : unpack o = some x) : pack x = some o := by
  obtain ⟨cl, ty, l⟩ := o
  unfold unpack at h
  by_cases hk : knd cl = 0
  · simp [hk] at h
  simp only [if_neg hk] at h
  by_cases ht : ty = knd cl
  · rw [if_pos ht] at h
    subst ht
    obtain ⟨i', err', bad', e, _, hi⟩ := run_rd_inv (rqs ((DSt.rd l 0 0 false).many 0) (.blank cl)) l 0 0 false (Nat.zero_le _)
    have e2 : (DSt.fields (.blank cl) (.rd l 0 0 false)).2 = .rd l i' err' bad' := e
    by_cases hd : (DSt.fields (.blank cl) (.rd l 0 0 false)).2.done = true
    · rw [if_pos hd] at h
      injection h with h
      rw [e2] at hd
      simp only [DSt.done, Bool.and_eq_true, Bool.not_eq_true', beq_iff_eq] at hd
      obtain ⟨_, _, qs, f1, f2, f3, f4⟩ := hi hd.2.1 hd.1 hd.2.2
      have hx : x = mkI cl (uus qs) := by rw [← h, f2]; rfl
      obtain ⟨g1, g2⟩ := rqs_back _ (.blank cl) qs hk f1 f3
      have hc0 : (PIt.blank cl).cl = cl := rfl
      rw [hc0] at g1 g2
      have hm : rqs (min x.l.length 16) x = qs := by
        rw [hx]
        by_cases hl : cl = 20 ∨ cl = 21
        · rw [g2 hl, show min ((DSt.rd l 0 0 false).many 0) 16 = (DSt.rd l 0 0 false).many 0 from Nat.min_eq_left (Nat.min_le_right _ _)]
          exact g1
        · rw [rqs_other _ ((DSt.rd l 0 0 false).many 0) _ (by rw [mkI_cl]; exact hl)]
          exact g1
      have hc : x.cl = cl := by rw [hx, mkI_cl]
      refine pack_some.2 ⟨by rw [hc]; exact hk, by rw [hm]; exact f3, by rw [hm, hc, ← hx], ?_⟩
      rw [hm, hc, ← f4]
      rfl
    · rw [if_neg hd] at h; cases h
  · rw [if_neg ht] at h; cases h
theorem pack_inj {x y : PIt} {o : Int × Int × List UInt8} (h1 : pack x = some o) (h2 : pack y = some o) : x = y := by
  have e1 := back_one h1
  rw [back_one h2] at e1
  injection e1 with e1
  exact e1.symm
theorem pack_len {x : PIt} {o : Int × Int × List UInt8} (h : pack x = some o) : o.2.2.length % 4 = 0 ∧ o.2.2.length ≤ 128 ∧ o.1 = x.cl ∧ x.l.length ≤ 16 := by
  obtain ⟨hk, _, hx, rfl⟩ := pack_some.1 h
  by_cases hl : x.cl = 20 ∨ x.cl = 21
  · have hf : (rqL (rqs (min x.l.length 16) x)).length = 8 * min x.l.length 16 := by rw [rqs_list _ _ hl, hopR_len, front_length]
    have hg := (rqs_back (min x.l.length 16) x (rqs (min x.l.length 16) x) hk rfl (pack_some.1 h).2.1).2 hl
    rw [hx] at hg
    simp only [hf]
    exact ⟨by omega, by omega, trivial, by omega⟩
  · have h0 : x.l = [] := by
      rw [← hx]
      rcases knd_cases hk with e | e | e | e | e | e | e | e | e | e | e | e | e | e | e
      all_goals first
        | exact absurd (Or.inl e) hl
        | exact absurd (Or.inr e) hl
        | simp [mkI, e]
    rw [h0]
    rcases knd_cases hk with e | e | e | e | e | e | e | e | e | e | e | e | e | e | e
    all_goals first
      | exact absurd (Or.inl e) hl
      | exact absurd (Or.inr e) hl
      | simp [rqs, e, rqL, zR, dig_length]
end Go.Proofs.Ythmgpffpiggomaa
