/-
  Sums with carry, as numbers: what a total of words comes to, and what happens to it when bytes are joined, set or exchanged. No condition: plain arithmetic.
  Contracts of package sum: Add, even, Of, Right. Conditions: the bytes that come in read as a list of at most 2^46 bytes.
  Contracts of package sum: Of, Right. Conditions: the bytes that come in read as a list of at most 2^46 bytes.
  Contracts of package sum: Right, replace, Seal. Conditions: the bytes that come in read as a list of at most 2^46 bytes.
-/
import Derived.Test.YthmgpffpiggomaaOctAF
import Derived.Test.YthmgpffpiggomaaAcc
import Derived.ArgAppend
namespace Go.Proofs.Ythmgpffpiggomaa

/-- The sum of two numbers with carry. -/
def oadd (a b : Nat) : Nat := if 65535 < a + b then a + b - 65535 else a + b
/-- A total reduced to a word. -/
def red (n : Nat) : Nat := if n = 0 then 0 else (n - 1) % 65535 + 1
theorem red_le (n : Nat) : red n ≤ 65535 := by unfold red; split <;> omega
theorem red_small {n : Nat} (h : n ≤ 65535) : red n = n := by unfold red; split <;> omega
theorem red_add (n m : Nat) : oadd (red n) (red m) = red (n + m) := by
  unfold oadd red
  split <;> split <;> split <;> split <;> omega
theorem red_word (n : Nat) {m : Nat} (h : m ≤ 65535) : oadd (red n) m = red (n + m) := by rw [← red_add, red_small h]
theorem oadd_le {a b : Nat} (ha : a ≤ 65535) (hb : b ≤ 65535) : oadd a b ≤ 65535 := by unfold oadd; split <;> omega
theorem oadd_comm (a b : Nat) : oadd a b = oadd b a := by unfold oadd; rw [Nat.add_comm]
theorem oadd_assoc {a b c : Nat} (ha : a ≤ 65535) (hb : b ≤ 65535) (hc : c ≤ 65535) : oadd (oadd a b) c = oadd a (oadd b c) := by
  rw [← red_small ha, ← red_small hb, ← red_small hc, red_add, red_add, red_add, red_add, Nat.add_assoc]
theorem oadd_zero {a : Nat} (ha : a ≤ 65535) : oadd a 0 = a := by unfold oadd; split <;> omega
/-- A number that comes to nought is a multiple that is not nought. -/
theorem red_top (n : Nat) : red n = 65535 ↔ 0 < n ∧ n % 65535 = 0 := by
  unfold red; split <;> omega

/-- The plain total of the words of bytes. -/
def tot : List UInt8 → Nat
  | [] => 0
  | [x] => x.toNat * 256
  | x :: y :: r => x.toNat * 256 + y.toNat + tot r
/-- The check sum. -/
def ofL (l : List UInt8) : Nat := 65535 - red (tot l)
theorem ofL_le (l : List UInt8) : ofL l ≤ 65535 := by unfold ofL; omega
theorem ofL_back (l : List UInt8) : 65535 - ofL l = red (tot l) := by have := red_le (tot l); unfold ofL; omega
theorem ofL_zero (l : List UInt8) : ofL l = 0 ↔ 0 < tot l ∧ tot l % 65535 = 0 := by
  have := red_le (tot l)
  rw [← red_top]; unfold ofL; omega

/-- Bytes with a nought behind them where their number is odd. -/
def ev (l : List UInt8) : List UInt8 := if l.length % 2 = 0 then l else l ++ [0]
theorem ev_even (l : List UInt8) : (ev l).length % 2 = 0 := by
  unfold ev; split
  · assumption
  · simp; omega
theorem ev_length (l : List UInt8) : (ev l).length ≤ l.length + 1 := by unfold ev; split <;> simp
theorem tot_snoc : ∀ l : List UInt8, l.length % 2 = 1 → tot (l ++ [0]) = tot l
  | [], h => by simp at h
  | [x], _ => by simp [tot]
  | x :: y :: r, h => by
    have := tot_snoc r (by simp at h; omega)
    simp [tot, this]
theorem tot_ev (l : List UInt8) : tot (ev l) = tot l := by
  unfold ev; split
  · rfl
  · exact tot_snoc l (by omega)

theorem tot_append : ∀ (a b : List UInt8), a.length % 2 = 0 → tot (a ++ b) = tot a + tot b
  | [], b, _ => by simp [tot]
  | [x], b, h => by simp at h
  | x :: y :: r, b, h => by
    have := tot_append r b (by simp at h; omega)
    simp only [List.cons_append, tot, this]; omega

/-- What a byte at a place counts. -/
def wt (i : Nat) : Nat := if i % 2 = 0 then 256 else 1
theorem wt_two (i : Nat) : wt (i + 2) = wt i := by unfold wt; congr 1; simp
theorem tot_set : ∀ (l : List UInt8) (i : Nat) (h : i < l.length) (x : UInt8), tot (l.set i x) + l[i].toNat * wt i = tot l + x.toNat * wt i
  | [], i, h, x => by simp at h
  | [y], i, h, x => by
    obtain rfl : i = 0 := by simp at h; omega
    simp [tot, wt]; omega
  | y :: z :: r, 0, h, x => by simp [tot, wt]; omega
  | y :: z :: r, 1, h, x => by simp [tot, wt]; omega
  | y :: z :: r, i + 2, h, x => by
    have hi : i < r.length := by simp at h; omega
    have := tot_set r i hi x
    simp only [List.set_cons_succ, tot, List.getElem_cons_succ, wt_two]
    omega

/-- The word at an even place. -/
def word (l : List UInt8) (i : Nat) : Nat := num ((l.drop i).take 2)
theorem num_two (x y : UInt8) : num [x, y] = x.toNat * 256 + y.toNat := by simp [num]
theorem tot_two (x y : UInt8) : tot [x, y] = x.toNat * 256 + y.toNat := by simp [tot]
theorem take_two (l : List UInt8) (i : Nat) (h : i + 2 ≤ l.length) : (l.drop i).take 2 = [l[i], l[i + 1]] := by
  rw [List.drop_eq_getElem_cons (by omega), List.drop_eq_getElem_cons (by omega)]; rfl
theorem word_le (l : List UInt8) (i : Nat) (h : i + 2 ≤ l.length) : word l i ≤ 65535 := by
  unfold word
  rw [take_two l i h, num_two]
  have h1 : l[i].toNat < 256 := l[i].toNat_lt
  have h2 : l[i + 1].toNat < 256 := l[i + 1].toNat_lt
  omega
theorem tot_take (l : List UInt8) (i : Nat) (he : i % 2 = 0) (h : i + 2 ≤ l.length) : tot (l.take (i + 2)) = tot (l.take i) + word l i := by
  have e : l.take (i + 2) = l.take i ++ (l.drop i).take 2 := by rw [List.take_add]
  rw [e, tot_append _ _ (by simp; omega), take_two l i h, tot_two]
  unfold word
  rw [take_two l i h, num_two]
/-- A step of the sum: the next word. -/
theorem red_step (l : List UInt8) (i : Nat) (he : i % 2 = 0) (h : i + 2 ≤ l.length) : oadd (red (tot (l.take i))) (word l i) = red (tot (l.take (i + 2))) := by
  rw [red_word _ (word_le l i h), tot_take l i he h]
/-- The last step where the number of bytes is odd. -/
theorem red_last (l : List UInt8) (i : Nat) (he : i % 2 = 0) (h : i + 1 = l.length) : oadd (red (tot (l.take i))) (l[i].toNat * 256) = red (tot l) := by
  have hx : l[i].toNat < 256 := l[i].toNat_lt
  have e : l = l.take i ++ [l[i]] := by
    rw [← List.take_succ_eq_append_getElem (by omega), List.take_of_length_le (by omega)]
  have e2 : tot l = tot (l.take i) + l[i].toNat * 256 := by
    conv => lhs; rw [e]
    rw [tot_append _ _ (by simp; omega)]; rfl
  rw [e2, red_word _ (by omega)]

/-- A word laid at an even place. -/
def lay (l : List UInt8) (i v : Nat) : List UInt8 := l.take i ++ (dig 2 v ++ l.drop (i + 2))
theorem dig_two (v : Nat) : dig 2 v = [UInt8.ofNat (v / 256), UInt8.ofNat v] := by simp [dig]
theorem tot_dig (v : Nat) (h : v ≤ 65535) : tot (dig 2 v) = v := by rw [dig_two, tot_two]; simp [UInt8.toNat_ofNat']; omega
theorem lay_length (l : List UInt8) (i v : Nat) (h : i + 2 ≤ l.length) : (lay l i v).length = l.length := by simp [lay, dig_length]; omega
theorem lay_tot (l : List UInt8) (i v : Nat) (he : i % 2 = 0) (h : i + 2 ≤ l.length) (hv : v ≤ 65535) : tot (lay l i v) = tot (l.take i) + (v + tot (l.drop (i + 2))) := by
  unfold lay
  rw [tot_append _ _ (by simp; omega), tot_append _ _ (by rw [dig_length]), tot_dig v hv]
theorem lay_set (l : List UInt8) (i v : Nat) (h : i + 2 ≤ l.length) : (l.set i (UInt8.ofNat (v / 256))).set (i + 1) (UInt8.ofNat v) = lay l i v := by
  unfold lay
  rw [dig_two]
  apply List.ext_getElem
  · simp; omega
  · intro k h1 h2
    simp only [List.getElem_set, List.getElem_append]
    by_cases hk : k < i
    · have hp : k < (l.take i).length := by simp; omega
      have a1 : ¬ (i + 1 = k) := by omega
      have a2 : ¬ (i = k) := by omega
      simp only [hp, dite_true, a1, a2, if_false, List.getElem_take]
    · have hn : ¬ k < (l.take i).length := by simp; omega
      have hlt : (l.take i).length = i := by simp; omega
      simp only [hn, dite_false]
      by_cases k0 : k = i
      · subst k0; simp [hlt]
      · by_cases k1 : k = i + 1
        · subst k1; simp [hlt]
        · have a1 : ¬ (i + 1 = k) := by omega
          have a2 : ¬ (i = k) := by omega
          simp only [a1, a2, if_false]
          have a3 : ¬ (k - (l.take i).length < [UInt8.ofNat (v / 256), UInt8.ofNat v].length) := by simp; omega
          simp only [a3, dite_false]
          simp only [List.getElem_drop]
          congr 1
          simp; omega
theorem lay_lay (l : List UInt8) (i u v : Nat) (h : i + 2 ≤ l.length) : lay (lay l i u) i v = lay l i v := by
  rw [← lay_set (lay l i u) i v (by rw [lay_length l i u h]; exact h), ← lay_set l i u h, ← lay_set l i v h]
  apply List.ext_getElem
  · simp
  · intro k h1 h2
    simp only [List.getElem_set]
    by_cases k1 : i + 1 = k <;> by_cases k2 : i = k <;> simp [k1, k2]
/-- Sealed bytes are right. -/
theorem sealed_right (l : List UInt8) (i : Nat) (he : i % 2 = 0) (h : i + 2 ≤ l.length) : ofL (lay l i (ofL (lay l i 0))) = 0 := by
  have h1 := lay_tot l i 0 he h (by omega)
  have h2 := lay_tot l i _ he h (ofL_le (lay l i 0))
  have hr := red_le (tot (lay l i 0))
  have e : tot (lay l i (ofL (lay l i 0))) = tot (lay l i 0) + ofL (lay l i 0) := by omega
  have e2 : red (tot (lay l i (ofL (lay l i 0)))) = 65535 := by
    rw [e, ← red_word _ (ofL_le _)]
    unfold oadd ofL; split <;> omega
  show 65535 - red (tot (lay l i (ofL (lay l i 0)))) = 0
  rw [e2]
/-- Right bytes of which one is another are not right. -/
theorem finds (l : List UInt8) (i : Nat) (h : i < l.length) (x : UInt8) (hx : x ≠ l[i]) (h0 : ofL l = 0) : ofL (l.set i x) ≠ 0 := by
  intro hz
  have h1 := ((ofL_zero l).1 h0).2
  have h2 := ((ofL_zero _).1 hz).2
  have hs := tot_set l i h x
  have b1 : x.toNat < 256 := x.toNat_lt
  have b2 : l[i].toNat < 256 := l[i].toNat_lt
  have hne : x.toNat ≠ l[i].toNat := fun e => hx (UInt8.toNat_inj.1 e)
  unfold wt at hs
  generalize tot l = A at *
  generalize tot (l.set i x) = B at *
  split at hs <;> omega
end Go.Proofs.Ythmgpffpiggomaa

namespace Go.Proofs.Ythmgpffpiggomaa
open Go.RowKit

theorem add_calls (a b : Nat) (w : World) (ha : a ≤ 65535) (hb : b ≤ 65535) :
    Calls Try.prog 58 #[.int .u16 (a : Int), .int .u16 (b : Int)] w fun e w' => e = .returned (.int .u16 ((oadd a b : Nat) : Int)) ∧ w = w' := by
  by_cases h : 65535 < a + b
  · have HO := Lib.hid (show oadd a b = a + b - 65535 by unfold oadd; rw [if_pos h])
    go_enter Try.func58, Try.ntmps58
    go_wp2
    go_ret
    refine ⟨?_, rfl⟩
    rw [HO.out]
    congr 2
    go_num
  · have HO := Lib.hid (show oadd a b = a + b by unfold oadd; rw [if_neg h])
    go_enter Try.func58, Try.ntmps58
    go_wp2
    go_ret
    refine ⟨?_, rfl⟩
    rw [HO.out]
    congr 2

theorem add_i (a b : Int) (w : World) (ha0 : 0 ≤ a) (ha : a ≤ 65535) (hb0 : 0 ≤ b) (hb : b ≤ 65535) :
    Calls Try.prog 58 #[.int .u16 a, .int .u16 b] w fun e w' => e = .returned (.int .u16 ((oadd a.toNat b.toNat : Nat) : Int)) ∧ w = w' := by
  have := add_calls a.toNat b.toNat w (by omega) (by omega)
  rwa [Int.toNat_of_nonneg ha0, Int.toNat_of_nonneg hb0] at this

/-- An append of one byte to bytes without spare room: the new bytes lie in a block of their own. -/
theorem full_push {w : World} {a : Option Addr} {n : Nat} {l : List UInt8} (h : Bts w w.heap.size a n l) (h0 : 0 < n) (x : UInt8) (hlen : n + 1 ≤ 140737488355328) (ty : TypeId) :
    ∃ A' c' w', (Builtin.append_ #[31, 31] ty #[.slice a n n, .slice (some ⟨w.heap.size, 0, none⟩) 1 1]).run Try.prog (w.alloc (.cells #[.int .u8 (x.toNat : Int)] 5)) = .ok (.slice A' (n + 1) c') w' ∧
      Acc w' w.heap.size A' c' (l ++ [x]) ∧ Below w.heap.size w w' := by
  have hn := h.1
  subst hn
  obtain ⟨i, hi, hzz⟩ := Option.map_eq_some_iff.1 (show (Try.prog.info? 5).map (fun i => (i.zero, i.size, i.bytes)) = some (some (.int .u8 0), 1, 1) by kernel_rfl)
  simp only [Prod.mk.injEq] at hzz
  obtain ⟨hz, hsz, hby⟩ := hzz
  obtain ⟨b, o, rfl, _, hc⟩ := (h.keep (w' := w.alloc (.cells #[.int .u8 (x.toNat : Int)] 5)) fun b hb => Below.heap_alloc _ _ _ hb).2 h0
  have ho : Own (w.alloc (.cells #[.int .u8 (x.toNat : Int)] 5)) w.heap.size [x] := heap_alloc_new w _
  obtain ⟨v', w', hrun, h2, h3⟩ := run_append_arg_grows (P := Try.prog) (w.alloc (.cells #[.int .u8 (x.toNat : Int)] 5)) 31 ty 5 i (.int .u8 0) 1 1 Try.underlying31 hi hz hsz hby rfl (by omega)
    ⟨b, o, none⟩ l.length l.length (l.map bv) (by simp)
    (fun j u hu => by
      have hj : j < l.length := by
        rcases Nat.lt_or_ge j l.length with h | h
        · exact h
        · rw [List.getElem?_eq_none (by simpa using h)] at hu; cases hu
      rw [add_plain, hc j hj]
      simpa [hj] using hu)
    ⟨w.heap.size, 0, none⟩ 1 1 [bv x] (by simp)
    (fun j u hu => by
      have hj : j = 0 := by
        rcases Nat.eq_zero_or_pos j with h | h
        · exact h
        · rw [List.getElem?_eq_none (by simp; omega)] at hu; cases hu
      subst hj
      rw [add_plain, ho.cell 0 (by simp)]
      simpa using hu)
    (by omega) (by unfold maxLen; omega) (by omega)
  have ho' : w'.ownsRow (w.alloc (.cells #[.int .u8 (x.toNat : Int)] 5)).heap.size 5 1 v' (l ++ [x]).length ((l ++ [x]).map bv) := by
    rw [List.map_append, List.length_append]; exact h2
  rcases h2.2 with ⟨_, h0'⟩ | ⟨g, cap, cur, rfl, _⟩
  · omega
  · refine ⟨_, cap, w', hrun, ?_, ⟨h3.os, h3.tape, h3.output, Nat.le_trans (by simp) h3.size, fun i hi => (h3.block i (by simp; omega) (by simp)).trans (Below.heap_alloc _ _ _ hi)⟩⟩
    refine Acc.lower (base := (w.alloc (.cells #[.int .u8 (x.toNat : Int)] 5)).heap.size) ?_ (by simp)
    unfold Acc
    rw [List.length_append]; rw [List.length_append] at ho'; exact ho'

def EvenPost (w : World) (l : List UInt8) (e : Ending) (w' : World) : Prop :=
  ∃ a c, e = .returned (.slice a (ev l).length c) ∧ Bts w' w'.heap.size a (ev l).length (ev l) ∧ Below w.heap.size w w'

theorem even_calls (a : Option Addr) (n c : Nat) (l : List UInt8) (w : World) (h : Bts w w.heap.size a n l) (hlen : n ≤ 70368744177664) (hc : n ≤ c) :
    Calls Try.prog 57 #[.slice a n c] w (EvenPost w l) := by
  have hn := h.1
  have HB := Lib.hid h
  by_cases he : n % 2 = 0
  · have HE := Lib.hid (show ev l = l by unfold ev; rw [if_pos (by omega)])
    have hm : ((n : Int) % 2 == 0) = true := by simp; omega
    clear h hn
    go_enter Try.func57, Try.ntmps57
    go_wp2
    go_ret
    refine ⟨a, c, ?_, ?_, Below.refl _ _⟩
    · rw [HE.out, HB.out.1]; rfl
    · rw [HE.out, HB.out.1]; exact HB.out
  · have HE := Lib.hid (show ev l = l ++ [0] by unfold ev; rw [if_neg (by omega)])
    have hm : ((n : Int) % 2 == 0) = false := by simp; omega
    obtain ⟨A, c', w', hr, hacc, hb⟩ := full_push h (by omega) 0 (by omega) 31
    have HR := Lib.hid hr
    have HA := Lib.hid hacc
    have HBL := Lib.hid hb
    clear h hn hr hacc hb
    go_enter Try.func57, Try.ntmps57
    go_wp2_with (at_builtin; refine step_append rfl rfl rfl rfl HR.out ?_)
    go_ret
    have hl : (l ++ [(0 : UInt8)]).length = n + 1 := by rw [List.length_append, HB.out.1]; rfl
    refine ⟨A, c', ?_, ?_, HBL.out⟩
    · rw [HE.out, hl]; rfl
    · rw [HE.out]; exact HA.out.bts
end Go.Proofs.Ythmgpffpiggomaa

namespace Go.Proofs.Ythmgpffpiggomaa
open Go.RowKit

/-- How far a reader has come: for a loop's measure. -/
def posOf (w : World) (r : Nat) : Nat := match w.cell? ⟨r, 2, none⟩ with | some (.int _ i) => i.toNat | _ => 0
theorem Rdr.pos {w : World} {r g i : Nat} {l : List UInt8} {err : Int} (h : Rdr w r g l i err) : posOf w r = i := by
  unfold posOf; rw [h.c2]; simp

def OfPost (w : World) (l : List UInt8) (e : Ending) (w' : World) : Prop := e = .returned (.int .u16 ((ofL l : Nat) : Int)) ∧ Below w.heap.size w w'

set_option maxHeartbeats 400000 in
theorem of_calls (a : Option Addr) (n c : Nat) (l : List UInt8) (w : World) (h : Bts w w.heap.size a n l) (hlen : n ≤ 70368744177664) (hc : n ≤ c) :
    Calls Try.prog 30 #[.slice a n c] w (OfPost w l) := by
  have HN := Lib.hid h.1
  have HB := Lib.hid h
  clear h
  go_enter Try.func30, Try.ntmps30
  go_wp2_with fail
  ((with_reducible refine (even_calls a n c l w HB.out hlen hc).mono ?_))
  rintro e w1 ⟨a1, c1, rfl, h1, b1⟩
  have HEV := Lib.hid (ev_even l)
  have HEL := Lib.hid (ev_length l)
  have HET := Lib.hid (tot_ev l)
  obtain ⟨m, hm⟩ : ∃ m, m = ev l := ⟨_, rfl⟩
  rw [← hm] at h1 HEV HEL HET ⊢
  have HM := Lib.hid hm
  have H1 := Lib.hid h1
  have B1 := Lib.hid b1
  have hml : m.length ≤ 70368744177665 := by have := HEL.out; have := HN.out; omega
  clear hm h1 b1
  go_wp2_with fail
  ((with_reducible refine (new_calls a1 _ c1 m w1 H1.out (by omega)).mono ?_))
  rintro e w2 ⟨r, g, rfl, hr, hg, h2, b2⟩
  have H2 := Lib.hid h2
  have B2 := Lib.hid (bel_more B1.out (Nat.le_refl _) b2)
  have HR := Lib.hid (Nat.le_trans B1.out.size hr)
  clear h2 b2 hr hg
  go_wp2_with fail
  go_loopw [4] (fun t W => ∃ j x : Nat, t = .int .u16 (x : Int) ∧ Hid (j % 2 = 0) ∧ Hid (x = red (tot (m.take j))) ∧ Hid (Rdr W r g m j 0) ∧ Hid (Below w.heap.size w W)) (fun _ W => m.length - posOf W r)
  case atStart => exact ⟨0, 0, rfl, Lib.hid rfl, Lib.hid rfl, H2, B2⟩
  case round =>
    obtain ⟨j, x, rfl, HJ, HX, HW, HBW⟩ := hrel
    have hjm : j ≤ m.length := HW.out.2.2.1
    have hx : x ≤ 65535 := by rw [HX.out]; exact red_le _
    go_wp2_with fail
    ((with_reducible refine (left_calls HW.out).mono ?_))
    rintro e w3 ⟨rfl, k, rfl⟩
    by_cases hlt : j < m.length
    · have hj2 : j + 2 ≤ m.length := by have := HJ.out; have := HEV.out; omega
      go_wp2_with fail
      ((with_reducible refine (uint_i (HW.out.drewN k) _ (by omega) (by omega) (by omega)).mono ?_))
      rintro e w4 ⟨rfl, h4, u4⟩
      obtain ⟨y, hy⟩ : ∃ y, y = num ((m.drop j).take (Int.toNat 2)) := ⟨_, rfl⟩
      rw [← hy]
      have hyw : y = word m j := hy
      have hyl : y ≤ 65535 := by rw [hyw]; exact word_le m j hj2
      have HST := Lib.hid (show oadd x y = red (tot (m.take (j + 2))) by rw [HX.out, hyw]; exact red_step m j HJ.out hj2)
      have H4 := Lib.hid h4
      have U4 := Lib.hid u4
      clear hy hyw h4 u4
      go_wp2_with fail
      ((with_reducible refine (add_calls x y _ hx hyl).mono ?_))
      rintro e w5 ⟨rfl, rfl⟩
      go_wp2
      have hp4 := H4.out.pos
      have hp := HW.out.pos
      exact ⟨⟨j + 2, _, rfl, Lib.hid (by have := HJ.out; omega), HST, H4, Lib.hid (bel_upd (bel_drewN HBW.out k) U4.out (Nat.le_refl _) HR.out)⟩, by rw [hp4, hp]; show m.length - (j + 2) < m.length - j; omega⟩
    · have hjn : j = m.length := by omega
      go_wp2
      go_ret
      refine ⟨?_, bel_drewN HBW.out k⟩
      have e1 : m.take j = m := List.take_of_length_le (by omega)
      have e2 := HX.out
      rw [e1, HET.out] at e2
      unfold ofL
      rw [← e2]
      congr 2
      go_num
end Go.Proofs.Ythmgpffpiggomaa

namespace Go.Proofs.Ythmgpffpiggomaa
open Go.RowKit

def RightPost (w : World) (l : List UInt8) (e : Ending) (w' : World) : Prop := e = .returned (.bool (decide (ofL l = 0))) ∧ Below w.heap.size w w'

theorem right_calls (a : Option Addr) (n c : Nat) (l : List UInt8) (w : World) (h : Bts w w.heap.size a n l) (hlen : n ≤ 70368744177664) (hc : n ≤ c) :
    Calls Try.prog 34 #[.slice a n c] w (RightPost w l) := by
  have HB := Lib.hid h
  clear h
  go_enter Try.func34, Try.ntmps34
  go_wp2_with fail
  ((with_reducible refine (of_calls a n c l w HB.out hlen hc).mono ?_))
  rintro e w1 ⟨rfl, b1⟩
  have B1 := Lib.hid b1
  clear b1
  obtain ⟨x, hx⟩ : ∃ x, x = ofL l := ⟨_, rfl⟩
  rw [← hx]
  have HX := Lib.hid hx
  clear hx
  go_wp2
  go_ret
  refine ⟨?_, B1.out⟩
  rw [← HX.out]
  by_cases h0 : x = 0
  · subst h0; rfl
  · have : ((x : Int) == 0) = false := by simp; omega
    simp [h0]

def ReplacePost (w : World) (n : Nat) (m : List UInt8) (e : Ending) (w' : World) : Prop :=
  ∃ A c, e = .returned (.slice A n c) ∧ Acc w' w.heap.size A c m ∧ Below w.heap.size w w'

set_option maxHeartbeats 400000 in
theorem replace_calls (a : Option Addr) (n c : Nat) (l : List UInt8) (at_ v : Nat) (w : World) (h : Bts w w.heap.size a n l) (hlen : n ≤ 70368744177664) (hc : n ≤ c) (hcm : c ≤ maxLen) (hat : at_ + 2 ≤ n) (hv : v ≤ 65535) :
    Calls Try.prog 29 #[.slice a n c, .int .i64 (at_ : Int), .int .u16 (v : Int)] w (ReplacePost w n (lay l at_ v)) := by
  obtain ⟨b, o, rfl, _, _⟩ := h.2 (by omega)
  unfold maxLen at hcm
  have HB := Lib.hid h
  have HF := Lib.hid (h.front at_ (by omega))
  have HN := Lib.hid h.1
  clear h
  have HV := Lib.hid (show Int.toNat (v : Int) < 256 ^ Int.toNat 2 by have : 256 ^ Int.toNat 2 = 65536 := by decide
                                                                      rw [this]; omega)
  have hv2 : IntKind.u64.wrap (v : Int) = (v : Int) := by rw [IntKind.wrap_u64]; omega
  go_enter Try.func29, Try.ntmps29
  go_wp2_with fail
  ((with_reducible refine (put_i _ at_ _ (l.take at_) _ _ w HF.out (by omega) (by omega) (by omega) (by omega) HV.out).mono ?_))
  rintro e w1 ⟨rfl, h1, b1⟩
  obtain ⟨f, hf⟩ : ∃ f, f = l.take at_ ++ dig (Int.toNat 2) (Int.toNat (v : Int)) := ⟨_, rfl⟩
  have hfl : f.length = at_ + 2 := by rw [hf, List.length_append, dig_length, HF.out.1]; rfl
  have htl : (l.take at_).length = at_ := HF.out.1
  rw [← hf] at h1
  have HFF := Lib.hid hf
  have A1 := Lib.hid (h1.acc (Nat.le_refl _) (by omega))
  have B1 := Lib.hid b1
  rw [htl]
  clear hf h1 b1 htl
  have hlay : f ++ l.drop (at_ + 2) = lay l at_ v := by rw [HFF.out]; unfold lay; rw [List.append_assoc]; rfl
  have hsz : at_ + 2 + (n - (at_ + 2)) = n := by omega
  by_cases hcc : c = at_ + 2
  · obtain rfl : n = at_ + 2 := by omega
    subst hcc
    have hd : l.drop (at_ + 2) = [] := List.drop_of_length_le (by rw [HN.out]; omega)
    rw [hd, List.append_nil] at hlay
    have AC2 := A1
    rw [hfl, hlay] at AC2
    clear hd hfl hlay hsz A1
    go_wp2
    go_ret
    exact ⟨_, _, rfl, AC2.out, B1.out⟩
  · have hs1 : Bts w1 w.heap.size (some ⟨b, o + (at_ + 2), none⟩) (n - (at_ + 2)) (l.drop (at_ + 2)) := (HB.out.below B1.out).rest _ hat
    obtain ⟨A2, c2, w2, r2, ac2, g2, e2⟩ := acc_append A1.out (cc := c - (at_ + 2)) hs1 B1.out.size (by omega) 31
    rw [hfl, hsz] at r2
    rw [hlay] at ac2
    have R2 := Lib.hid r2
    have AC2 := Lib.hid ac2
    have B2 := Lib.hid (bel_acc B1.out A1.out g2)
    clear r2 ac2 g2 e2 hs1 hfl hlay hsz
    go_wp2_with (at_builtin; refine step_append rfl rfl rfl rfl R2.out ?_)
    go_ret
    exact ⟨A2, c2, rfl, AC2.out, B2.out⟩
/-- Bytes with their check sum at a place. -/
def sealL (l : List UInt8) (i : Nat) : List UInt8 := lay l i (ofL (lay l i 0))
theorem sealL_length (l : List UInt8) (i : Nat) (h : i + 2 ≤ l.length) : (sealL l i).length = l.length := lay_length l i _ h
theorem replace_i (a : Option Addr) (n c : Nat) (l : List UInt8) (i v : Int) (w : World) (h : Bts w w.heap.size a n l) (hlen : n ≤ 70368744177664) (hc : n ≤ c) (hcm : c ≤ maxLen) (hi : 0 ≤ i) (hat : i + 2 ≤ n) (hv0 : 0 ≤ v) (hv : v ≤ 65535) :
    Calls Try.prog 29 #[.slice a n c, .int .i64 i, .int .u16 v] w (ReplacePost w n (lay l i.toNat v.toNat)) := by
  have := replace_calls a n c l i.toNat v.toNat w h hlen hc hcm (by omega) (by omega)
  rwa [Int.toNat_of_nonneg hi, Int.toNat_of_nonneg hv0] at this

theorem seal_no (a : Option Addr) (n c : Nat) (i : Int) (w : World) (hlen : n ≤ 70368744177664) (hi : i < 9223372036854775808) (hbad : i < 0 ∨ i % 2 ≠ 0 ∨ (n : Int) - i < 2) :
    Calls Try.prog 17 #[.slice a n c, .int .i64 i] w fun e w' => e = .returned (.tuple #[.slice none 0 0, .int .i64 2]) ∧ w = w' := by
  by_cases h1 : i < 0
  · clear hbad
    go_enter Try.func17, Try.ntmps17
    go_wp2
    go_ret2
    exact ⟨rfl, rfl⟩
  · by_cases h2 : i % 2 = 0
    · have h3 : (n : Int) - i < 2 := by omega
      have hm : (i % 2 != 0) = false := by simpa using h2
      clear hbad
      go_enter Try.func17, Try.ntmps17
      go_wp2
      go_ret2
      exact ⟨rfl, rfl⟩
    · have hm : (i % 2 != 0) = true := by simpa using h2
      clear hbad
      go_enter Try.func17, Try.ntmps17
      go_wp2
      go_ret2
      exact ⟨rfl, rfl⟩

def SealPost (w : World) (n : Nat) (m : List UInt8) (e : Ending) (w' : World) : Prop :=
  ∃ A c, e = .returned (.tuple #[.slice A n c, .int .i64 0]) ∧ Acc w' w.heap.size A c m ∧ Below w.heap.size w w'

set_option maxHeartbeats 400000 in
theorem seal_ok (a : Option Addr) (n c : Nat) (l : List UInt8) (i : Int) (w : World) (h : Bts w w.heap.size a n l) (hlen : n ≤ 70368744177664) (hc : n ≤ c) (hcm : c ≤ maxLen) (hi : 0 ≤ i) (he : i % 2 = 0) (hat : i + 2 ≤ n) :
    Calls Try.prog 17 #[.slice a n c, .int .i64 i] w (SealPost w n (sealL l i.toNat)) := by
  have hm : (i % 2 != 0) = false := by simpa using he
  have HB := Lib.hid h
  have HN := Lib.hid h.1
  have HC := Lib.hid hcm
  have HL0 := Lib.hid (lay_length l i.toNat 0 (by have := h.1; omega))
  clear h he hcm
  go_enter Try.func17, Try.ntmps17
  go_wp2_with fail
  ((with_reducible refine (replace_i a n c l i 0 w HB.out hlen hc HC.out hi hat (by omega) (by omega)).mono ?_))
  rintro e w1 ⟨A1, c1, rfl, h1, b1⟩
  obtain ⟨m, hm0⟩ : ∃ m, m = lay l i.toNat 0 := ⟨_, rfl⟩
  have h1' : Acc w1 w.heap.size A1 c1 m := by rw [hm0]; exact h1
  have hml : m.length = n := by rw [hm0, HL0.out, HN.out]
  have HM := Lib.hid hm0
  have hc1 : n ≤ c1 := by rw [← hml]; exact h1'.cap
  have H1 := Lib.hid h1'.bts
  rw [hml] at H1
  have B1 := Lib.hid b1
  clear h1 h1' b1 hm0 hml
  go_wp2_with fail
  ((with_reducible refine (of_calls A1 n c1 m w1 H1.out hlen hc1).mono ?_))
  rintro e w2 ⟨rfl, b2⟩
  have B2 := Lib.hid (bel_more B1.out (Nat.le_refl _) b2)
  have hv := ofL_le m
  obtain ⟨v, hv0⟩ : ∃ v, v = ofL m := ⟨_, rfl⟩
  rw [← hv0] at hv ⊢
  have HV := Lib.hid hv0
  clear hv0 b2
  go_wp2_with fail
  ((with_reducible refine (replace_i a n c l i (v : Int) w2 ((HB.out.below B2.out).more B2.out.size) hlen hc HC.out hi hat (by omega) (by omega)).mono ?_))
  rintro e w3 ⟨A3, c3, rfl, h3, b3⟩
  have H3 := Lib.hid h3
  have B3 := Lib.hid b3
  clear h3 b3
  go_wp2
  go_ret2
  refine ⟨A3, c3, rfl, ?_, bel_more B2.out (Nat.le_refl _) B3.out⟩
  have e1 : lay l i.toNat (Int.toNat (v : Int)) = sealL l i.toNat := by unfold sealL; rw [← HM.out, ← HV.out]; rfl
  rw [← e1]
  exact H3.out.lower B2.out.size
end Go.Proofs.Ythmgpffpiggomaa
