/-
  The walk of the statement GraphNear: for any links and any two nodes it answers true, and nothing that was there has turned. No condition.
-/
import Derived.Test.YtpgbfjeejkeibaaGraphAlive
import Derived.Test.YtpgbfjeejkeibaaGraphF
namespace Go.Proofs.Ytpgbfjeejkeibaa
open Go.RowKit

theorem near_sym {L : List Lk} {a b : Int} {o o' : List Int} (h : NearOk L a o) (h' : NearOk L b o') : decide (b ∈ o) = decide (a ∈ o') := by
  apply decide_eq_decide.2
  rw [h.mem, h'.mem]
  constructor
  · rintro ⟨y, hy, ⟨h1, h2⟩ | ⟨h1, h2⟩⟩
    · exact ⟨y, hy, .inr ⟨h2, h1⟩⟩
    · exact ⟨y, hy, .inl ⟨h2, h1⟩⟩
  · rintro ⟨y, hy, ⟨h1, h2⟩ | ⟨h1, h2⟩⟩
    · exact ⟨y, hy, .inr ⟨h2, h1⟩⟩
    · exact ⟨y, hy, .inl ⟨h2, h1⟩⟩
theorem len_sub : ∀ {l k : List Int}, l.Nodup → (∀ x ∈ l, x ∈ k) → l.length ≤ k.length
  | [], _, _, _ => Nat.zero_le _
  | x :: l, k, hn, hs => by
    have h1 := List.nodup_cons.1 hn
    have hx : x ∈ k := hs x (by simp)
    have ih := len_sub (k := k.erase x) h1.2 (fun y hy => (List.mem_erase_of_ne (by rintro rfl; exact h1.1 hy)).2 (hs y (List.mem_cons_of_mem _ hy)))
    rw [List.length_erase_of_mem hx] at ih
    have := List.length_pos_of_mem hx
    simp only [List.length_cons]
    omega
theorem near_short {L : List Lk} {a : Int} {o : List Int} (h : NearOk L a o) : o.length ≤ 2 * L.length := by
  have hn : o.Nodup := h.order.imp (fun h e => by omega)
  exact Nat.le_trans (len_sub hn (fun x hx => (nr_mem L a x).2 ((h.mem x).1 hx))) (nr_len L a L.length)

set_option maxHeartbeats 1600000 in
theorem near_walk (p : Option Addr) (n c : Nat) (x y : Int) (w : World) (h : n ≤ c ∧ c ≤ maxLen ∧ ∃ L, Row lkc w w.heap.size p n L) :
    Calls Try.prog 6 #[.slice p n c, .int .i64 x, .int .i64 y] w fun e w' => e = .returned (.bool true) ∧ Below w.heap.size w w' := by
  obtain ⟨_, hcm, L, hR⟩ := h
  have HR := Lib.hid hR
  have HL := Lib.hid hR.1
  have hb63 : n ≤ 9223372036854775807 := by simp only [maxLen] at hcm; omega
  clear hR hcm
  go_enter Try.func6, Try.ntmps6
  go_wp2_with fail
  ((with_reducible refine (alive9_calls w).mono ?_))
  rintro e w1 ⟨rfl, b1⟩
  have B1 := Lib.hid b1
  clear b1
  by_cases hn : 200 < n
  · have hn2 : (200 : Int) < (n : Int) := by omega
    go_wp2_with fail
    go_ret
    exact ⟨rfl, B1.out⟩
  · have hn2 : ¬ (200 : Int) < (n : Int) := by omega
    go_wp2_with fail
    have hRw : ∀ W, Below w.heap.size w W → Row lkc W W.heap.size p n L := fun W hW => (HR.out.below hW).more hW.size
    have HRW := Lib.hid hRw
    have hl := HL.out
    clear hRw hn2
    refine (near_calls x p n c L w1 (HRW.out _ B1.out) (by omega)).mono ?_
    rintro e w2 ⟨o, A, c2, rfl, a2, ho, b2⟩
    have B2 := Lib.hid (bel_more B1.out (Nat.le_refl _) b2)
    have hs2 := near_short ho
    have R2 := Lib.hid (AccR.row a2)
    have O2 := Lib.hid ho
    clear a2 b2 ho
    go_wp2_with fail
    refine (rhas_calls y A o.length c2 _ o w2 R2.out (by omega)).mono ?_
    rintro e w3 ⟨rfl, rfl⟩
    go_wp2_with fail
    refine (near_calls y p n c L w3 (HRW.out _ B2.out) (by omega)).mono ?_
    rintro e w4 ⟨o4, A4, c4, rfl, a4, ho4, b4⟩
    have B4 := Lib.hid (bel_more B2.out (Nat.le_refl _) b4)
    have hs4 := near_short ho4
    have R4 := Lib.hid (AccR.row a4)
    have heq := near_sym O2.out ho4
    clear a4 b4 ho4
    go_wp2_with fail
    refine (rhas_calls x A4 o4.length c4 _ o4 w4 R4.out (by omega)).mono ?_
    rintro e w5 ⟨rfl, rfl⟩
    have hb : (decide (x ∈ o4) == decide (x ∈ o4)) = true := by simp
    clear heq
    go_wp2_with fail
    go_ret
    exact ⟨by first | rfl | (rw [hb]; rfl), B4.out⟩
end Go.Proofs.Ytpgbfjeejkeibaa
