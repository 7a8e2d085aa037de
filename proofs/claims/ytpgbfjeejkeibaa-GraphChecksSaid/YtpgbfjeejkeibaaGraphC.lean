/-
  Contracts of package graph: Find; slices.IndexFunc, slices.Index, slices.Contains as they are used there. Condition: at most 2^40 links or numbers.
-/
import Derived.Test.YtpgbfjeejkeibaaGraphA
import Derived.Shelf.Abstract
import Derived.Laws.EntriesVeiled
namespace Go.Proofs.Ytpgbfjeejkeibaa
open Go.RowKit

/-- Does a link lead from one node to another one? -/
def isE (f t : Int) (x : Lk) : Bool := x.f == f && x.t == t
set_option maxHeartbeats 1600000 in
theorem find1_calls (x : Lk) (f t : Int) (p q : Nat) (w : World) (hp : Blk w p 3 [.int .i64 f]) (hq : Blk w q 3 [.int .i64 t]) :
    Calls Try.prog 30 #[.agg (lkc x).toArray, .pointer (some ⟨p, 0, none⟩), .pointer (some ⟨q, 0, none⟩)] w fun e w' => e = .returned (.bool (isE f t x)) ∧ Below w.heap.size w w' := by
  have b0 := Lib.hid (bel_new (Below.refl w.heap.size w) (.cells (lkc x).toArray 50))
  have q0 := Lib.hid (Blk.new w 50 (lkc x))
  have hend := fun (w : World) => endsof_calls x w
  have c1 : (w.alloc (.cells (lkc x).toArray 50)).cell? ⟨p, 0, none⟩ = some (.int .i64 f) := (hp.alloc _).cell 0
  have c2 : (w.alloc (.cells (lkc x).toArray 50)).cell? ⟨q, 0, none⟩ = some (.int .i64 t) := (hq.alloc _).cell 0
  have HPQ := Lib.hid (And.intro (hp.alloc (.cells (lkc x).toArray 50)) (hq.alloc (.cells (lkc x).toArray 50)))
  generalize hcs : lkc x = cs at *
  clear hp hq c1 c2
  go_enter Try.func30, Try.ntmps30
  go_wp2_with fail
  have S0 : Blk (w.alloc (.cells cs.toArray 50)) w.heap.size 50 cs ∧ (w.alloc (.cells cs.toArray 50)).cell? ⟨p, 0, none⟩ = some (.int .i64 f) ∧ (w.alloc (.cells cs.toArray 50)).cell? ⟨q, 0, none⟩ = some (.int .i64 t) := ⟨q0.out, HPQ.out.1.cell 0, HPQ.out.2.cell 0⟩
  generalize hw0 : w.alloc (.cells cs.toArray 50) = w0 at *
  refine region_seq (fun W => Blk W w.heap.size 50 cs ∧ W.cell? ⟨p, 0, none⟩ = some (.int .i64 f) ∧ W.cell? ⟨q, 0, none⟩ = some (.int .i64 t)) [(0, true), (2, true), (3, true), (4, true), (1, false), (5, true), (6, true)]
    (by kernel_rfl) (by kernel_rfl) (by kernel_rfl) (by kernel_rfl) (fun _ _ _ _ _ h => h) S0 ?_
  refine seq_load8 rfl (by rfl) rfl rfl (fun W hW => hW.1) Try.underlying50 rfl (by rw [← hcs]; exact infoLink) ?_
  simp only [Act.put, List.setIfInBounds_toArray, List.set_cons_zero, List.set_cons_succ]
  repeat
    refine seq_pure (v := ?_) rfl (by rfl) (fun W hW => ?_) ?_
    rotate_left
    · have t1 := hW.2.1
      have t2 := hW.2.2
      clear hW
      go_simp
      try with_reducible rfl
    simp only [Act.put, List.setIfInBounds_toArray, List.set_cons_zero, List.set_cons_succ]
  refine seq_make rfl (by rfl) (fun K hK => ?_)
  go_simp
  ((with_reducible refine (hend _).mono ?_))
  rintro e w1 ⟨rfl, b1⟩
  have b2 := below_of_drew b1
  have B1 := Lib.hid (show Below w.heap.size w w1 from bel_more b0.out (Nat.le_refl _) b2)
  have S1 : Blk w1 w.heap.size 50 cs ∧ w1.cell? ⟨p, 0, none⟩ = some (.int .i64 f) ∧ w1.cell? ⟨q, 0, none⟩ = some (.int .i64 t) := ⟨S0.1.below b2, (HPQ.out.1.below b2).cell 0, (HPQ.out.2.below b2).cell 0⟩
  clear b1 b2
  unfold ev
  go_simp
  refine hK _ w1 (fun W => Blk W w.heap.size 50 cs ∧ W.cell? ⟨p, 0, none⟩ = some (.int .i64 f) ∧ W.cell? ⟨q, 0, none⟩ = some (.int .i64 t)) (fun W h => h) S1 ?_
  clear hK K
  refine seq_pure (v := .bool (isE f t x)) rfl (by rfl) (fun W hW => ?_) ?_
  · clear hW
    go_simp
    unfold isE
    by_cases h1 : x.f = f
    · by_cases h2 : x.t = t
      · simp [h1, h2]
      · simp [h1, h2]
    · simp [h1]
  simp only [Act.put, List.setIfInBounds_toArray, List.set_cons_zero, List.set_cons_succ]
  refine seq_pure (v := ?_) rfl (by rfl) (fun W hW => ?_) ?_
  rotate_left
  · clear hW
    go_simp
    try with_reducible rfl
  simp only [Act.put, List.setIfInBounds_toArray, List.set_cons_zero, List.set_cons_succ]
  refine seq_done ?_
  go_wp2_with fail
  go_ret
  exact ⟨rfl, B1.out⟩

/-- The first link from a node to another one. -/
def fndL (L : List Lk) (f t : Int) : Int := match L.findIdx? (isE f t) with | some i => (i : Int) | none => -1
theorem fndL_hit {L : List Lk} {f t : Int} {i : Nat} (hi : i < L.length) (hb : ∀ k (hk : k < L.length), k < i → isE f t L[k] = false) (h : isE f t L[i] = true) : fndL L f t = (i : Int) := by
  unfold fndL
  rw [List.findIdx?_eq_some_iff_getElem.2 ⟨hi, h, fun j hj => by have := hb j (by omega) hj; simp [this]⟩]
theorem fndL_none {L : List Lk} {f t : Int} (h : ∀ k (hk : k < L.length), isE f t L[k] = false) : fndL L f t = -1 := by
  unfold fndL
  rw [List.findIdx?_eq_none_iff.2 (fun x hx => by obtain ⟨k, hk, rfl⟩ := List.mem_iff_getElem.1 hx; exact h k hk)]
theorem fndL_cases (L : List Lk) (f t : Int) : (fndL L f t = -1 ∧ ∀ x ∈ L, isE f t x = false) ∨ ∃ i : Nat, ∃ hi : i < L.length, fndL L f t = (i : Int) ∧ isE f t L[i] = true := by
  unfold fndL
  cases h : L.findIdx? (isE f t) with
  | none => exact .inl ⟨rfl, List.findIdx?_eq_none_iff.1 h⟩
  | some i =>
    obtain ⟨hi, h1, _⟩ := List.findIdx?_eq_some_iff_getElem.1 h
    exact .inr ⟨i, hi, rfl, h1⟩

set_option maxHeartbeats 1600000 in
theorem findfn_calls (f t : Int) (p q : Nat) (a : Option Addr) (n c : Nat) (L : List Lk) (w : World) (h : Row lkc w w.heap.size a n L) (hp : Blk w p 3 [.int .i64 f]) (hq : Blk w q 3 [.int .i64 t]) (hn : n ≤ 1099511627776) :
    Calls Try.prog 29 #[.slice a n c, .func (.func 30) #[] #[.pointer (some ⟨p, 0, none⟩), .pointer (some ⟨q, 0, none⟩)]] w fun e w' => e = .returned (.int .i64 (fndL L f t)) ∧ Below w.heap.size w w' := by
  have he : ∀ (args : Array Value) (w : World), (callFunc 30 args).run Try.prog w = .ok (.enter 30 args) w := enters_of Try.func30 (by kernel_rfl) rfl
  have HLEN := Lib.hid h.1
  have HR := Lib.hid h
  have HP := Lib.hid hp
  have HQ := Lib.hid hq
  clear h hp hq
  go_enter Try.func29, Try.ntmps29
  go_wp2_with fail
  go_loopw [8] (fun t' wr => ∃ i : Nat, i ≤ n ∧ t' = .int .i64 (i : Int) ∧ (∀ k (hk : k < L.length), k < i → isE f t L[k] = false) ∧ Below w.heap.size w wr) (fun t' wr => n - (intOf t').toNat)
  case atStart => exact ⟨0, Nat.zero_le _, rfl, fun k _ hk => by omega, Below.refl _ _⟩
  case round =>
    obtain ⟨i, hi, rfl, hF, hB⟩ := hrel
    have HF := Lib.hid hF
    have HB := Lib.hid hB
    clear hF hB
    by_cases hlt : i < n
    · obtain ⟨b, o, rfl, hbw, hcell⟩ := row_link HR.out (by omega)
      have hil : i < L.length := by have := HLEN.out; omega
      have hat2 : wr.rangeAt b (o + i * 5) (lkc L[i]) := fun j v hv => (World.cell?_of_block (w := w) (HB.out.block b hbw)).trans (hcell i hil j v hv)
      have HX := Lib.hid hat2
      clear hcell hat2
      go_wp2_with (refine step_load_at (o := ⟨some 15, _, _, _, _, _⟩) rfl rfl rfl HX.out Try.underlying50 rfl infoLink ?_)
      refine (find1_calls L[i] f t p q wr (HP.out.below HB.out) (HQ.out.below HB.out)).mono ?_
      rintro e w2 ⟨rfl, b2⟩
      have B2 := Lib.hid (bel_more HB.out (Nat.le_refl _) b2)
      clear b2
      cases hs : isE f t L[i] with
      | true =>
        have hr := fndL_hit hil HF.out hs
        go_wp2_with fail
        go_ret
        exact ⟨by rw [hr]; rfl, B2.out⟩
      | false =>
        have F2 : ∀ k (hk : k < L.length), k < i + 1 → isE f t L[k] = false := fun k hk hlt => by
          rcases Nat.lt_or_ge k i with h | h
          · exact HF.out k hk h
          · obtain rfl : k = i := by omega
            exact hs
        have F3 := Lib.hid F2
        clear F2
        go_wp2_with fail
        go_roundw
        case rel => exact ⟨i + 1, by omega, rfl, F3.out, B2.out⟩
        case measure => simp [intOf]; omega
    · have hr : fndL L f t = -1 := fndL_none (fun k hk => HF.out k hk (by have := HLEN.out; omega))
      have HRR := Lib.hid hr
      clear hr
      go_wp2_with fail
      go_ret
      exact ⟨by rw [HRR.out]; rfl, HB.out⟩

set_option maxHeartbeats 1600000 in
theorem find_calls (f t : Int) (a : Option Addr) (n c : Nat) (L : List Lk) (w : World) (h : Row lkc w w.heap.size a n L) (hn : n ≤ 1099511627776) :
    Calls Try.prog 12 #[.slice a n c, .int .i64 f, .int .i64 t] w fun e w' => e = .returned (.int .i64 (fndL L f t)) ∧ Below w.heap.size w w' := by
  have k0 := bel_new (Below.refl w.heap.size w) (.cells #[.int .i64 f] 3)
  have k1 := Lib.hid (bel_new k0 (.cells #[.int .i64 t] 3))
  have q0 := Lib.hid ((Blk.new w 3 [.int .i64 f]).alloc (.cells #[.int .i64 t] 3))
  have q1 := Lib.hid (Blk.new (w.alloc (.cells #[.int .i64 f] 3)) 3 [.int .i64 t])
  have HR := Lib.hid ((h.below k1.out).more k1.out.size)
  clear h k0
  go_enter Try.func12, Try.ntmps12
  go_wp2_with fail
  refine (findfn_calls f t w.heap.size (w.heap.size + 1) a n c L _ HR.out q0.out (by simpa using q1.out) hn).mono ?_
  rintro e w2 ⟨rfl, b2⟩
  have B2 := Lib.hid (bel_more k1.out (Nat.le_refl _) b2)
  clear b2
  go_wp2_with fail
  go_ret
  exact ⟨rfl, B2.out⟩

theorem index_calls (x : Int) (a : Option Addr) (n c B : Nat) (l : List Int) (w : World) (h : Row ei w B a n l) (hn : n ≤ 1099511627776) :
    Calls Try.prog 44 #[.slice a n c, .int .i64 x] w fun e w' => (∃ r : Int, e = .returned (.int .i64 r) ∧ (0 ≤ r ↔ x ∈ l)) ∧ w' = w := by
  have HLEN := Lib.hid h.1
  have HR := Lib.hid h
  clear h
  go_enter Try.func44, Try.ntmps44
  go_wp2_with fail
  go_loopw [8] (fun t' wr => ∃ i : Nat, i ≤ n ∧ t' = .int .i64 (i : Int) ∧ x ∉ l.take i ∧ wr = w) (fun t' wr => n - (intOf t').toNat)
  case atStart => exact ⟨0, Nat.zero_le _, rfl, by simp, rfl⟩
  case round =>
    obtain ⟨i, hi, rfl, hF, rfl⟩ := hrel
    have HF := Lib.hid hF
    clear hF
    by_cases hlt : i < n
    · obtain ⟨b, o, rfl, hbw, hcell⟩ := HR.out.cells ei_length (by omega)
      have hil : i < l.length := by have := HLEN.out; omega
      have hat : wr.cell? ⟨b, o + i, none⟩ = some (.int .i64 l[i]) := by have := hcell i hil 0 (by omega); rw [Nat.mul_one, Nat.add_zero] at this; exact this
      clear hcell
      by_cases hx : x = l[i]
      · have hb : (x == l[i]) = true := by simp [hx]
        have HX := Lib.hid hx
        clear hx
        go_wp2_with fail
        go_ret
        refine ⟨⟨_, rfl, ?_⟩, rfl⟩
        constructor
        · intro _; rw [HX.out]; exact List.getElem_mem hil
        · intro _; omega
      · have hb : (x == l[i]) = false := by simp [hx]
        have F2 := Lib.hid (show x ∉ l.take (i + 1) by
          rw [List.take_succ_eq_append_getElem hil]
          intro hm
          rcases List.mem_append.1 hm with hm | hm
          · exact HF.out hm
          · simp at hm; exact hx hm)
        clear hx
        go_wp2_with fail
        go_roundw
        case rel => exact ⟨i + 1, by omega, rfl, F2.out, trivial⟩
        case measure => simp [intOf]; omega
    · go_wp2_with fail
      go_ret
      refine ⟨⟨_, rfl, ?_⟩, rfl⟩
      constructor
      · intro h; omega
      · intro hm; exact absurd (by rw [List.take_of_length_le (by have := HLEN.out; omega)]; exact hm) HF.out
theorem contains_calls (x : Int) (a : Option Addr) (n c B : Nat) (l : List Int) (w : World) (h : Row ei w B a n l) (hn : n ≤ 1099511627776) :
    Calls Try.prog 37 #[.slice a n c, .int .i64 x] w fun e w' => e = .returned (.bool (decide (x ∈ l))) ∧ w' = w := by
  have hi := index_calls x a n c B l w h hn
  clear h
  go_enter Try.func37, Try.ntmps37
  go_wp2_with fail
  ((with_reducible refine hi.mono ?_))
  rintro e w' ⟨⟨r, rfl, hr⟩, rfl⟩
  have HR := Lib.hid hr
  clear hr hi
  go_wp2_with fail
  go_ret
  refine ⟨?_, rfl⟩
  have : decide (0 ≤ r) = decide (x ∈ l) := by simp [HR.out]
  rw [← this]
  rfl
end Go.Proofs.Ytpgbfjeejkeibaa
