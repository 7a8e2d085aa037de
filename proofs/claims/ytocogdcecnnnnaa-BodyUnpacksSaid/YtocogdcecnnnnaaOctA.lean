/-
  Contracts of the small functions of package octet: extend, isWidth, Pad, New. Conditions: the bytes that come in read as a list, and what is made has at most 2^47 bytes.
-/
import Derived.Test.YtocogdcecnnnnaaMem
namespace Go.Proofs.Ytocogdcecnnnnaa
open Go.RowKit

/-- Whether a number may have 'n' bytes. -/
def wid (n : Int) : Bool := decide (1 ≤ n) && decide (n ≤ 8)
theorem wid_yes {n : Int} (h1 : 1 ≤ n) (h2 : n ≤ 8) : wid n = true := by simp [wid, h1, h2]
theorem wid_no {n : Int} (h : n < 1 ∨ 8 < n) : wid n = false := by
  unfold wid
  rcases h with h | h
  · rw [decide_eq_false (by omega : ¬ 1 ≤ n)]; rfl
  · rw [decide_eq_false (by omega : ¬ n ≤ 8)]; simp

theorem isWidth_calls (n : Int) (w : World) :
    Calls Try.prog 69 #[.int .i64 n] w fun e w' => e = .returned (.bool (wid n)) ∧ w = w' := by
  by_cases h1 : 1 ≤ n
  · by_cases h2 : n ≤ 8
    · have hw := wid_yes h1 h2
      go_enter Try.func69, Try.ntmps69
      go_wp2
      go_ret
      exact ⟨by first | rfl | (rw [hw]; rfl), rfl⟩
    · have hw := wid_no (n := n) (.inr (by omega))
      go_enter Try.func69, Try.ntmps69
      go_wp2
      go_ret
      exact ⟨by first | rfl | (rw [hw]; rfl), rfl⟩
  · have hw := wid_no (n := n) (.inl (by omega))
    go_enter Try.func69, Try.ntmps69
    go_wp2
    go_ret
    exact ⟨by first | rfl | (rw [hw]; rfl), rfl⟩

theorem made_zero (n : Nat) : madeCells #[Value.int .u8 0] n = Array.replicate n (bv 0) := by
  apply Array.ext
  · simp [madeCells]
  · intro i h1 h2
    simp [madeCells, bv, Nat.mod_one]

/-- What 'extend' leaves behind: a new block with the bytes, and noughts behind them. -/
def ExtendPost (w : World) (l : List UInt8) (k : Nat) (e : Ending) (w' : World) : Prop :=
  e = .returned (.slice (some ⟨w.heap.size, 0, none⟩) (l.length + k) (l.length + k)) ∧ Own w' w.heap.size (l ++ List.replicate k 0) ∧ Below w.heap.size w w'

theorem Try.infoByte : (Try.prog.info? 5).map (fun i => (i.zero, i.size, i.bytes)) = some (some (.int .u8 0), 1, 1) := by kernel_rfl

theorem make_bytes (n : Nat) (hn : n ≤ 140737488355328) (W : World) : (Instr.makeSlice 30 (.int .i64 (n : Int)) (.int .i64 (n : Int))).run Try.prog W =
      .ok (.slice (some ⟨W.heap.size, 0, none⟩) n n) (W.alloc (.cells (Array.replicate n (bv 0)) 5)) := by
  have h := run_make_row' (P := Try.prog) 30 5 (.int .u8 0) 1 Try.underlying30 Try.infoByte rfl .i64 .i64 n (by omega) (by omega) W
  rw [h, made_zero]

theorem extend_calls (a : Option Addr) (n c : Nat) (l : List UInt8) (k : Nat) (w : World) (h : Bts w w.heap.size a n l) (hlen : n + k ≤ 140737488355328) :
    Calls Try.prog 44 #[.slice a n c, .int .i64 (k : Int)] w (ExtendPost w l k) := by
  have hn := h.1
  subst hn
  have hmk : ∀ W : World, (Instr.makeSlice 30 (.int .i64 ((l.length : Int) + (k : Int))) (.int .i64 ((l.length : Int) + (k : Int)))).run Try.prog W =
      .ok (.slice (some ⟨W.heap.size, 0, none⟩) (l.length + k) (l.length + k)) (W.alloc (.cells (Array.replicate (l.length + k) (bv 0)) 5)) := by
    intro W
    have := make_bytes (l.length + k) hlen W
    rwa [Int.natCast_add] at this
  obtain ⟨W2, hcp, h2, _, hb2⟩ := copy_front (P := Try.prog) (W := w.alloc (.cells (Array.replicate (l.length + k) (bv 0)) 5)) (c := c) (h.keep fun b hb => Below.heap_alloc _ _ _ hb) 30 30 3 5 Try.underlying30 (by kernel_rfl)
    w.heap.size (l.length + k) (l.length + k) (List.replicate (l.length + k) (bv 0)) 5 (by rw [heap_alloc_new]; simp) (by omega) (by simp)
  have hb : Below w.heap.size w W2 := ((Below.refl _ _).alloc (Nat.le_refl _) _).trans hb2
  have h2' : Own W2 w.heap.size (l ++ List.replicate k 0) := by
    unfold Own; rw [h2]; simp [bv]
  have H2 := Lib.hid h2'
  have HB := Lib.hid hb
  clear h2 h2' hb2 hb
  go_enter Try.func44, Try.ntmps44
  go_wp2
  go_ret
  exact ⟨rfl, H2.out, HB.out⟩

theorem extend_zero (a : Option Addr) (n c : Nat) (l : List UInt8) (w : World) (h : Bts w w.heap.size a n l) (hlen : n ≤ 140737488355328) :
    Calls Try.prog 44 #[.slice a n c, .int .i64 0] w fun e w' => e = .returned (.slice (some ⟨w.heap.size, 0, none⟩) n n) ∧ Own w' w.heap.size l ∧ Below w.heap.size w w' := by
  have := extend_calls a n c l 0 w h hlen
  refine this.mono ?_
  rintro e w' ⟨h1, h2, h3⟩
  rw [h.1] at h1
  exact ⟨h1, by simpa using h2, h3⟩
end Go.Proofs.Ytocogdcecnnnnaa
