/-
  How an argument that is a slice of integers is opened. No condition.
-/
import Derived.Test.YtkjkgjkjjiejaaaOpen
import Derived.Test.YtkjkgjkjjiejaaaBackW
namespace Go.Proofs.Ytkjkgjkjjiejaaa
open Go.RowKit Go.ChangeShapes Go.WideShapes Go.ChangeAt Go.Deep

theorem open_nums {H : Type} {enc : TypeId × Value → H} {W : World} {base : Nat} {spare : Nat → Bool} {held : Bool} {a : Option Addr} {n c : Nat} {d : DataW H} {p : List MemPlace} {t e : TypeId} {kd : IntKind} (hsp : ∀ b, spare b = true)
    (ht : Try.prog.underlying t = some (.slice e)) (he : Try.prog.underlying e = some (.int kd)) (hc : Try.prog.cellsOf e = 1)
    (h : DataW.Trod enc Try.prog W base spare held t (.slice a n c) d p) : n ≤ maxLen ∧ ∃ zs, Ints W W.heap.size kd a n zs ∧ ∀ z ∈ zs, (Lit.int kd z).wf = true := by
  obtain ⟨fuel, hf⟩ := h
  rcases open_ints ht he hc hf with ⟨hcs, _⟩ | ⟨x, len, cap, zs, hcs, _, hl, hm, hz, _, hcell, hwz⟩
  · simp [Value.cells] at hcs
    obtain ⟨rfl, rfl, rfl⟩ := hcs
    exact ⟨Nat.zero_le _, [], ⟨rfl, fun h => absurd h (by omega)⟩, fun z hz => by cases hz⟩
  · simp [Value.cells] at hcs
    obtain ⟨rfl, rfl, rfl⟩ := hcs
    rw [hsp, if_pos rfl] at hz
    refine ⟨Nat.le_trans hl hm, zs.take n, ⟨by simp; omega, fun hn => ?_⟩, fun z hz => hwz z (List.mem_of_mem_take hz)⟩
    have h0 := hcell 0 (by omega)
    obtain ⟨b, o, sp⟩ := x
    have hspot : sp = none := by simpa [Addr.add] using World.cell?_spot h0
    subst hspot
    refine ⟨b, o, rfl, ?_, fun i hi => ?_⟩
    · have := World.block_lt_of_cell? _ _ h0
      rwa [add_plain] at this
    · simp only [List.length_take] at hi
      have hc := hcell i (by omega)
      rw [add_plain] at hc
      rw [hc]
      have hlt : i < zs.length := by omega
      simp [List.getD, hlt]
end Go.Proofs.Ytkjkgjkjjiejaaa
