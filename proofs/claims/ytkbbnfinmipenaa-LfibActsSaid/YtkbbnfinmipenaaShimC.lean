/-
  Contract of shim.Decode. Condition: the bytes that come in read as a list, of at most 2^40.
-/
import Derived.Test.YtkbbnfinmipenaaShimB
namespace Go.Proofs.Ytkbbnfinmipenaa
open Go.RowKit

theorem Try.infoEntry : (Try.prog.info? 61).map (fun i => (i.zero, i.size, i.bytes)) = some (some (.agg #[.int .i64 0, .int .i64 0, .int .i64 0]), 3, 24) := by kernel_rfl

/-- An entry lies at this place. -/
def At3 (W : World) (b k : Nat) (x y z : Int) : Prop := W.cell? ⟨b, k, none⟩ = some (.int .i64 x) ∧ W.cell? ⟨b, k + 1, none⟩ = some (.int .i64 y) ∧ W.cell? ⟨b, k + 2, none⟩ = some (.int .i64 z)
theorem row_at3 {w : World} {B n : Nat} {a : Option Addr} {l : List (Int × Int × Int)} (h : Row ec w B a n l) (hn : 0 < n) : ∃ b o : Nat, a = some ⟨b, o, none⟩ ∧ b < B ∧ ∀ (i : Nat) (hi : i < l.length), At3 w b (o + i * 3) l[i].1 l[i].2.1 l[i].2.2 := by
  obtain ⟨b, o, e, hb, hc⟩ := h.cells ec_length hn
  exact ⟨b, o, e, hb, fun i hi => ⟨hc i hi 0 (by omega), hc i hi 1 (by omega), hc i hi 2 (by omega)⟩⟩

/-- Entries that a call itself gathers. -/
def AccE (w : World) (base : Nat) (A : Option Addr) (c : Nat) (l : List (Int × Int × Int)) : Prop := AccR ec 3 w base 61 A c l

theorem acce_push {w : World} {base c : Nat} {A : Option Addr} {l : List (Int × Int × Int)} (h : AccE w base A c l) (e : Int × Int × Int) (hbase : base ≤ w.heap.size) (hlen : l.length ≤ 1099511627776) (ty : TypeId) :
    ∃ A' c' w', (Builtin.append_ #[31, 31] ty #[.slice A l.length c, .slice (some ⟨w.heap.size, 0, none⟩) 1 1]).run Try.prog (w.alloc (.cells (ec e).toArray 61)) = .ok (.slice A' (l.length + 1) c') w' ∧
      AccE w' base A' c' (l ++ [e]) ∧ w.grownBy w' (blk A) :=
  accr_push ec_length ec_one (by omega) h e Try.underlying31 Try.infoEntry rfl hbase (by omega) (by omega)

theorem acce_append {w : World} {base c : Nat} {A : Option Addr} {l : List (Int × Int × Int)} (h : AccE w base A c l) {B m cc : Nat} {a : Option Addr} {l2 : List (Int × Int × Int)} (hs : Row ec w B a m l2) (hbase : base ≤ w.heap.size) (hlen : l.length + m ≤ 1099511627776) (ty : TypeId) :
    ∃ A' c' w', (Builtin.append_ #[31, 31] ty #[.slice A l.length c, .slice a m cc]).run Try.prog w = .ok (.slice A' (l.length + m) c') w' ∧ AccE w' base A' c' (l ++ l2) ∧ w.grownBy w' (blk A) ∧ (blk A' = blk A ∨ blk A' = some w.heap.size) :=
  accr_append ec_length ec_one (by omega) h hs Try.underlying31 Try.infoEntry rfl hbase (by omega) (by omega)

theorem entI_cells (u : Nat) : ec (entI u) = [.int .i64 ((u : Int) / 4096), .int .i64 ((u : Int) % 4096 / 512), .int .i64 ((u : Int) % 256)] := by simp [ec, entI]
theorem lastI_int (u : Nat) : decide (256 ≤ (u : Int) % 512) = lastI u := by unfold lastI; exact decide_eq_decide.2 (by omega)

section
variable {w : World} {r g : Nat} {l : List UInt8}
end

def rst (b : List UInt8) : List UInt8 := if (dec b 8 0).2 = 0 then b.drop (4 * (dec b 8 0).1) else []
def DecPost (w : World) (b : List UInt8) (e : Ending) (w' : World) : Prop :=
  ∃ A c A2 c2, e = .returned (.tuple #[.slice A (dec b 8 0).1 c, .slice A2 (rst b).length c2, .int .i64 (dec b 8 0).2]) ∧ Row ec w' w'.heap.size A (dec b 8 0).1 (stk b (dec b 8 0).1) ∧
    Bts w' w'.heap.size A2 (rst b).length (rst b) ∧ Below w.heap.size w w'

theorem decPost_no {w w' : World} {b : List UInt8} {e : Ending} {err : Int} (h : dec b 8 0 = (0, err)) (h0 : err ≠ 0) (he : e = .returned (.tuple #[.slice none 0 0, .slice none 0 0, .int .i64 err])) (hb : Below w.heap.size w w') : DecPost w b e w' := by
  have hr : rst b = [] := by unfold rst; rw [h, if_neg h0]
  refine ⟨none, 0, none, 0, ?_, ?_, ?_, hb⟩
  · rw [hr, h, he]; rfl
  · rw [h]; exact Row.nil
  · rw [hr]; exact Bts.nil

theorem dec_step (b : List UInt8) (j : Nat) (hj : j < 8) (h : dec b 8 0 = dec b (8 - j) j) :
    dec b 8 0 = if b.length < 4 * j + 4 then (0, 4) else if lastI (wordAt b j) = true then (j + 1, 0) else dec b (8 - (j + 1)) (j + 1) := by
  rw [h, show 8 - j = (8 - (j + 1)) + 1 by omega]; rfl

end Go.Proofs.Ytkbbnfinmipenaa
