/-
  Contract of layer 7's alive. No condition.
-/
import Derived.Test.YthmgpffpiggomaaBodyL
namespace Go.Proofs.Ythmgpffpiggomaa
open Go.RowKit

theorem PackPost.yes {w w' : World} {x : PIt} {e : Ending} {o : Int × Int × List UInt8} (h : PackPost w x e w') (hp : pack x = some o) :
    ∃ A c, e = .returned (.tuple #[.agg #[.int .i64 o.1, .int .i64 o.2.1, .slice A o.2.2.length c], .int .i64 0]) ∧ Acc w' w.heap.size A c o.2.2 ∧ Below w.heap.size w w' := by
  obtain ⟨hb, ⟨hn, _⟩ | ⟨o', A, c, hp', he, ha⟩⟩ := h
  · rw [hp] at hn; cases hn
  · rw [hp] at hp'
    injection hp' with hp'
    subst hp'
    exact ⟨A, c, he, ha, hb⟩
theorem PackPost.no {w w' : World} {x : PIt} {e : Ending} (h : PackPost w x e w') (hp : pack x = none) :
    e = .returned (.tuple #[.agg #[.int .i64 0, .int .i64 0, .slice none 0 0], .int .i64 2]) ∧ Below w.heap.size w w' := by
  obtain ⟨hb, ⟨_, he⟩ | ⟨o', A, c, hp', _⟩⟩ := h
  · exact ⟨he, hb⟩
  · rw [hp] at hp'; cases hp'
theorem UnpackPost.yes {w w' : World} {o : Int × Int × List UInt8} {e : Ending} {x : PIt} (h : UnpackPost w o e w') (hp : unpack o = some x) :
    ∃ y : It, y.val = x ∧ y.ln = y.l.length ∧ e = .returned (.tuple #[.agg y.cells.toArray, .int .i64 0]) ∧ AccI w' w.heap.size y.la y.lc y.l ∧ Below w.heap.size w w' := by
  obtain ⟨hb, ⟨hn, _⟩ | ⟨y, hp', hl, he, ha⟩⟩ := h
  · rw [hp] at hn; cases hn
  · rw [hp] at hp'
    injection hp' with hp'
    exact ⟨y, hp'.symm, hl, he, ha, hb⟩
theorem UnpackPost.no {w w' : World} {o : Int × Int × List UInt8} {e : Ending} (h : UnpackPost w o e w') (hp : unpack o = none) :
    e = .returned (.tuple #[.agg #[.int .i64 0, .int .i64 0, .int .i64 0, .int .i64 0, .int .u64 0, .slice none 0 0, .int .u64 0, .int .i64 0, .int .i64 0, .int .u32 0, .int .u32 0, .int .u32 0], .int .i64 5]) ∧ Below w.heap.size w w' := by
  obtain ⟨hb, ⟨_, he⟩ | ⟨y, hp', _⟩⟩ := h
  · exact ⟨he, hb⟩
  · rw [hp] at hp'; cases hp'

theorem know_one : pack ⟨1, 3, 258, 1, 0, [], Wnt.zero⟩ = some (1, 7, [10, 0, 0, 3, 0, 0, 1, 2, 10, 0, 0, 1]) := by decide +kernel
theorem know_two : unpack (8, 1, [0, 0, 0, 18]) = some ⟨8, 0, 0, 0, 0, [], Wnt.zero⟩ := by rfl
theorem know_three : pack ⟨3, 16, 0, 0, 0, [], Wnt.zero⟩ = none := by decide +kernel
theorem fine_plain (cl a b c : Int) (w : World) (B : Nat) : Fine w B ⟨cl, a, b, c, 0, none, 0, 0, [], Wnt.zero⟩ := ⟨Row.nil, Nat.zero_le _, by simp, by simp [Wnt.zero], by simp [Wnt.zero], by simp [Wnt.zero]⟩

end Go.Proofs.Ythmgpffpiggomaa
