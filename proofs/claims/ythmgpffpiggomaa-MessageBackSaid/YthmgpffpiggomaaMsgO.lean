/-
  Contract of bytes.Equal. Condition: the bytes that come in read as lists.
-/
import Derived.Test.YthmgpffpiggomaaBodyGI
namespace Go.Proofs.Ythmgpffpiggomaa
open Go.RowKit

theorem beq8_calls (a a2 : Option Addr) (n n2 c c2 : Nat) (x y : List UInt8) (B B2 : Nat) (w : World) (h : Bts w B a n x) (h2 : Bts w B2 a2 n2 y) :
    Calls Try.prog 22 #[.slice a n c, .slice a2 n2 c2] w (SamePost w (x == y)) := by
  have s1 := h.text (P := Try.prog) (c := c) 31 5 9 Try.underlying31 Try.underlying5 Try.underlying9
  have s2 := h2.text (P := Try.prog) (c := c2) 31 5 9 Try.underlying31 Try.underlying5 Try.underlying9
  clear h h2
  by_cases hxy : x = y
  · subst hxy
    go_enter Try.func22, Try.ntmps22
    go_wp2
    go_ret
    exact ⟨by simp, Below.refl _ _⟩
  · have hq : (x == y) = false := by simpa using hxy
    have HQ := Lib.hid hq
    have hne : ¬ ((⟨x.toArray⟩ : ByteArray) = ⟨y.toArray⟩) := fun e => hxy (by have h3 := congrArg ByteArray.data e; simpa using h3)
    clear hq
    go_enter Try.func22, Try.ntmps22
    go_wp2
    go_ret
    rw [HQ.out]
    exact ⟨rfl, Below.refl _ _⟩
end Go.Proofs.Ythmgpffpiggomaa
