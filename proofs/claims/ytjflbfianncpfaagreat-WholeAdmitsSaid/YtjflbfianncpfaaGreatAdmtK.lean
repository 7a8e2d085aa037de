/-
  What the landed code of layer 14 keeps, as far as WholeAdmits asks. No condition.
-/
import Derived.Test.YtjflbfianncpfaaGreatTabsM
import Derived.Test.YtjflbfianncpfaaGreatAdcLP
namespace Go.Proofs.YtjflbfianncpfaaGreat
set_option maxRecDepth 100000
set_option linter.unusedVariables false
open Go.RowKit

theorem tabi_ty17 {w : World} {q sz : Nat} {l : List Et} {S : List Nat} {A : Option Addr} {c : Nat} (h : TabI w q sz l S A c) : ∀ b ∈ S, tyAt w b = some 65 ∨ tyAt w b = some 77 := by
  intro b hb
  rw [h.own] at hb
  rcases List.mem_cons.1 hb with rfl | hb
  · exact .inl h.blk.ty
  · right
    cases e : Go.Proofs.YtjflbfianncpfaaGreat.blk A with
    | none => rw [e] at hb; cases hb
    | some g =>
      rw [e] at hb
      simp at hb
      subst hb
      exact accr_ty h.acc e
theorem tk17 : Tk17 TabC where
  keep := fun ⟨A, c, h⟩ hb => ⟨A, c, h.keep hb⟩
  lt := fun ⟨_, _, h⟩ => h.lt
  ty := fun ⟨_, _, h⟩ => tabi_ty17 h
  tbl := fun ⟨_, _, h⟩ => h.tbl
  new := fun sz h w => new14_calls sz h w
  adm := fun h k v hk hv => admit14_calls _ _ _ _ k v _ h hk hv
  drop := fun h k hk => drop14_calls _ _ _ _ k _ h hk
  ledger := fun h => ledger14c_calls _ _ _ _ _ h
  kin := fun a b w => kin14_calls a b w
end Go.Proofs.YtjflbfianncpfaaGreat
