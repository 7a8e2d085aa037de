/-
  What the calls of package spf are to answer, as conditions; under them, the law's own first look (alive) comes out. Condition: what each names.
-/
import Derived.Test.YtjflbfianncpfaaGreatSpfRB
import Derived.Test.YtjflbfianncpfaaGreatSpfP
import Derived.Test.YtjflbfianncpfaaGreatGraphDL
import Derived.Deep.CutBlock
namespace Go.Proofs.YtjflbfianncpfaaGreat
set_option maxRecDepth 100000
open Go.RowKit

/-- Better answers as the document says. -/
def BetterOk : Prop := ∀ (c o : Int) (a b : Option Addr) (n m ca cb : Nat) (r s : List Int) (w : World), Row ei w w.heap.size a n r → Row ei w w.heap.size b m s → n ≤ 1099511627776 → m ≤ 1099511627776 →
    Calls Tryz.prog 46 #[.int .i64 c, .slice a n ca, .int .i64 o, .slice b m cb] w (fun e w' => e = .returned (.bool (decide (bet (c, r) (o, s)))) ∧ Below w.heap.size w w')
/-- Two nodes of a network that are not one. -/
def GoodQ (n : Int) (L : List Lk) (a b : Int) : Prop := chk n L = 0 ∧ 0 ≤ a ∧ a < n ∧ 0 ≤ b ∧ b < n ∧ b ≠ a
/-- What Best answers. -/
def SBestPost (w : World) (n : Int) (L : List Lk) (a b : Int) (e : Ending) (w' : World) : Prop :=
  Below w.heap.size w w' ∧ ((¬ GoodQ n L a b ∧ ∃ A c, e = .returned (.tuple #[.slice A 0 c, .int .i64 0, .int .i64 2])) ∨
    (GoodQ n L a b ∧ (∀ c r, ¬ Wy L a b c r) ∧ ∃ A c, e = .returned (.tuple #[.slice A 0 c, .int .i64 0, .int .i64 8])) ∨
    (GoodQ n L a b ∧ ∃ A c' c r, BestW L a b c r ∧ e = .returned (.tuple #[.slice A r.length c', .int .i64 c, .int .i64 0]) ∧ r.length ≤ c' ∧ Row ei w' w'.heap.size A r.length r))
/-- The network of the chapter. -/
def net5 : List Lk := [⟨0, 1, 0, 1, 0⟩, ⟨1, 3, 0, 1, 0⟩, ⟨0, 2, 0, 1, 0⟩, ⟨2, 3, 0, 1, 0⟩, ⟨0, 3, 0, 3, 0⟩]
theorem net5_chk : chk 4 net5 = 0 := by decide
theorem net5_best : BestW net5 0 3 2 [0, 1, 3] :=
  (rnds_all (L := net5) (n := 4) (a := 0) (net_of_chk net5_chk).2.2.2 (by omega) (by omega)).best 3 2 [0, 1, 3] (by omega) (by omega) (by decide +kernel)
theorem net5_none : ∀ c r, ¬ Wy net5 3 0 c r :=
  (rnds_all (L := net5) (n := 4) (a := 3) (net_of_chk net5_chk).2.2.2 (by omega) (by omega)).none 0 (by omega) (by omega) (by decide +kernel)
theorem net5_cells : lkc ⟨0, 1, 0, 1, 0⟩ ++ lkc ⟨1, 3, 0, 1, 0⟩ ++ lkc ⟨0, 2, 0, 1, 0⟩ ++ lkc ⟨2, 3, 0, 1, 0⟩ ++ lkc ⟨0, 3, 0, 3, 0⟩ = net5.flatMap lkc := rfl
theorem blk_rowS {α : Type} {enc : α → List Value} {w : World} {g : Nat} {T : TypeId} {l : List α} (h : Blk w g T (l.flatMap enc)) : Row enc w (g + 1) (some ⟨g, 0, none⟩) l.length l :=
  ⟨rfl, fun _ => ⟨g, 0, rfl, by omega, fun i hi => by rw [Nat.zero_add, h.cell]; simp⟩⟩

end Go.Proofs.YtjflbfianncpfaaGreat
