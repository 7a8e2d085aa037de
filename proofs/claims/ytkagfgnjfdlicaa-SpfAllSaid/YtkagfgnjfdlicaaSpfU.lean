/-
  Contract of spf.All as the statements use it. Condition: the links read as links, at most 2^30 of them.
-/
import Derived.Test.YtkagfgnjfdlicaaSpfT
import Derived.Test.YtkagfgnjfdlicaaSpfAllW
namespace Go.Proofs.Ytkagfgnjfdlicaa
set_option maxRecDepth 100000
set_option linter.unusedVariables false
open Go.RowKit

def rl (x : Rs) : Rl := ⟨x.a, x.n, x.c⟩
theorem rv_flat (l : List Rs) : l.map rv = (l.map rl).flatMap rle := by
  induction l with
  | nil => rfl
  | cons x l ih => simp [ih, rle, rl, rv]
theorem all_ok : AllOk := by
  intro n p m cl L a w n1 n2 h hm
  refine (all11_calls n p m cl L a w n1 n2 h hm).mono ?_
  rintro e w' ⟨hb, hcase⟩
  refine ⟨hb, ?_⟩
  rcases hcase with ⟨hno, rfl⟩ | ⟨hz, ha0, han, K, g, RS, C, S, rfl, hN, hs, hall⟩
  · exact .inl ⟨hno, none, 0, none, 0, rfl⟩
  · refine .inr ⟨hz, ha0, han, some ⟨K.A, 0, none⟩, some ⟨K.B, 0, none⟩, K.N, K.N, K.N, RS.map rl, C, S, rfl, hN, ?_, ?_, hall, ?_⟩
    · have hk := hs.routes
      rw [rv_flat] at hk
      have := blk_rowS hk
      rw [List.length_map, hs.lr] at this
      exact this.more (Nat.succ_le_of_lt hs.routes.lt)
    · have hk := hs.costs
      rw [← ei_flat] at hk
      have := blk_rowS hk
      rw [hs.lc] at this
      exact this.more (Nat.succ_le_of_lt hs.costs.lt)
    · intro i x co hx hc
      rw [List.getElem?_map] at hx
      obtain ⟨y, hy, rfl⟩ := Option.map_eq_some_iff.1 hx
      have hi : i < S.length := by rw [hs.ls, ← hs.lr]; exact (List.getElem?_eq_some_iff.1 hy).1
      have hn := hs.ok i y co _ hy hc (List.getElem?_eq_getElem hi)
      have hsat : sat S (i : Int) = S[i] := by unfold sat; rw [Int.toNat_natCast, List.getD_eq_getElem?_getD, List.getElem?_eq_getElem hi]; rfl
      rw [hsat]
      generalize S[i] = st at hn
      cases st with
      | none => exact hn
      | some q =>
        obtain ⟨c, r⟩ := q
        obtain ⟨e1, e2, e3, e4, e5, _⟩ := hn
        have hr := AccR.row e5
        rw [← e3] at hr
        exact ⟨e1, e2, e3, e4.1, hr⟩
end Go.Proofs.Ytkagfgnjfdlicaa
