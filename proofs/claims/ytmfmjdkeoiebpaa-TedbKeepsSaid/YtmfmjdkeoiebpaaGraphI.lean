/-
  The law's small, the document's Find and Route. Condition: at most 2^30 links; Metrics of at most 2^40 for Route.
-/
import Derived.Test.YtmfmjdkeoiebpaaGraphG
import Derived.Test.YtmfmjdkeoiebpaaGraphH
namespace Go.Proofs.Ytmfmjdkeoiebpaa
set_option maxRecDepth 100000
open Go.RowKit

def SmallPost (w : World) (n : Nat) (L : List Lk) (e : Ending) (w' : World) : Prop := ∃ b : Bool, e = .returned (.bool b) ∧ (b = true → SmallL L ∧ n ≤ 200) ∧ w' = w
theorem rfind_calls (f t : Int) (p : Option Addr) (n c B : Nat) (L : List Lk) (w : World) (h : Row lkc w B p n L) (hn : n ≤ 1099511627776) :
    Calls Try.prog 33 #[.slice p n c, .int .i64 f, .int .i64 t] w fun e w' => e = .returned (.int .i64 (fndL L f t)) ∧ w' = w := by
  have HLEN := Lib.hid h.1
  have HR := Lib.hid h
  clear h
  go_enter Try.func33, Try.ntmps33
  go_wp2_with fail
  go_loopw [7] (fun t' wr => ∃ i : Nat, i ≤ n ∧ t' = .int .i64 (i : Int) ∧ (∀ k (hk : k < L.length), k < i → isE f t L[k] = false) ∧ wr = w) (fun t' wr => n - (intOf t').toNat)
  case atStart => exact ⟨0, Nat.zero_le _, rfl, fun k _ hk => by omega, rfl⟩
  case round =>
    obtain ⟨i, hi, rfl, hF, rfl⟩ := hrel
    have HF := Lib.hid hF
    clear hF
    by_cases hlt : i < n
    · obtain ⟨b, o, rfl, hbw, hcell⟩ := row_link HR.out (by omega)
      have hil : i < L.length := by have := HLEN.out; omega
      have hat := link_cells (hcell i hil)
      have c0 := hat.1
      have c1 := hat.2.1
      obtain ⟨x, hx⟩ : ∃ x, x = L[i].f := ⟨_, rfl⟩
      obtain ⟨y, hy⟩ : ∃ x, x = L[i].t := ⟨_, rfl⟩
      rw [← hx] at c0
      rw [← hy] at c1
      have HX := Lib.hid (And.intro hx hy)
      clear hcell hat hx hy
      by_cases h1 : x = f
      · have g1 : (x == f) = true := by simp [h1]
        by_cases h2 : y = t
        · have g2 : (y == t) = true := by simp [h2]
          have hs : isE f t L[i] = true := by simp [isE, ← HX.out.1, ← HX.out.2, h1, h2]
          have hr := Lib.hid (fndL_hit hil HF.out hs)
          clear h1 h2 hs
          go_wp2_with fail
          go_ret
          exact ⟨by rw [hr.out]; rfl, rfl⟩
        · have g2 : (y == t) = false := by simp [h2]
          have hs : isE f t L[i] = false := by simp [isE, ← HX.out.2, h2]
          have F2 := Lib.hid (show ∀ k (hk : k < L.length), k < i + 1 → isE f t L[k] = false from fun k hk hlt => by
            rcases Nat.lt_or_ge k i with h | h
            · exact HF.out k hk h
            · obtain rfl : k = i := by omega
              exact hs)
          clear h1 h2 hs
          go_wp2_with fail
          go_roundw
          case rel => exact ⟨i + 1, by omega, rfl, F2.out, trivial⟩
          case measure => simp [intOf]; omega
      · have g1 : (x == f) = false := by simp [h1]
        have hs : isE f t L[i] = false := by simp [isE, ← HX.out.1, h1]
        have F2 := Lib.hid (show ∀ k (hk : k < L.length), k < i + 1 → isE f t L[k] = false from fun k hk hlt => by
          rcases Nat.lt_or_ge k i with h | h
          · exact HF.out k hk h
          · obtain rfl : k = i := by omega
            exact hs)
        clear h1 hs
        go_wp2_with fail
        go_roundw
        case rel => exact ⟨i + 1, by omega, rfl, F2.out, trivial⟩
        case measure => simp [intOf]; omega
    · have hr := Lib.hid (fndL_none (L := L) (f := f) (t := t) (fun k hk => HF.out k hk (by have := HLEN.out; omega)))
      go_wp2_with fail
      go_ret
      exact ⟨by rw [hr.out]; rfl, rfl⟩

theorem row_front {w : World} {B n b o : Nat} {l : List Int} (h : Row ei w B (some ⟨b, o, none⟩) n l) (i : Nat) (hi : i ≤ n) : Row ei w B (some ⟨b, o, none⟩) i (l.take i) :=
  Row.mk ei_length (by rw [List.length_take, h.1]; omega) fun h0 => by
    obtain ⟨b2, o2, e2, hb2, hc2⟩ := h.cells ei_length (by omega)
    injection e2 with e2
    injection e2 with e3 e4
    subst e3
    subst e4
    refine ⟨b, o, rfl, hb2, fun k2 hk2 j2 hj2 => ?_⟩
    have hk3 : k2 < i ∧ k2 < l.length := by rw [List.length_take] at hk2; omega
    have := hc2 k2 hk3.2 j2 hj2
    rw [this, List.getElem_take]

end Go.Proofs.Ytmfmjdkeoiebpaa
