/-
  The document's place and Apply (viaductref15). Condition: eight numbers of 64 bits each; fewer than 2^30 adverts.
-/
import Derived.Test.YtmfmjdkeoiebpaaTedA
namespace Go.Proofs.Ytmfmjdkeoiebpaa
set_option maxRecDepth 100000
set_option linter.unusedVariables false
open Go.RowKit

def plc (l : List Ad) (z : Int × Int) : Int := match bpl l z with | none => -1 | some k => (k : Int)
theorem rplace15_calls (a : Option Addr) (n c B : Nat) (l : List Ad) (f t : Int) (w : World) (hr : Row adc w B a n l) (hn : n ≤ 1099511627776) : Calls Try.prog 36 #[.slice a n c, .int .i64 f, .int .i64 t] w fun e w' => e = .returned (.int .i64 (plc l (f, t))) ∧ w' = w := by
  have HR := Lib.hid hr
  have HN := Lib.hid (And.intro hr.1 hn)
  have hn2 : (n : Int) ≤ 1099511627776 := by omega
  clear hr
  go_enter Try.func36, Try.ntmps36
  go_wp2_with fail
  go_loopw [7] (fun s W => ∃ i : Nat, i ≤ n ∧ s = .int .i64 (i : Int) ∧ (∀ j x, j < i → l[j]? = some x → ends15 x.k ≠ (f, t)) ∧ W = w) (fun s W => n - (intOf s).toNat)
  case atStart => exact ⟨0, Nat.zero_le _, rfl, fun j x hj => absurd hj (by omega), rfl⟩
  case round =>
    obtain ⟨i, hi, rfl, hno, rfl⟩ := hrel
    have HNO := Lib.hid hno
    clear hno
    by_cases hin : i < n
    · have i1 : (i : Int) < (n : Int) := by omega
      obtain ⟨b, o, x, rfl, hx, hb, hc⟩ := cells15 adc_length HR.out hin
      have HX := Lib.hid hx
      have c0 : wr.cell? ⟨b, o + i * 15, none⟩ = some (.int .i64 x.k.f) := hc wr (Below.refl _ _) 0 _ rfl
      have c1 : wr.cell? ⟨b, o + i * 15 + 1, none⟩ = some (.int .i64 x.k.t) := hc wr (Below.refl _ _) 1 _ rfl
      clear hx hc hb
      have next : ends15 x.k ≠ (f, t) → ∀ j y, j < i + 1 → l[j]? = some y → ends15 y.k ≠ (f, t) := fun hne j y hj hy => by
        rcases Nat.lt_or_ge j i with h | h
        · exact HNO.out j y h hy
        · obtain rfl : j = i := by omega
          rw [HX.out] at hy
          injection hy with e
          rw [← e]; exact hne
      have NX := Lib.hid next
      clear next
      by_cases h1 : x.k.f = f
      · by_cases h2 : x.k.t = t
        · have hp : plc l (f, t) = (i : Int) := by
            have hil : i < l.length := by have := HN.out.1; omega
            have hxi : l[i] = x := by
              have := HX.out
              rw [List.getElem?_eq_getElem hil] at this
              injection this
            have : bpl l (f, t) = some i := by
              refine List.findIdx?_eq_some_iff_getElem.2 ⟨hil, by rw [hxi]; simp [ends15, h1, h2], fun j hj => ?_⟩
              have := HNO.out j l[j] hj (List.getElem?_eq_getElem (by omega))
              simpa using this
            unfold plc
            rw [this]
          have HP := Lib.hid hp
          clear hp
          go_wp2_with fail
          go_ret
          exact ⟨by rw [HP.out]; rfl, rfl⟩
        · go_wp2_with fail
          go_roundw
          case rel => exact ⟨i + 1, by omega, by first | rfl | (simp; omega), NX.out (fun e => h2 (by simpa [ends15] using congrArg Prod.snd e)), by first | rfl | trivial⟩
          case measure => simp [intOf]; omega
      · go_wp2_with fail
        go_roundw
        case rel => exact ⟨i + 1, by omega, by first | rfl | (simp; omega), NX.out (fun e => h1 (by simpa [ends15] using congrArg Prod.fst e)), by first | rfl | trivial⟩
        case measure => simp [intOf]; omega
    · obtain rfl : i = n := by omega
      have i1 : ¬ (i : Int) < (i : Int) := by omega
      clear hin hi
      have hp : plc l (f, t) = -1 := by
        have : bpl l (f, t) = none := by
          refine List.findIdx?_eq_none_iff.2 fun x hx => ?_
          obtain ⟨j, hj, rfl⟩ := List.mem_iff_getElem.1 hx
          have := HNO.out j l[j] (by have := HN.out.1; omega) (List.getElem?_eq_getElem hj)
          simpa using this
        unfold plc
        rw [this]
      have HP := Lib.hid hp
      clear hp
      go_wp2_with fail
      go_ret
      exact ⟨by rw [HP.out]; rfl, rfl⟩

theorem infoAd15 : (Try.prog.info? 42).map (fun i => (i.zero, i.size, i.bytes)) = some (some (.agg #[.int .i64 0, .int .i64 0, .int .u64 0, .int .i64 0, .int .u32 0, .int .i64 0, .bool false, .int .u64 0, .int .u64 0, .int .u64 0, .int .u64 0, .int .u64 0, .int .u64 0, .int .u64 0, .int .u64 0]), 15, 120) := by kernel_rfl
theorem infoAdS15 : (Try.prog.info? 42).map (·.size) = some 15 := by kernel_rfl
/-- Adverts of the document that a call gathered. -/
def Acc15 (w : World) (base : Nat) (A : Option Addr) (c : Nat) (l : List Ad) : Prop := AccR adc 15 w base 42 A c l
theorem acc15_push {w : World} {base c : Nat} {A : Option Addr} {l : List Ad} (h : Acc15 w base A c l) (x : Ad) (hb : base ≤ w.heap.size) (hl : l.length ≤ 1099511627776) :
    ∃ A' c' w', (Builtin.append_ #[25, 25] 25 #[.slice A l.length c, .slice (some ⟨w.heap.size, 0, none⟩) 1 1]).run Try.prog (w.alloc (.cells #[.int .i64 x.k.f, .int .i64 x.k.t, .int .u64 x.k.c, .int .i64 x.k.m, .int .u32 x.k.g, .int .i64 x.q, .bool x.up, .int .u64 ((x.f.getD 0 0 : Nat) : Int), .int .u64 ((x.f.getD 1 0 : Nat) : Int), .int .u64 ((x.f.getD 2 0 : Nat) : Int), .int .u64 ((x.f.getD 3 0 : Nat) : Int), .int .u64 ((x.f.getD 4 0 : Nat) : Int), .int .u64 ((x.f.getD 5 0 : Nat) : Int), .int .u64 ((x.f.getD 6 0 : Nat) : Int), .int .u64 ((x.f.getD 7 0 : Nat) : Int)] 42)) = .ok (.slice A' (l.length + 1) c') w' ∧
      Acc15 w' base A' c' (l ++ [x]) ∧ w.grownBy w' (blk A) :=
  accr_push adc_length adc_one (by omega) h x Try.underlying25 infoAd15 rfl hb (by omega) (by omega)
end Go.Proofs.Ytmfmjdkeoiebpaa
