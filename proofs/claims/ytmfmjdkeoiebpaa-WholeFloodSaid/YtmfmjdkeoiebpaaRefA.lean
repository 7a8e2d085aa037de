/-
  Contracts of the document's own answers for layer 1: Number, Digits. Conditions: at most eight bytes.
-/
import Derived.Test.YtmfmjdkeoiebpaaAcc
import Derived.Test.YtmfmjdkeoiebpaaOctAF
namespace Go.Proofs.Ytmfmjdkeoiebpaa
open Go.RowKit

set_option maxHeartbeats 400000 in
theorem number_calls (a : Option Addr) (n c : Nat) (l : List UInt8) (w : World) (B : Nat) (h : Bts w B a n l) (hn : n ≤ 8) :
    Calls Try.prog 58 #[.slice a n c] w fun e w' => e = .returned (.int .u64 ((num l : Nat) : Int)) ∧ w = w' := by
  have HB := Lib.hid h
  have HL := Lib.hid h.1
  clear h
  go_enter Try.func58, Try.ntmps58
  go_wp2
  go_loop [3, 4] (fun u k => ∃ j : Nat, j ≤ n ∧ k = .int .i64 (j : Int) ∧ u = .int .u64 ((num (l.take j) : Nat) : Int)) (fun _ k => n - (intOf k).toNat)
  case atStart => exact ⟨0, Nat.zero_le _, rfl, rfl⟩
  case round =>
    obtain ⟨j, hj, rfl, rfl⟩ := hrel
    by_cases hlt : j < n
    · obtain ⟨b, o, rfl, _, hc⟩ := HB.out.2 (by omega)
      have hjm : j < l.length := by rw [HL.out]; exact hlt
      have hcell := hc j hjm
      unfold bv at hcell
      have hnl := num_lt (l.take j)
      have hp : 256 ^ (l.take j).length ≤ 256 ^ 7 := Nat.pow_le_pow_right (by omega) (by simp; omega)
      have hst : num (l.take (j + 1)) = num (l.take j) * 256 + l[j].toNat := by rw [take_snoc l j hjm, num_snoc]
      have hb : (num (l.take j) : Int) < 72057594037927936 := by omega
      have hx : l[j].toNat < 256 := l[j].toNat_lt
      have HX := Lib.hid hst
      clear hc hnl hp hst
      generalize num (l.take j) = V at *
      generalize l[j].toNat = X at *
      go_wp2
      exact ⟨⟨j + 1, by omega, by go_num, by rw [HX.out]; go_num⟩, by simp [intOf]; omega⟩
    · have hjn : j = n := by omega
      subst hjn
      go_wp2
      go_ret
      have e1 : l.take j = l := List.take_of_length_le (by rw [HL.out]; exact Nat.le_refl _)
      rw [e1]
      exact ⟨rfl, rfl⟩

/-- The last digits of a number, the least first. -/
def lowL (u j : Nat) : List UInt8 := (List.range j).map fun t => UInt8.ofNat (u / 256 ^ t)
theorem lowL_length (u j : Nat) : (lowL u j).length = j := by simp [lowL]
theorem lowL_snoc (u j : Nat) : lowL u j ++ [UInt8.ofNat (u / 256 ^ j)] = lowL u (j + 1) := by simp [lowL, List.range_succ]
theorem lowL_get (u j k : Nat) (h : k < (lowL u j).length) : (lowL u j)[k] = UInt8.ofNat (u / 256 ^ k) := by simp [lowL]
theorem dig_get (n u : Nat) : ∀ (k : Nat) (h : k < (dig n u).length), (dig n u)[k] = UInt8.ofNat (u / 256 ^ (n - 1 - k)) := by
  induction n with
  | zero => intro k h; simp [dig] at h
  | succ m ih =>
    intro k h
    cases k with
    | zero => simp [dig]
    | succ k =>
      have h' : k < (dig m u).length := by simpa [dig] using h
      have := ih k h'
      simp only [dig, List.getElem_cons_succ, this]
      congr 3
      omega

def DigitsPost (w : World) (n u : Nat) (e : Ending) (w' : World) : Prop :=
  ∃ A c, e = .returned (.slice A n c) ∧ Acc w' w.heap.size A c (dig n u) ∧ Below w.heap.size w w'

set_option maxHeartbeats 800000 in
set_option maxRecDepth 100000 in
theorem digits_calls (n u : Nat) (w : World) (hn : n ≤ 8) (hu : u < 18446744073709551616) :
    Calls Try.prog 55 #[.int .i64 (n : Int), .int .u64 (u : Int)] w (DigitsPost w n u) := by
  go_enter Try.func55, Try.ntmps55
  go_wp2
  go_loopw [1, 5, 6] (fun v s t W => ∃ j x c : Nat, ∃ A : Option Addr, j ≤ n ∧ t = .int .i64 (j : Int) ∧ v = .int .u64 (x : Int) ∧ Hid (x = u / 256 ^ j) ∧ s = .slice A j c ∧ Acc W w.heap.size A c (lowL u j) ∧ Below w.heap.size w W) (fun _ _ t _ => n - (intOf t).toNat)
  case atStart => exact ⟨0, u, 0, none, Nat.zero_le _, rfl, rfl, (by simp : u = u / 256 ^ 0), rfl, Acc.nil _ _, Below.refl _ _⟩
  case round =>
    obtain ⟨j, x, c, A, hj, rfl, rfl, HX, rfl, hacc, hbel⟩ := hrel
    by_cases hlt : j < n
    · obtain ⟨A', c', W', happ, hacc', hg⟩ := acc_push hacc (UInt8.ofNat x) hbel.size (by rw [lowL_length]; omega) 52
      rw [lowL_length, ← low_byte] at happ
      have hacc2 : Acc W' w.heap.size A' c' (lowL u (j + 1)) := by rw [HX.out, lowL_snoc] at hacc'; exact hacc'
      have HA := Lib.hid hacc2
      have HB := Lib.hid (bel_acc hbel hacc hg)
      have HR := Lib.hid happ
      clear hacc hacc' hacc2 hbel hg happ
      go_wp2_with (at_builtin; refine step_append rfl rfl rfl rfl HR.out ?_)
      refine ⟨⟨j + 1, x / 256, c', A', by omega, by go_num, ?_, ?_, rfl, HA.out, HB.out⟩, by simp [intOf]; omega⟩
      · have hx : x ≤ u := by rw [HX.out]; exact Nat.div_le_self _ _
        have e : IntKind.u64.wrap ((x : Int) / 256) = ((x / 256 : Nat) : Int) := by rw [IntKind.wrap_u64]; omega
        rw [e]
      · exact (by rw [HX.out, div_next] : x / 256 = u / 256 ^ (j + 1))
    · have hjn : j = n := by omega
      subst hjn
      obtain ⟨W1, hW1⟩ : ∃ W1, W1 = wr := ⟨_, rfl⟩
      subst hW1
      have HA := Lib.hid hacc
      have HB := Lib.hid hbel
      clear hacc hbel
      go_wp2
      go_loopw [7, 8] (fun s t W => ∃ k c2 : Nat, ∃ A2 : Option Addr, k ≤ j ∧ t = .int .i64 ((j : Int) - 1 - (k : Int)) ∧ s = .slice A2 k c2 ∧ Acc W W1.heap.size A2 c2 ((dig j u).take k) ∧ Below W1.heap.size W1 W) (fun _ t _ => (intOf t + 1).toNat)
      case atStart => exact ⟨0, 0, none, Nat.zero_le _, by simp, rfl, Acc.nil _ _, Below.refl _ _⟩
      case round =>
        obtain ⟨k, c2, A2, hk, rfl, rfl, hacc, hbel⟩ := hrel
        have hdl : (dig j u).length = j := dig_length j u
        have htl : ((dig j u).take k).length = k := by simp [hdl]; omega
        by_cases hlt2 : k < j
        · have hlow := (HA.out.bts.below hbel)
          rw [lowL_length] at hlow
          obtain ⟨b, o, rfl, _, hc⟩ := hlow.2 (by omega)
          have hcell := hc (j - 1 - k) (by rw [lowL_length]; omega)
          rw [lowL_get] at hcell
          unfold bv at hcell
          obtain ⟨A', c', W', happ, hacc', hg⟩ := acc_push hacc (UInt8.ofNat (u / 256 ^ (j - 1 - k))) hbel.size (by rw [htl]; omega) 52
          rw [htl] at happ
          have hacc2 : Acc W' W1.heap.size A' c' ((dig j u).take (k + 1)) := by
            rw [take_snoc (dig j u) k (by omega), dig_get]; exact hacc'
          have HA2 := Lib.hid hacc2
          have HB2 := Lib.hid (bel_acc hbel hacc hg)
          have HR := Lib.hid happ
          clear hacc hacc' hacc2 hbel hg happ hc hlow hdl htl
          generalize (UInt8.ofNat (u / 256 ^ (j - 1 - k))).toNat = X at *
          go_wp2_with (at_builtin; refine step_append rfl rfl rfl rfl HR.out ?_)
          refine ⟨⟨k + 1, c', A', by omega, ?_, rfl, HA2.out, HB2.out⟩, by simp [intOf]; omega⟩
          congr 1; omega
        · have hkj : k = j := by omega
          subst hkj
          have hfin : Acc wr w.heap.size A2 c2 (dig k u) := by
            rw [List.take_of_length_le (by omega)] at hacc
            exact hacc.lower HB.out.size
          have hb2 := bel_more HB.out (Nat.le_refl _) hbel
          have HF := Lib.hid hfin
          have HB2 := Lib.hid hb2
          clear hfin hb2 hacc hbel hdl htl
          go_wp2
          go_ret
          exact ⟨A2, c2, rfl, HF.out, HB2.out⟩
end Go.Proofs.Ytmfmjdkeoiebpaa
