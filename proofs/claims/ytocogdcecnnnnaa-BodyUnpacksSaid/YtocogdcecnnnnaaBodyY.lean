/-
  Contracts of the document's own read, node and list for layer 7. Conditions: the bytes that come in read as a list, at most 6000, and have at least so much room.
-/
import Derived.Test.YtocogdcecnnnnaaBodyX
import Derived.Test.YtocogdcecnnnnaaBodyBackW
namespace Go.Proofs.Ytocogdcecnnnnaa
open Go.RowKit

/-- A number of some bytes of others, 0 where there are not so many. -/
def rdv (l : List UInt8) (at' k : Nat) : Nat := if l.length < at' + k then 0 else num ((l.drop at').take k)
theorem rdv_lt (l : List UInt8) (i k : Nat) : rdv l i k < 256 ^ k := by
  unfold rdv
  split
  · exact Nat.pow_pos (by omega)
  · have h := num_lt ((l.drop i).take k)
    have e : ((l.drop i).take k).length = k := by simp; omega
    rwa [e] at h
/-- The number of a node that an address tells. -/
def nodv (l : List UInt8) (i : Nat) : Int := (rdv l i 4 : Int) - 167772160
/-- Bytes that came in, with their room. -/
def Inb (w : World) (a : Option Addr) (n c : Nat) (l : List UInt8) : Prop := Bts w w.heap.size a n l ∧ n ≤ c ∧ c ≤ maxLen

set_option maxHeartbeats 800000 in
theorem read_calls (a : Option Addr) (n c : Nat) (l : List UInt8) (i k : Nat) (x0 x1 : Int) (e0 : x0 = (i : Int)) (e1 : x1 = (k : Int)) (w : World) (h : Inb w a n c l) (hn : n ≤ 6000) (hi : i ≤ 10000) (h1 : 1 ≤ k) (h8 : k ≤ 8) :
    Calls Try.prog 46 #[.slice a n c, .int .i64 x0, .int .i64 x1] w fun e w' => e = .returned (.int .u64 (rdv l i k : Int)) ∧ w = w' := by
  subst e0 e1
  obtain ⟨hb, hc, hm⟩ := h
  have hl := hb.1
  have q1 : IntKind.i64.wrap ((i : Int) + (k : Int)) = ((i + k : Nat) : Int) := by rw [IntKind.wrap_i64]; omega
  by_cases hlt : n < i + k
  · have hv : rdv l i k = 0 := by unfold rdv; rw [if_pos (by omega)]
    rw [hv]
    have i1 : (n : Int) < ((i + k : Nat) : Int) := by omega
    clear hb hl hv
    obtain ⟨m, hmm⟩ : ∃ m, m = i + k := ⟨_, rfl⟩
    rw [← hmm] at q1 i1
    clear hmm hlt
    go_enter Try.func46, Try.ntmps46
    go_wp2
    go_ret
    exact ⟨rfl, rfl⟩
  · have hv : rdv l i k = num ((l.drop i).take k) := by unfold rdv; rw [if_neg (by omega)]
    obtain ⟨b, o, rfl, hbw, _⟩ := hb.2 (by omega)
    have hpart := (hb.rest i (by omega)).front k (by omega)
    have hnum := number_calls (some ⟨b, o + i, none⟩) k (c - i) _ w _ hpart h8
    rw [← hv] at hnum
    have i1 : ¬ (n : Int) < ((i + k : Nat) : Int) := by omega
    have j1 : i ≤ i + k := by omega
    have j2 : i + k ≤ c := by omega
    have j3 : i < c := by omega
    clear hb hl hv hpart hbw
    obtain ⟨m, hmm⟩ : ∃ m, m = i + k := ⟨_, rfl⟩
    have hk : k = m - i := by omega
    rw [← hmm] at q1 i1 j1 j2
    unfold maxLen at hm
    generalize rdv l i k = v at *
    have hnum2 : Calls Try.prog 50 #[.slice (some ⟨b, o + i, none⟩) (m - i) (c - i)] w fun e w' => e = .returned (.int .u64 (v : Int)) ∧ w = w' := by rw [← hk]; exact hnum
    have j4 : m ≤ n := by omega
    have j5 : i < m := by omega
    clear hnum hlt hk hmm
    go_enter Try.func46, Try.ntmps46
    go_wp2_with fail
    ((with_reducible refine hnum2.mono ?_))
    rintro e w1 ⟨rfl, rfl⟩
    go_wp2
    go_ret
    exact ⟨rfl, rfl⟩

theorem node7v_calls (a : Option Addr) (n c : Nat) (l : List UInt8) (i : Nat) (x0 : Int) (e0 : x0 = (i : Int)) (w : World) (h : Inb w a n c l) (hn : n ≤ 6000) (hi : i ≤ 10000) :
    Calls Try.prog 45 #[.slice a n c, .int .i64 x0] w fun e w' => e = .returned (.int .i64 (nodv l i)) ∧ w = w' := by
  have hr := read_calls a n c l i 4 x0 4 e0 rfl w h hn hi (by omega) (by omega)
  have hlt := rdv_lt l i 4
  have hv : nodv l i = (rdv l i 4 : Int) - 167772160 := rfl
  rw [hv]
  generalize rdv l i 4 = v at *
  have q1 : IntKind.i64.wrap (v : Int) = (v : Int) := by rw [IntKind.wrap_i64]; omega
  have q2 : IntKind.i64.wrap ((v : Int) - 167772160) = (v : Int) - 167772160 := by rw [IntKind.wrap_i64]; omega
  clear h e0 hv hlt
  go_enter Try.func45, Try.ntmps45
  go_wp2_with fail
  ((with_reducible refine hr.mono ?_))
  rintro e w1 ⟨rfl, rfl⟩
  clear hr
  go_wp2
  go_ret
  exact ⟨rfl, rfl⟩

/-- How many nodes are looked for. -/
def lsn (n : Nat) : Nat := min ((n + 7) / 8) 17
def lst (l : List UInt8) : List Int := (List.range (lsn l.length)).map fun j => nodv l (8 * j + 2)
/-- What list answers. -/
def LstPost (w : World) (xs : List Int) (e : Ending) (w' : World) : Prop :=
  ∃ A c, e = .returned (.slice A xs.length c) ∧ AccI w' w.heap.size A c xs ∧ Below w.heap.size w w'

set_option maxRecDepth 100000 in
set_option maxHeartbeats 1600000 in
theorem list7_calls (a : Option Addr) (n c : Nat) (l : List UInt8) (w : World) (h : Inb w a n c l) (hn : n ≤ 6000) :
    Calls Try.prog 47 #[.slice a n c] w (LstPost w (lst l)) := by
  have HI := Lib.hid h
  have HL := Lib.hid h.1.1
  clear h
  go_enter Try.func47, Try.ntmps47
  go_wp2
  go_loopw [3, 4] (fun s t W => ∃ (j m cc : Nat) (A : Option Addr), m = 8 * j ∧ j ≤ lsn n ∧ t = .int .i64 (m : Int) ∧ s = .slice A j cc ∧ AccI W w.heap.size A cc ((List.range j).map fun j => nodv l (8 * j + 2)) ∧ Below w.heap.size w W) (fun _ t _ => 144 - (intOf t).toNat)
  case atStart => exact ⟨0, 0, 0, none, rfl, Nat.zero_le _, rfl, rfl, AccR.nil _ _ _, Below.refl _ _⟩
  case round =>
    obtain ⟨j, m, cc, A, hmj, hj, rfl, rfl, hA, hbel⟩ := hrel
    have HA := Lib.hid hA
    have HB := Lib.hid hbel
    have HM := Lib.hid hmj
    clear hA hbel
    have hls : lsn n ≤ 17 := Nat.min_le_right _ _
    by_cases hlt : j < lsn n
    · have hmn : m < n ∧ j ≤ 16 := by unfold lsn at hlt; omega
      obtain ⟨k1, k2⟩ := hmn
      have g1 : decide ((m : Int) < (n : Int)) = true := by simp; omega
      have g2 : decide ((j : Int) ≤ 16) = true := by simp; omega
      have g1' : decide (m < n) = true := by simpa using k1
      have g2' : decide (j ≤ 16) = true := by simpa using k2
      have q1 : IntKind.i64.wrap ((m : Int) + 2) = (m : Int) + 2 := by rw [IntKind.wrap_i64]; omega
      have q2 : IntKind.i64.wrap ((m : Int) + 8) = (m : Int) + 8 := by rw [IntKind.wrap_i64]; omega
      have hc := node7v_calls a n c l (m + 2) ((m : Int) + 2) (by omega) wr ⟨(HI.out.1.below HB.out).more HB.out.size, HI.out.2⟩ hn (by omega)
      have HV := Lib.hid (show nodv l (m + 2) = nodv l (8 * j + 2) by rw [hmj])
      clear hmj
      have hlen : ((List.range j).map fun j => nodv l (8 * j + 2)).length = j := by simp
      obtain ⟨A3, c3, w3, r3, a3, g3⟩ := acci_push HA.out (nodv l (m + 2)) HB.out.size (by rw [hlen]; omega) 23
      rw [hlen] at r3
      have R3 := Lib.hid r3
      have A3' := Lib.hid (show AccI w3 w.heap.size A3 c3 ((List.range (j + 1)).map fun j => nodv l (8 * j + 2)) by rw [List.range_succ, List.map_append]; rw [HV.out] at a3; exact a3)
      have B3 := Lib.hid (belr_acc HB.out HA.out g3)
      clear r3 a3 g3 hlen
      generalize nodv l (m + 2) = nv at *
      go_wp2_with fail
      ((with_reducible refine hc.mono ?_))
      rintro e w1 ⟨rfl, rfl⟩
      clear hc
      go_wp2_with (at_builtin; refine step_append rfl rfl rfl rfl R3.out ?_)
      exact ⟨⟨j + 1, m + 8, c3, A3, by have := HM.out; omega, by omega, by go_num, rfl, A3'.out, B3.out⟩, by have := HM.out; simp [intOf]; omega⟩
    · have hjn : j = lsn n := by omega
      have HF := Lib.hid (show lst l = (List.range j).map fun j => nodv l (8 * j + 2) by unfold lst; rw [HL.out, hjn])
      have HLN := Lib.hid (show ((List.range j).map fun j => nodv l (8 * j + 2)).length = j by simp)
      by_cases hmn : m < n
      · have hj17 : 16 < j := by unfold lsn at hjn; omega
        have g1 : decide ((m : Int) < (n : Int)) = true := by simp; omega
        have g2 : decide ((j : Int) ≤ 16) = false := by simp; omega
        have g1' : decide (m < n) = true := by simpa using hmn
        have g2' : decide (j ≤ 16) = false := by simp; omega
        clear hmj hjn hj hls hlt
        go_wp2
        go_ret
        rw [HF.out]
        exact ⟨A, cc, by rw [HLN.out]; rfl, HA.out, HB.out⟩
      · have g1 : decide ((m : Int) < (n : Int)) = false := by simp; omega
        have g1' : decide (m < n) = false := by simpa using hmn
        clear hmj hjn hj hls hlt
        go_wp2
        go_ret
        rw [HF.out]
        exact ⟨A, cc, by rw [HLN.out]; rfl, HA.out, HB.out⟩

/-- What an object would say, if it said anything. -/
def gsP (cl : Int) (l : List UInt8) : PIt :=
  if cl = 1 then ⟨cl, nodv l 0, rdv l 6 2, nodv l 8, 0, [], Wnt.zero⟩
  else if cl = 3 then ⟨cl, nodv l 0, 0, 0, 0, [], Wnt.zero⟩
  else if cl = 5 then ⟨cl, 0, 0, 0, rdv l 0 4, [], Wnt.zero⟩
  else if cl = 6 then ⟨cl, nodv l 0, rdv l 5 1, rdv l 6 2, 0, [], Wnt.zero⟩
  else if cl = 9 ∨ cl = 12 then ⟨cl, 0, 0, 0, rdv l 0 8, [], Wnt.zero⟩
  else if cl = 10 ∨ cl = 11 then ⟨cl, nodv l 0, rdv l 6 2, 0, 0, [], Wnt.zero⟩
  else if cl = 16 ∨ cl = 19 then ⟨cl, rdv l 0 4, 0, 0, 0, [], Wnt.zero⟩
  else if cl = 20 ∨ cl = 21 then ⟨cl, 0, 0, 0, 0, lst l, Wnt.zero⟩
  else if cl = 23 then ⟨cl, 0, 0, 0, rdv l 4 4, [], Wnt.zero⟩
  else if cl = 207 then ⟨cl, 0, 0, 0, 0, [], ⟨0, rdv l 12 1, rdv l 13 1, rdv l 4 4, rdv l 8 4, rdv l 0 4⟩⟩
  else ⟨cl, 0, 0, 0, 0, [], Wnt.zero⟩
/-- What guess answers. -/
def GsPost (w : World) (x : PIt) (e : Ending) (w' : World) : Prop :=
  ∃ y : It, e = .returned (.agg y.cells.toArray) ∧ y.val = x ∧ AccI w' w.heap.size y.la y.lc y.l ∧ y.ln = y.l.length ∧ Below w.heap.size w w' ∧ y.u < 18446744073709551616 ∧ y.w.any < 4294967296 ∧ y.w.all < 4294967296 ∧ y.w.non < 4294967296
end Go.Proofs.Ytocogdcecnnnnaa
