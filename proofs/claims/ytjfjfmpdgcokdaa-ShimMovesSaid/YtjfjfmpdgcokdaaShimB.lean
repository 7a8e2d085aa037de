/-
  Contract of shim.Encode. Condition: the entries that come in read as a list.
-/
import Derived.Test.YtjfjfmpdgcokdaaShimM
namespace Go.Proofs.Ytjfjfmpdgcokdaa
open Go.RowKit

def encErr (es : List (Int × Int × Int)) : Int := if 8 < es.length then 3 else if es.all mE = true then 0 else 2
def encR (es : List (Int × Int × Int)) : List UInt8 := if encErr es = 0 then encL es else []
theorem encErr_big {es : List (Int × Int × Int)} (h : 8 < es.length) : encErr es = 3 := by unfold encErr; rw [if_pos h]
theorem encErr_arg {es : List (Int × Int × Int)} (h : es.length ≤ 8) {e : Int × Int × Int} (he : e ∈ es) (hm : mE e = false) : encErr es = 2 := by
  unfold encErr
  rw [if_neg (by omega), if_neg]
  intro hall
  rw [List.all_eq_true] at hall
  rw [hall e he] at hm; cases hm
theorem encErr_ok {es : List (Int × Int × Int)} (h : es.length ≤ 8) (hm : ∀ e ∈ es, mE e = true) : encErr es = 0 := by
  unfold encErr
  rw [if_neg (by omega), if_pos (List.all_eq_true.2 hm)]
theorem encErr_zero {es : List (Int × Int × Int)} (h : encErr es = 0) : es.length ≤ 8 ∧ ∀ e ∈ es, mE e = true := by
  unfold encErr at h
  by_cases h8 : 8 < es.length
  · rw [if_pos h8] at h; simp at h
  · rw [if_neg h8] at h
    by_cases ha : es.all mE = true
    · exact ⟨by omega, List.all_eq_true.1 ha⟩
    · rw [if_neg ha] at h; simp at h
theorem encR_ok {es : List (Int × Int × Int)} (h : encErr es = 0) : encR es = encL es := by unfold encR; rw [if_pos h]
theorem encR_no {es : List (Int × Int × Int)} (h : encErr es ≠ 0) : encR es = [] := by unfold encR; rw [if_neg h]

def EncPost (w : World) (es : List (Int × Int × Int)) (e : Ending) (w' : World) : Prop :=
  ∃ A c, e = .returned (.tuple #[.slice A (encR es).length c, .int .i64 (encErr es)]) ∧ Bts w' w'.heap.size A (encR es).length (encR es) ∧ Below w.heap.size w w'

theorem encPost_no {w w' : World} {es : List (Int × Int × Int)} {e : Ending} {err : Int} (h : encErr es = err) (h0 : err ≠ 0) (he : e = .returned (.tuple #[.slice none 0 0, .int .i64 err])) (hb : Below w.heap.size w w') : EncPost w es e w' := by
  have hr : encR es = [] := encR_no (by rw [h]; exact h0)
  refine ⟨none, 0, ?_, ?_, hb⟩
  · rw [hr, h, he]; rfl
  · rw [hr]; exact Bts.nil

theorem encode_big (a : Option Addr) (n c : Nat) (es : List (Int × Int × Int)) (w : World) (hl : es.length = n) (hn : 8 < n) (hm : n ≤ 4611686018427387904) :
    Calls Try.prog 10 #[.slice a n c] w (EncPost w es) := by
  have HL := Lib.hid hl
  clear hl
  go_enter Try.func10, Try.ntmps10
  go_wp2
  go_ret2
  exact encPost_no (encErr_big (by rw [HL.out]; exact hn)) (by omega) rfl (Below.refl _ _)

theorem put4 (a : Option Addr) (n c : Nat) (l : List UInt8) (u : Int) (w : World) (h : Bts w w.heap.size a n l) (hlen : n ≤ 1099511627776) (hu : 0 ≤ u) (hb : u < 4294967296) :
    Calls Try.prog 20 #[.slice a n c, .int .i64 4, .int .u64 u] w fun e w' => e = .returned (.tuple #[.slice (some ⟨w.heap.size, 0, none⟩) (n + 4) (n + 4), .int .i64 0]) ∧ Own w' w.heap.size (l ++ dig 4 u.toNat) ∧ Below w.heap.size w w' := by
  have hl := h.1
  have hp : u.toNat < 256 ^ (4 : Int).toNat := by simp; omega
  refine (put_i a n c l 4 u w h (by omega) (by omega) (by omega) hu hp).mono ?_
  rintro e w' ⟨rfl, h2, h3⟩
  rw [hl]
  exact ⟨rfl, h2, h3⟩

set_option maxHeartbeats 800000 in
theorem encode_ok (a : Option Addr) (n c : Nat) (es : List (Int × Int × Int)) (w : World) (h : Row ec w w.heap.size a n es) (hn : n ≤ 8) :
    Calls Try.prog 10 #[.slice a n c] w (EncPost w es) := by
  have HR := Lib.hid h
  have HL := Lib.hid h.1
  clear h
  go_enter Try.func10, Try.ntmps10
  go_wp2
  go_loopw [4, 12] (fun s t W => ∃ j cc : Nat, ∃ A : Option Addr, j ≤ n ∧ t = .int .i64 (j : Int) ∧ s = .slice A (4 * j) cc ∧ Bts W W.heap.size A (4 * j) (encs n 0 (es.take j)) ∧ (∀ e ∈ es.take j, mE e = true) ∧ Below w.heap.size w W) (fun _ t _ => n - (intOf t).toNat)
  case atStart => exact ⟨0, 0, none, Nat.zero_le _, rfl, rfl, Bts.nil, by simp, Below.refl _ _⟩
  case round =>
    obtain ⟨j, cc, A, hj, rfl, rfl, hB, hM, hbel⟩ := hrel
    by_cases hlt : j < n
    · have hjl : j < es.length := by rw [HL.out]; exact hlt
      obtain ⟨b, o, rfl, _, hc⟩ := (HR.out.below hbel).cells ec_length (by omega)
      have c0 : wr.cell? ⟨b, o + j * 3, none⟩ = some (.int .i64 es[j].1) := hc j hjl 0 (by omega)
      have c1 : wr.cell? ⟨b, o + j * 3 + 1, none⟩ = some (.int .i64 es[j].2.1) := hc j hjl 1 (by omega)
      have c2 : wr.cell? ⟨b, o + j * 3 + 2, none⟩ = some (.int .i64 es[j].2.2) := hc j hjl 2 (by omega)
      have HM := Lib.hid (show mE es[j] = may es[j].1 es[j].2.1 es[j].2.2 from rfl)
      have HN := Lib.hid (show ∀ b, nE es[j] b = (encI es[j].1 es[j].2.1 es[j].2.2 b).toNat from fun _ => rfl)
      have HT := Lib.hid (show es.take (j + 1) = es.take j ++ [es[j]] from List.take_succ_eq_append_getElem hjl)
      have HI := Lib.hid (show es[j] ∈ es from List.getElem_mem hjl)
      have HB := Lib.hid hB
      have HA := Lib.hid hM
      have HBel := Lib.hid hbel
      clear hc hB hM hbel
      generalize es[j] = q at *
      obtain ⟨x, y, z⟩ := q
      simp only at c0 c1 c2 HM HN
      go_wp2_with fail
      ((with_reducible refine (may_calls x y z _).mono ?_))
      rintro e w1 ⟨rfl, rfl⟩
      cases hmay : may x y z
      · go_wp2
        go_ret2
        exact encPost_no (encErr_arg (by rw [HL.out]; exact hn) HI.out (by rw [HM.out]; exact hmay)) (by omega) rfl (bel_new (bel_new HBel.out _) _)
      · obtain ⟨x0, x1, y0, y1, z0, z1⟩ := may_yes hmay
        have hlast : ((j : Int) == (n : Int) - 1) = decide (j + 1 = n) := by rw [Bool.beq_eq_decide_eq]; exact decide_eq_decide.2 (by omega)
        have HLast := Lib.hid hlast
        clear hlast
        go_wp2_with fail
        ((with_reducible refine (number_calls3 x y z _ _ x0 x1 y0 y1 z0 z1).mono ?_))
        rintro e w1 ⟨rfl, rfl⟩
        rw [HLast.out]
        have hN := HN.out (decide (j + 1 = n))
        have hq := nE_eq (e := (x, y, z)) (by rw [HM.out]; exact hmay) (decide (j + 1 = n))
        have e0 : 0 ≤ encI x y z (decide (j + 1 = n)) := by rw [← hq.1]; omega
        have e1 : encI x y z (decide (j + 1 = n)) < 4294967296 := by rw [← hq.1]; have := hq.2; omega
        have HN2 := Lib.hid hN
        have bel3 : Below w.heap.size w (((wr.alloc (.cells #[.int .i64 x, .int .i64 y, .int .i64 z] 24)).alloc (.cells #[.int .i64 x, .int .i64 y, .int .i64 z] 24)).alloc (.cells #[.int .i64 x, .int .i64 y, .int .i64 z] 24)) :=
          bel_new (bel_new (bel_new HBel.out _) _) _
        have up3 : Below wr.heap.size wr (((wr.alloc (.cells #[.int .i64 x, .int .i64 y, .int .i64 z] 24)).alloc (.cells #[.int .i64 x, .int .i64 y, .int .i64 z] 24)).alloc (.cells #[.int .i64 x, .int .i64 y, .int .i64 z] 24)) :=
          bel_new (bel_new (bel_new (Below.refl _ _) _) _) _
        have B3 := Lib.hid ((HB.out.below up3).more up3.size)
        have BEL3 := Lib.hid bel3
        clear hN hq bel3 up3
        generalize hU : encI x y z (decide (j + 1 = n)) = U at *
        generalize hW : (((wr.alloc (.cells #[.int .i64 x, .int .i64 y, .int .i64 z] 24)).alloc (.cells #[.int .i64 x, .int .i64 y, .int .i64 z] 24)).alloc (.cells #[.int .i64 x, .int .i64 y, .int .i64 z] 24)) = W3 at *
        clear hU hW
        go_wp2_with fail
        ((with_reducible refine (put4 A (4 * j) cc _ U W3 B3.out (by omega) e0 e1).mono ?_))
        rintro e w4 ⟨rfl, h4, b4⟩
        have hlen : (encs n 0 (es.take j) ++ dig 4 U.toNat).length = 4 * (j + 1) := by
          rw [List.length_append, encs_length, dig_length, List.length_take]; omega
        have hnext : encs n 0 (es.take (j + 1)) = encs n 0 (es.take j) ++ dig 4 U.toNat := by
          have htl : (es.take j).length = j := by simp; omega
          rw [HT.out, encs_snoc, htl, Nat.zero_add, eAt, HN2.out]
        have HF := Lib.hid (show Bts w4 w4.heap.size (some ⟨W3.heap.size, 0, none⟩) (4 * (j + 1)) (encs n 0 (es.take (j + 1))) by
          have := h4.bts h4.lt
          rwa [hlen, ← hnext] at this)
        have HG := Lib.hid (bel_more BEL3.out (Nat.le_refl _) b4)
        have HA2 := Lib.hid (show ∀ e ∈ es.take (j + 1), mE e = true by
          rw [HT.out]
          intro e he
          rcases List.mem_append.1 he with he | he
          · exact HA.out e he
          · obtain rfl : e = (x, y, z) := by simpa using he
            rw [HM.out]; exact hmay)
        clear h4 b4 hlen hnext
        go_wp2
        exact ⟨⟨j + 1, _, _, by omega, by go_num, by rw [Nat.mul_succ], HF.out, HA2.out, HG.out⟩, by simp [intOf]; omega⟩
    · have hjn : j = n := by omega
      subst hjn
      have e1 : es.take j = es := List.take_of_length_le (by rw [HL.out]; exact Nat.le_refl _)
      rw [e1] at hB hM
      have h0 := Lib.hid (encErr_ok (by rw [HL.out]; exact hn) hM)
      have HB := Lib.hid hB
      have HBel := Lib.hid hbel
      clear hB hM hbel
      go_wp2
      go_ret2
      have e2 : encR es = encs j 0 es := by rw [encR_ok h0.out, encL, HL.out]
      have e3 : (encR es).length = 4 * j := by rw [e2, encs_length, HL.out]
      refine ⟨A, cc, ?_, ?_, HBel.out⟩
      · rw [h0.out, e3]; rfl
      · rw [e3, e2]; exact HB.out

theorem encode_calls (a : Option Addr) (n c : Nat) (es : List (Int × Int × Int)) (w : World) (h : Row ec w w.heap.size a n es) (hm : n ≤ 4611686018427387904) :
    Calls Try.prog 10 #[.slice a n c] w (EncPost w es) := by
  by_cases hn : n ≤ 8
  · exact encode_ok a n c es w h hn
  · exact encode_big a n c es w h.1 (by omega) hm
end Go.Proofs.Ytjfjfmpdgcokdaa
