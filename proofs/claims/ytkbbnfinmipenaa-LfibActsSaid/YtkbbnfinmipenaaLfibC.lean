/-
  Contracts of package lfib: validPacket, pushed, and the two ways of Step. Conditions: the table is one that New made; the packet's entries read as a list, of at most 2^40.
-/
import Derived.Test.YtkbbnfinmipenaaLfibA
import Derived.Test.YtkbbnfinmipenaaShimG
import Derived.Test.YtkbbnfinmipenaaBlk
namespace Go.Proofs.Ytkbbnfinmipenaa
open Go.RowKit Go.Maps

/-- May a packet be? -/
def okPkt (es : List (Int × Int × Int)) (ttl : Int) (n : Nat) : Bool := decide (es.length ≤ 8) && (decide (n ≤ 4096) && (es.all mE && wn ttl 0 255))

def pv (a : Option Addr) (n c : Nat) (tun ttl : Int) (pay : ByteArray) : Value := .agg #[.slice a n c, .int .i64 tun, .int .i64 ttl, .string pay]

theorem Below.belowOf {a b : World} (h : Below a.heap.size a b) {w : World} (hw : Below w.heap.size w a) : Below w.heap.size w b := bel_more hw (Nat.le_refl _) h

set_option maxRecDepth 100000 in
set_option maxHeartbeats 800000 in
theorem validPacket_calls (a : Option Addr) (n c : Nat) (es : List (Int × Int × Int)) (tun ttl : Int) (pay : ByteArray) (w : World) (h : Row ec w w.heap.size a n es) (hn : n ≤ 1099511627776) :
    Calls Try.prog 41 #[.agg #[.slice a n c, .int .i64 tun, .int .i64 ttl, .string pay]] w fun e w' => e = .returned (.bool (okPkt es ttl pay.size)) ∧ Below w.heap.size w w' := by
  have K0 := Lib.hid (bel_new (Below.refl w.heap.size w) (.cells #[.slice a n c, .int .i64 tun, .int .i64 ttl, .string pay] 33))
  have B0 := Lib.hid (Blk.new w 33 [.slice a n c, .int .i64 tun, .int .i64 ttl, .string pay])
  have HR := Lib.hid ((h.below K0.out).more K0.out.size)
  have HL := Lib.hid h.1
  clear h
  go_enter Try.func41, Try.ntmps41
  by_cases h8 : 8 < n
  · go_wp2
    go_ret
    exact ⟨by unfold okPkt; rw [HL.out, decide_eq_false (by omega)]; rfl, K0.out⟩
  by_cases hm : 4096 < pay.size
  · go_wp2
    go_ret
    exact ⟨by unfold okPkt; rw [decide_eq_false (show ¬ pay.size ≤ 4096 by omega)]; simp, K0.out⟩
  have hm1 : decide (4096 < (pay.size : Int)) = false := by simp; omega
  have hm2 : decide (8 < (n : Int)) = false := by simp; omega
  go_wp2_with fail
  generalize (w.alloc (.cells #[.slice a n c, .int .i64 tun, .int .i64 ttl, .string pay] 33)) = w1 at *
  go_loopw [18] (fun t W => ∃ j : Nat, j ≤ n ∧ t = .int .i64 (j : Int) ∧ (es.take j).all mE = true ∧ Below w1.heap.size w1 W) (fun t _ => n - (intOf t).toNat)
  case atStart => exact ⟨0, Nat.zero_le _, rfl, rfl, Below.refl _ _⟩
  case round =>
    obtain ⟨j, hj, rfl, hal, hbel⟩ := hrel
    have HA := Lib.hid hal
    have HB := Lib.hid hbel
    by_cases hlt : j < n
    · have hjl : j < es.length := by rw [HL.out]; exact hlt
      obtain ⟨b, o, rfl, _, hc⟩ := row_at3 (HR.out.below hbel) (by omega)
      obtain ⟨e0, e1, e2⟩ := hc j hjl
      have HT := Lib.hid (show (es.take (j + 1)).all mE = ((es.take j).all mE && mE es[j]) by rw [List.take_succ_eq_append_getElem hjl, List.all_append, List.all_cons, List.all_nil, Bool.and_true])
      have HM := Lib.hid (show mE es[j] = may es[j].1 es[j].2.1 es[j].2.2 from rfl)
      have HX := Lib.hid (show mE es[j] = false → es.all mE = false from fun h => by rw [List.all_eq_false]; exact ⟨es[j], List.getElem_mem hjl, by rw [h]; simp⟩)
      clear hc hal hbel
      generalize mE es[j] = mm at *
      generalize es[j].1 = x at *
      generalize es[j].2.1 = y at *
      generalize es[j].2.2 = z at *
      go_wp2_with fail
      ((with_reducible refine (may_calls x y z _).mono ?_))
      rintro e w2 ⟨rfl, rfl⟩
      have K2 := Lib.hid (bel_new (bel_new HB.out (.cells #[.int .i64 x, .int .i64 y, .int .i64 z] 61)) (.cells #[.int .i64 x, .int .i64 y, .int .i64 z] 61))
      rw [← HM.out]
      cases mm
      · go_wp2
        go_ret
        exact ⟨by unfold okPkt; rw [HX.out (by first | rfl | trivial)]; simp, bel_more K0.out (Nat.le_refl _) K2.out⟩
      · go_wp2
        exact ⟨⟨j + 1, by omega, by go_num, by rw [HT.out, HA.out]; rfl, K2.out⟩, by simp [intOf]; omega⟩
    · have hjn : j = n := by omega
      subst hjn
      have B2 := Lib.hid (B0.out.below hbel)
      have e1 : es.take j = es := List.take_of_length_le (by rw [HL.out]; exact Nat.le_refl _)
      have HA2 := Lib.hid (show es.all mE = true by rw [← e1]; exact hal)
      have c2 : wr.cell? ⟨w.heap.size, 2, none⟩ = some (.int .i64 ttl) := B2.out.cell 2
      clear hal hbel e1
      go_wp2_with fail
      ((with_reducible refine (lwithin_calls ttl 0 255 _).mono ?_))
      rintro e w2 ⟨rfl, rfl⟩
      go_wp2
      go_ret
      refine ⟨?_, bel_more K0.out (Nat.le_refl _) HB.out⟩
      unfold okPkt
      rw [HL.out, HA2.out, decide_eq_true (show j ≤ 8 by omega), decide_eq_true (show pay.size ≤ 4096 by omega)]
      rfl

def PushedPost (w : World) (es : List (Int × Int × Int)) (q : Int × Int × Int) (e : Ending) (w' : World) : Prop :=
  ∃ A c, e = .returned (.slice A (pushL es q).length c) ∧ AccE w' w.heap.size A c (pushL es q) ∧ Below w.heap.size w w'

theorem pushed_calls (a : Option Addr) (n c : Nat) (es : List (Int × Int × Int)) (x y z : Int) (w : World) (h : Row ec w w.heap.size a n es) (hn : n ≤ 1099511627776) :
    Calls Try.prog 50 #[.slice a n c, .agg #[.int .i64 x, .int .i64 y, .int .i64 z]] w (PushedPost w es (x, y, z)) := by
  have K0 := Lib.hid (bel_new (Below.refl w.heap.size w) (.cells #[.int .i64 x, .int .i64 y, .int .i64 z] 61))
  have HR := Lib.hid ((h.below K0.out).more K0.out.size)
  clear h
  go_enter Try.func50, Try.ntmps50
  go_wp2_with fail
  ((with_reducible refine (push_callsA a n c es x y z _ HR.out hn).mono ?_))
  rintro e w2 ⟨A, c2, rfl, a2, b2⟩
  have A2 := Lib.hid a2
  have B2 := Lib.hid b2
  clear a2 b2
  generalize pushErr es (x, y, z) = er
  generalize hL : (pushL es (x, y, z)).length = m
  go_wp2
  go_ret
  exact ⟨A, c2, by rw [hL]; rfl, A2.out.lower K0.out.size, bel_more K0.out (Nat.le_refl _) B2.out⟩
end Go.Proofs.Ytkbbnfinmipenaa
