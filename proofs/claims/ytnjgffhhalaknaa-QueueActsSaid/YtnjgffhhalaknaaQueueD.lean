/-
  Contracts of package queue: the library's heap over a queue's items: up and down. Condition: at most 2^40 items.
-/
import Derived.Test.YtnjgffhhalaknaaQueueC
namespace Go.Proofs.Ytnjgffhhalaknaa
open Go.RowKit

/-- A method of a pointer's that is the pointed value's: the value is read. -/
theorem wrap_some (t : TypeId) (a : Addr) (s m : ByteArray) : Builtin.ssaWrapNilChk_ #[t] t #[.pointer (some a), .string s, .string m] = pure (.pointer (some a)) := rfl
theorem meth_val {P : Program} {w : World} (k : Nat) (T el : TypeId) (nm : String) (F : FuncId) (a : Addr) (v : Value) (hm : (P.info? T).map (fun i => (i.methods.find? (·.name == nm)).map (fun m => (m.path, m.func))) = some (some (#[], some (F, false)))) (hu : P.underlying T = some (.pointer el))
    (hl : (loadVar el a).run P w = .ok v w) : (method (k + 1) T (.pointer (some a)) nm).run P w = .ok (F, v) w := by
  obtain ⟨i, hi, hf⟩ := Option.map_eq_some_iff.1 hm
  obtain ⟨m, hf, he⟩ := Option.map_eq_some_iff.1 hf
  injection he with h1 h2
  simp [method, typeInfo, hi, hf, h1, h2, follow, receiverAt, run_underlying hu, Place.get, wrap_some, strVal, asAddr, hl]
theorem load_items {w : World} {a : Addr} {v : Value} (h : w.cell? a = some v) : (loadVar 56 a).run Try.prog w = .ok v w := by
  simp [loadVar, isAgg, run_underlying Try.underlying56, h, go_sem]
theorem meth_len {w : World} (k : Nat) {a : Addr} {v : Value} (h : w.cell? a = some v) : (method (k + 1) 48 (.pointer (some a)) "Len").run Try.prog w = .ok (24, v) w :=
  meth_val k _ 56 _ _ a v (by kernel_rfl) Try.underlying48 (load_items h)
theorem meth_less {w : World} (k : Nat) {a : Addr} {v : Value} (h : w.cell? a = some v) : (method (k + 1) 48 (.pointer (some a)) "Less").run Try.prog w = .ok (44, v) w :=
  meth_val k _ 56 _ _ a v (by kernel_rfl) Try.underlying48 (load_items h)
theorem meth_swap {w : World} (k : Nat) {a : Addr} {v : Value} (h : w.cell? a = some v) : (method (k + 1) 48 (.pointer (some a)) "Swap").run Try.prog w = .ok (47, v) w :=
  meth_val k _ 56 _ _ a v (by kernel_rfl) Try.underlying48 (load_items h)
theorem meth_push (k : Nat) (a : Addr) (w : World) : (method (k + 1) 48 (.pointer (some a)) "Push").run Try.prog w = .ok (46, .pointer (some a)) w := by kernel_rfl
theorem meth_pop (k : Nat) (a : Addr) (w : World) : (method (k + 1) 48 (.pointer (some a)) "Pop").run Try.prog w = .ok (45, .pointer (some a)) w := by kernel_rfl

/-- A queue's items as the library's heap takes them. -/
def hpv (p : Nat) : Value := .iface 48 (.pointer (some ⟨p, 0, none⟩))
/-- What up leaves. -/
def UpPost (w : World) (base p g c n : Nat) (f : Nat → Itm) (e : Ending) (w' : World) : Prop :=
  e = .returned (.tuple #[]) ∧ ∃ f', Hpl w' base p g c n f' ∧ Hp iLe n f' ∧ (hls n f').Perm (hls n f) ∧ Turn [p, g] w w'
section
variable {w w' : World} {base p g c n : Nat} {f : Nat → Itm}
theorem Hpl.swap (h : Hpl w base p g c n f) {f' : Nat → Itm} (hr : Irow w' base g c n f') (hg : w.grownBy w' (some g)) : Hpl w' base p g c n f' :=
  ⟨h.head.same (hg.block p h.head.lt (by simp; exact h.ne)), hr, h.ge, h.ne⟩

set_option maxHeartbeats 1600000 in
theorem up_calls (h : Hpl w base p g c n f) (j : Nat) (hj : j < n) (hU : HUp iLe n f j) (hn : n ≤ 1099511627776) :
    Calls Try.prog 27 #[hpv p, .int .i64 (j : Int)] w (UpPost w base p g c n f) := by
  have H := Lib.hid h
  have HU := Lib.hid hU
  have HN := Lib.hid hn
  unfold hpv
  clear h hU hn
  go_enter Try.func27, Try.ntmps27
  go_wp2_with fail
  go_loopw [1] (fun t wr => ∃ (j : Nat) (f1 : Nat → Itm), j < n ∧ t = .int .i64 (j : Int) ∧ Hpl wr base p g c n f1 ∧ HUp iLe n f1 j ∧ (hls n f1).Perm (hls n f) ∧ Turn [p, g] w wr) (fun t wr => (intOf t).toNat)
  case atStart => exact ⟨j, f, hj, rfl, H.out, HU.out, List.Perm.refl _, Turn.refl _ _⟩
  case round =>
    obtain ⟨k, f1, hk, rfl, h1, hU1, hP1, hT1⟩ := hrel
    have H1 := Lib.hid h1
    have U1 := Lib.hid hU1
    have P1 := Lib.hid hP1
    have T1 := Lib.hid hT1
    have HK := Lib.hid hk
    clear h1 hU1 hP1 hT1 hk
    by_cases k0 : k = 0
    · subst k0
      go_wp2
      go_end0
      exact ⟨rfl, f1, H1.out, up_stop U1.out (.inl rfl), P1.out, T1.out⟩
    · obtain ⟨i, hi⟩ : ∃ i, i = par k := ⟨_, rfl⟩
      have hik : i < k := by rw [hi]; exact par_lt (by omega)
      have x0 : k < 1099511627776 := by have := HK.out; have := HN.out; omega
      have hin : i < n := by have := HK.out; omega
      have hq : ((k : Int) - 1).tdiv 2 = (i : Int) := by
        rw [Int.tdiv_eq_ediv_of_nonneg (by omega), hi]
        unfold par
        omega
      have hne : ¬ (i : Int) = (k : Int) := by omega
      have hml := fun m => meth_less (w := wr) m H1.out.cell
      have hcl := iless_calls H1.out.row k i HK.out hin
      have HI := Lib.hid hi
      unfold LessPost at hcl
      clear hi
      go_wp2_with fail
      ((with_reducible refine hcl.mono ?_))
      rintro e w2 ⟨rfl, hb⟩
      have HB := Lib.hid hb
      have H2 := Lib.hid (H1.out.bel hb)
      have T2 := Lib.hid (T1.out.trans (Turn.of_below hb))
      clear hcl hml hb hq
      by_cases hlt : iLt (f1 k) (f1 i)
      · have hms := fun m => meth_swap (w := w2) m H2.out.cell
        have hcs := iswap_calls H2.out.row i k hin HK.out
        unfold SwapPost at hcs
        have HL := Lib.hid hlt
        have hd : decide (iLt (f1 k) (f1 i)) = true := by simpa using hlt
        rw [hd]
        clear hlt hd
        go_wp2_with fail
        ((with_reducible refine hcs.mono ?_))
        rintro e w3 ⟨rfl, hr, hg⟩
        have H3 := Lib.hid (H2.out.swap hr hg)
        have T3 := Lib.hid (T2.out.trans (Turn.of_grown hg (S := [p, g]) (by simp)))
        clear hcs hms hr hg
        go_wp2_with fail
        go_roundw
        case rel =>
          refine ⟨i, hsw f1 i k, hin, rfl, H3.out, ?_, (hls_perm n f1 i k hin HK.out).trans P1.out, T3.out⟩
          rw [HI.out]
          refine up_step iLe_trans U1.out (by omega) HK.out ?_
          rw [← HI.out]
          exact iLe_of_lt HL.out
        case measure => simp [intOf]; omega
      · have HL := Lib.hid hlt
        have hd : decide (iLt (f1 k) (f1 i)) = false := by simpa using hlt
        rw [hd]
        clear hlt hd
        go_wp2
        go_end0
        exact ⟨rfl, f1, H2.out, up_stop U1.out (.inr (by rw [← HI.out]; exact HL.out)), P1.out, T2.out⟩
end
end Go.Proofs.Ytnjgffhhalaknaa
