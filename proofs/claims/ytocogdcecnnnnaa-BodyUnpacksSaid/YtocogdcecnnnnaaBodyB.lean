/-
  Contracts of the methods number and count of package body's writers and readers. Conditions: numbers of one to eight bytes; a writer's bytes are at most 2^40.
-/
import Derived.Test.YtocogdcecnnnnaaBodyA
namespace Go.Proofs.Ytocogdcecnnnnaa
open Go.RowKit

section
variable {w : World} {B p : Nat} {S : List Nat} {T : TypeId}

theorem bad_post {w1 : World} {b : List UInt8} {bad : Bool} {A : Option Addr} {c k lo hi u : Nat} (hn : (DSt.wr b bad).num k lo hi u = (0, .wr b true)) (hp : B ≤ p) (hb : Blk w1 p 55 [.slice A b.length c, .bool bad]) (ha : Acc w1 B A c b) (hbel : Below w.heap.size w w1) :
    NumPost w B [p] 53 p (.wr b bad) k lo hi u (.returned (.int .u64 0)) (w1.setCell ⟨p, 1, none⟩ (.bool true)) := by
  refine ⟨by rw [hn]; rfl, ?_, (Turn.of_below hbel).trans (Turn.of_grown (upd_set_p _ _ _ _) (List.mem_singleton.2 rfl))⟩
  rw [hn]
  refine ⟨rfl, rfl, hp, A, c, hb.set 1 _, ha.kept (upd_set_p _ _ _ _) ?_⟩
  cases hk : blk A with
  | none => exact .inl rfl
  | some k => exact .inr (fun e => typ_ne (ha.typ hk) hb.typ (by decide) (by injection e))

set_option maxHeartbeats 800000 in
theorem wnum_calls {b : List UInt8} {bad : Bool} (h : Dir w B S T p (.wr b bad)) (k lo hi u : Nat) (x0 x1 x2 x3 : Int) (e0 : x0 = (k : Int)) (e1 : x1 = (lo : Int)) (e2 : x2 = (hi : Int)) (e3 : x3 = (u : Int)) (h1 : 1 ≤ k) (h8 : k ≤ 8) (hl : b.length ≤ 1099511627776) (hB : B ≤ w.heap.size) :
    Calls Try.prog 67 #[.pointer (some ⟨p, 0, none⟩), .int .i64 x0, .int .u64 x1, .int .u64 x2, .int .u64 x3] w (NumPost w B S T p (.wr b bad) k lo hi u) := by
  subst e0 e1 e2 e3
  obtain ⟨rfl, rfl, hp, A, c, hb, ha⟩ := h
  have c0 := hb.cell 0
  have c1 := hb.cell 1
  have f0 := hb.free 0
  have f1 := hb.free 1
  simp only [List.getElem?_cons_zero, List.getElem?_cons_succ] at c0 c1
  have HP := Lib.hid hp
  have HB := Lib.hid hb
  have HA := Lib.hid ha
  have HBB := Lib.hid hB
  by_cases hbig : u < 256 ^ k
  · have hbt := ha.bts
    have hp' := put_ok A b.length c b k u w hbt (by omega) h1 h8 hbig
    by_cases hlo : u < lo
    · have HN := Lib.hid (show (DSt.wr b bad).num k lo hi u = (0, .wr b true) by simp only [DSt.num]; rw [if_neg (by omega)])
      clear hb ha hbt hbig hp hB
      have i1 : (u : Int) < (lo : Int) := by omega
      go_enter Try.func67, Try.ntmps67
      go_wp2_with fail
      ((with_reducible refine hp'.mono ?_))
      rintro e w1 ⟨rfl, h2, h3⟩
      have hb1 := HB.out.below h3
      have H3 := Lib.hid h3
      have HB1 := Lib.hid hb1
      have HA1 := Lib.hid (HA.out.bel h3)
      have f1' := hb1.free 1
      have c1' := hb1.cell 1
      simp only [List.getElem?_cons_zero, List.getElem?_cons_succ] at c1'
      clear h2 h3 hb1 c0 c1 f0 f1 hp'
      go_wp2
      go_ret
      exact bad_post HN.out HP.out HB1.out HA1.out H3.out
    · by_cases hhi : hi < u
      · have HN := Lib.hid (show (DSt.wr b bad).num k lo hi u = (0, .wr b true) by simp only [DSt.num]; rw [if_neg (by omega)])
        clear hb ha hbt hbig hp hB
        have i1 : ¬ (u : Int) < (lo : Int) := by omega
        have i2 : (hi : Int) < (u : Int) := by omega
        go_enter Try.func67, Try.ntmps67
        go_wp2_with fail
        ((with_reducible refine hp'.mono ?_))
        rintro e w1 ⟨rfl, h2, h3⟩
        have hb1 := HB.out.below h3
        have H3 := Lib.hid h3
        have HB1 := Lib.hid hb1
        have HA1 := Lib.hid (HA.out.bel h3)
        have f1' := hb1.free 1
        have c1' := hb1.cell 1
        simp only [List.getElem?_cons_zero, List.getElem?_cons_succ] at c1'
        clear h2 h3 hb1 c0 c1 f0 f1 hp'
        go_wp2
        go_ret
        exact bad_post HN.out HP.out HB1.out HA1.out H3.out
      · have HN := Lib.hid (show (DSt.wr b bad).num k lo hi u = (u, .wr (b ++ dig k u) bad) by simp only [DSt.num]; rw [if_pos ⟨hbig, by omega, by omega⟩])
        clear hb ha hbt hbig hp hB
        have i1 : ¬ (u : Int) < (lo : Int) := by omega
        have i2 : ¬ (hi : Int) < (u : Int) := by omega
        go_enter Try.func67, Try.ntmps67
        go_wp2_with fail
        ((with_reducible refine hp'.mono ?_))
        rintro e w1 ⟨rfl, h2, h3⟩
        have hb1 := HB.out.below h3
        have H2 := Lib.hid h2
        have H3 := Lib.hid h3
        have HB1 := Lib.hid hb1
        have f0' := hb1.free 0
        have c0' := hb1.cell 0
        simp only [List.getElem?_cons_zero] at c0'
        clear h2 h3 hb1 c0 c1 f0 f1 hp'
        go_wp2
        go_ret
        have hset := HB1.out.set 0 (.slice (some ⟨w.heap.size, 0, none⟩) (b.length + k) (b.length + k))
        have hne : p ≠ w.heap.size := Nat.ne_of_lt HB.out.lt
        have hl2 : (b ++ dig k u).length = b.length + k := by simp [dig_length]
        refine ⟨by rw [HN.out]; rfl, ?_, ?_⟩
        · rw [HN.out]
          refine ⟨rfl, rfl, HP.out, some ⟨w.heap.size, 0, none⟩, b.length + k, ?_, ?_⟩
          · rw [hl2]; exact hset
          · have hacc := (H2.out.same (Below.heap_setCell w1 ⟨p, 0, none⟩ (.slice (some ⟨w.heap.size, 0, none⟩) (b.length + k) (b.length + k)) _ (Ne.symm hne))).acc HBB.out (by rw [hl2]; omega)
            rw [hl2] at hacc
            exact hacc
        · exact (Turn.of_below H3.out).trans (Turn.of_grown (upd_set_p _ _ _ _) (List.mem_singleton.2 rfl))
  · have HN := Lib.hid (show (DSt.wr b bad).num k lo hi u = (0, .wr b true) by simp only [DSt.num]; rw [if_neg (by omega)])
    have hp' := put_big A b.length c k u w h1 h8 (by omega)
    clear hb ha hbig hp hB
    go_enter Try.func67, Try.ntmps67
    go_wp2_with fail
    ((with_reducible refine hp'.mono ?_))
    rintro e w1 ⟨rfl, rfl⟩
    clear hp'
    go_wp2
    go_ret
    exact bad_post HN.out HP.out HB.out HA.out (Below.refl _ _)

set_option maxHeartbeats 800000 in
theorem rnum_calls {l : List UInt8} {i : Nat} {err : Int} {bad : Bool} (h : Dir w B S T p (.rd l i err bad)) (k lo hi u : Nat) (x0 x1 x2 x3 : Int) (e0 : x0 = (k : Int)) (e1 : x1 = (lo : Int)) (e2 : x2 = (hi : Int)) :
    Calls Try.prog 71 #[.pointer (some ⟨p, 0, none⟩), .int .i64 x0, .int .u64 x1, .int .u64 x2, .int .u64 x3] w (NumPost w B S T p (.rd l i err bad) k lo hi u) := by
  subst e0 e1 e2
  obtain ⟨rfl, r, g, rfl, hp, hr, hb, hrd⟩ := h
  have c0 := hb.cell 0
  simp only [List.getElem?_cons_zero] at c0
  have hu := uint_any hrd (k : Int)
  have HP := Lib.hid hp
  have HR := Lib.hid hr
  have HB := Lib.hid hb
  have hpr : p ≠ r := typ_ne hb.typ hrd.typ (by decide)
  have hpg : p ≠ g := typ_ne hb.typ hrd.typ2 (by decide)
  have HNE := Lib.hid hpr
  have HNG := Lib.hid hpg
  clear hb hrd hp hr hpr hpg
  have hbad : ∀ w1, Rdr w1 r g l (uPos l i err k) (uErr l i err k) → w.grownBy w1 (some r) → ¬ (lo ≤ uVal l i err k ∧ uVal l i err k ≤ hi) →
      NumPost w B [p, r] 63 p (.rd l i err bad) k lo hi u (.returned (.int .u64 0)) (w1.setCell ⟨p, 1, none⟩ (.bool true)) := by
    intro w1 hr1 hg1 hne
    have hb1 : Blk w1 p 67 [.pointer (some ⟨r, 0, none⟩), .bool bad] := HB.out.same (hg1.block _ HB.out.lt (fun e => HNE.out (by injection e)))
    have hn : (DSt.rd l i err bad).num k lo hi u = (0, .rd l (uPos l i err k) (uErr l i err k) true) := by simp only [DSt.num]; rw [if_neg hne]
    refine ⟨by rw [hn]; rfl, ?_, (Turn.of_grown hg1 (by simp)).trans (Turn.of_grown (upd_set_p _ _ _ _) (by simp))⟩
    rw [hn]
    exact ⟨rfl, r, g, rfl, HP.out, HR.out, hb1.set 1 _, hr1.same (Below.heap_setCell _ _ _ _ (Ne.symm HNE.out)) (Below.heap_setCell _ _ _ _ (Ne.symm HNG.out))⟩
  have HBAD := Lib.hid hbad
  clear hbad
  go_enter Try.func71, Try.ntmps71
  go_wp2_with fail
  ((with_reducible refine hu.mono ?_))
  rintro e w1 ⟨rfl, h2, h3⟩
  have hb1 : Blk w1 p 67 [.pointer (some ⟨r, 0, none⟩), .bool bad] := HB.out.same (h3.block _ HB.out.lt (fun e => HNE.out (by injection e)))
  have f1' := hb1.free 1
  have c1' := hb1.cell 1
  simp only [List.getElem?_cons_zero, List.getElem?_cons_succ] at c1'
  have H2 := Lib.hid h2
  have H3 := Lib.hid h3
  have HB1 := Lib.hid hb1
  have HV := Lib.hid (Eq.refl (uVal l i err k))
  clear h2 h3 hb1 c0 hu
  generalize hv : uVal l i err k = v at *
  have HVV := Lib.hid hv
  clear hv
  by_cases hlo : v < lo
  · have i1 : (v : Int) < (lo : Int) := by omega
    go_wp2
    go_ret
    exact HBAD.out _ H2.out H3.out (by omega)
  · by_cases hhi : hi < v
    · have i1 : ¬ (v : Int) < (lo : Int) := by omega
      have i2 : (hi : Int) < (v : Int) := by omega
      go_wp2
      go_ret
      exact HBAD.out _ H2.out H3.out (by omega)
    · have i1 : ¬ (v : Int) < (lo : Int) := by omega
      have i2 : ¬ (hi : Int) < (v : Int) := by omega
      go_wp2
      go_ret
      have hn : (DSt.rd l i err bad).num k lo hi u = (v, .rd l (uPos l i err k) (uErr l i err k) bad) := by simp only [DSt.num]; rw [HVV.out, if_pos (by omega)]
      refine ⟨by rw [hn]; rfl, ?_, Turn.of_grown H3.out (by simp)⟩
      rw [hn]
      exact ⟨rfl, r, g, rfl, HP.out, HR.out, HB1.out, H2.out⟩

/-- How many parts follow. -/
def DSt.cnt (size n : Nat) : DSt → Nat
  | .wr .. => n
  | .rd l i _ _ => (l.length - i) / size
theorem wcnt_calls (n size : Int) (w : World) (v : Value) :
    Calls Try.prog 66 #[v, .int .i64 size, .int .i64 n] w fun e w' => e = .returned (.int .i64 n) ∧ w = w' := by
  go_enter Try.func66, Try.ntmps66
  go_wp2
  go_ret
  exact ⟨rfl, rfl⟩
theorem rcnt_calls {l : List UInt8} {i : Nat} {err : Int} {bad : Bool} (h : Dir w B S T p (.rd l i err bad)) (n : Int) :
    Calls Try.prog 70 #[.pointer (some ⟨p, 0, none⟩), .int .i64 8, .int .i64 n] w fun e w' => e = .returned (.int .i64 (((l.length - i) / 8 : Nat) : Int)) ∧ ∃ m, w' = w.drewN m := by
  obtain ⟨rfl, r, g, rfl, hp, hr, hb, hrd⟩ := h
  have c0 := hb.cell 0
  simp only [List.getElem?_cons_zero] at c0
  have hle := left_calls hrd
  have hi := hrd.2.2.1
  have hl := hrd.2.2.2
  clear hb hrd hp hr
  go_enter Try.func70, Try.ntmps70
  go_wp2_with fail
  ((with_reducible refine hle.mono ?_))
  rintro e w1 ⟨rfl, m, rfl⟩
  clear hle c0
  obtain ⟨d, hd⟩ : ∃ d : Nat, l.length = i + d := ⟨l.length - i, by omega⟩
  have e1 : (l.length : Int) - (i : Int) = (d : Int) := by omega
  rw [e1]
  have e2 := Lib.hid (show l.length - i = d by omega)
  have e3 : (d : Int).tdiv 8 = ((d / 8 : Nat) : Int) := by rw [Int.tdiv_eq_ediv_of_nonneg (by omega)]; omega
  clear e1 hi
  go_wp2
  go_ret
  refine ⟨?_, m, rfl⟩
  rw [e2.out]
  rfl
end
end Go.Proofs.Ytocogdcecnnnnaa
