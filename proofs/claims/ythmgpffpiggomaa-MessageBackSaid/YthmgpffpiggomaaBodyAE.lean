/-
  Writers and readers of numbers in package body: what they hold, and what their methods number and count answer. Conditions: numbers of one to eight bytes; a writer's bytes are at most 2^40.
  Contracts of the methods number and count of package body's writers and readers. Conditions: numbers of one to eight bytes; a writer's bytes are at most 2^40.
  Contracts of package body's always, upTo, small, node and groups. Conditions: as of number.
  Contracts of package body's attributes. Conditions: as of number.
  Contract of package body's hops. Condition: the list that comes in reads as numbers; as of number.
-/
import Derived.Test.YthmgpffpiggomaaOctAF
import Derived.Test.YthmgpffpiggomaaBlk
import Derived.Test.YthmgpffpiggomaaMapI
import Derived.Deep.DeepCutAuto
import Derived.Test.YthmgpffpiggomaaInts
import Derived.Laws.MakeOwn
namespace Go.Proofs.Ythmgpffpiggomaa
open Go.RowKit

/-- What a direction holds: a writer's bytes, or a reader's bytes, place and error; and whether a number was out of its range. -/
inductive DSt where
  | wr (b : List UInt8) (bad : Bool)
  | rd (l : List UInt8) (i : Nat) (err : Int) (bad : Bool)

/-- A number of 'k' bytes from 'lo' to 'hi', in either direction: what is answered, and what the direction holds then. -/
def DSt.num (k lo hi u : Nat) : DSt → Nat × DSt
  | .wr b bad => if u < 256 ^ k ∧ lo ≤ u ∧ u ≤ hi then (u, .wr (b ++ dig k u) bad) else (0, .wr b true)
  | .rd l i err bad => if lo ≤ uVal l i err k ∧ uVal l i err k ≤ hi then (uVal l i err k, .rd l (uPos l i err k) (uErr l i err k) bad) else (0, .rd l (uPos l i err k) (uErr l i err k) true)
def DSt.len : DSt → Nat
  | .wr b _ => b.length
  | .rd .. => 0
theorem DSt.len_num (σ : DSt) (k lo hi u : Nat) (hk : k ≤ 8) : (σ.num k lo hi u).2.len ≤ σ.len + 8 := by
  cases σ with
  | wr b bad => simp only [DSt.num]; split <;> simp [DSt.len, dig_length] <;> omega
  | rd l i err bad => simp only [DSt.num]; split <;> simp [DSt.len]

/-- A direction as it lies in memory: a pointer of type 'T' to block 'p'; blocks 'S' turn when it is used, all from 'B' on. -/
def Dir (w : World) (B : Nat) (S : List Nat) (T : TypeId) (p : Nat) : DSt → Prop
  | .wr b bad => T = 92 ∧ S = [p] ∧ B ≤ p ∧ ∃ A c, Blk w p 94 [.slice A b.length c, .bool bad] ∧ Acc w B A c b
  | .rd l i err bad => T = 109 ∧ ∃ r g, S = [p, r] ∧ B ≤ p ∧ B ≤ r ∧ Blk w p 111 [.pointer (some ⟨r, 0, none⟩), .bool bad] ∧ Rdr w r g l i err

/-- A block of this type. -/
def Typ (w : World) (q : Nat) (T : TypeId) : Prop := ∃ cs f, w.heap[q]? = some (.cells cs T f)
theorem Blk.typ {w : World} {q : Nat} {T : TypeId} {vs : List Value} (h : Blk w q T vs) : Typ w q T := ⟨_, _, h⟩
theorem typ_ne {w : World} {q r : Nat} {T U : TypeId} (h : Typ w q T) (k : Typ w r U) (hne : T ≠ U) : q ≠ r := by
  rintro rfl
  obtain ⟨_, _, h⟩ := h
  obtain ⟨_, _, k⟩ := k
  rw [h] at k
  injection k with k
  injection k with _ k _
  exact hne k
theorem Rdr.typ {w : World} {r g i : Nat} {l : List UInt8} {err : Int} (h : Rdr w r g l i err) : Typ w r 105 := ⟨_, _, h.1⟩
theorem Rdr.typ2 {w : World} {r g i : Nat} {l : List UInt8} {err : Int} (h : Rdr w r g l i err) : Typ w g 5 := ⟨_, _, h.2.1⟩
theorem Acc.typ {w : World} {B c k : Nat} {A : Option Addr} {b : List UInt8} (h : Acc w B A c b) (hk : blk A = Option.some k) : Typ w k 5 := by
  rcases h.2 with ⟨hv, _⟩ | ⟨g, cap, cur, hv, _, hrow, _⟩
  · injection hv with e1
    subst e1
    cases hk
  · injection hv with e1
    subst e1
    injection hk with hk
    subst hk
    exact ⟨_, _, hrow⟩

/-- A block of another type that turns leaves a direction as it is. -/
theorem Dir.turn1 {w w' : World} {B p q : Nat} {S : List Nat} {T U : TypeId} {σ : DSt} (h : Dir w B S T p σ) (ht : Typ w q U) (hU : U ≠ 5 ∧ U ≠ 94 ∧ U ≠ 111 ∧ U ≠ 105) (hg : w.grownBy w' (some q)) : Dir w' B S T p σ := by
  have blk1 : ∀ k, k < w.heap.size → k ≠ q → w'.heap[k]? = w.heap[k]? := fun k hk hne => hg.block k hk (fun e => hne (by injection e))
  cases σ with
  | wr b bad =>
    obtain ⟨h1, h2, h3, A, c, h4, h5⟩ := h
    refine ⟨h1, h2, h3, A, c, h4.same (blk1 _ h4.lt (typ_ne h4.typ ht (Ne.symm hU.2.1))), h5.kept hg ?_⟩
    cases hb : blk A with
    | none => exact .inl rfl
    | some k => exact .inr (fun e => typ_ne (h5.typ hb) ht (Ne.symm hU.1) (by injection e))
  | rd l i err bad =>
    obtain ⟨h1, r, g, h2, h3, h4, h5, h6⟩ := h
    exact ⟨h1, r, g, h2, h3, h4, h5.same (blk1 _ h5.lt (typ_ne h5.typ ht (Ne.symm hU.2.2.1))), h6.same (blk1 _ h6.lt (typ_ne h6.typ ht (Ne.symm hU.2.2.2))) (blk1 _ h6.2.1.lt (typ_ne h6.typ2 ht (Ne.symm hU.1)))⟩
/-- New memory leaves a direction as it is. -/
theorem Dir.bel {w w' : World} {B p : Nat} {S : List Nat} {T : TypeId} {σ : DSt} (h : Dir w B S T p σ) (hb : Below w.heap.size w w') : Dir w' B S T p σ := by
  cases σ with
  | wr b bad =>
    obtain ⟨h1, h2, h3, A, c, h4, h5⟩ := h
    exact ⟨h1, h2, h3, A, c, h4.below hb, h5.bel hb⟩
  | rd l i err bad =>
    obtain ⟨h1, r, g, h2, h3, h4, h5, h6⟩ := h
    exact ⟨h1, r, g, h2, h3, h4, h5.below hb, h6.bel hb⟩
theorem Dir.drewN {w : World} {B p : Nat} {S : List Nat} {T : TypeId} {σ : DSt} (h : Dir w B S T p σ) (n : Nat) : Dir (w.drewN n) B S T p σ := by
  cases σ <;> exact h
theorem Dir.from {w : World} {B p : Nat} {S : List Nat} {T : TypeId} {σ : DSt} (h : Dir w B S T p σ) : ∀ k ∈ S, B ≤ k := by
  cases σ with
  | wr b bad => obtain ⟨_, rfl, h3, _⟩ := h; simpa using h3
  | rd l i err bad => obtain ⟨_, r, g, rfl, h3, h4, _⟩ := h; simpa using ⟨h3, h4⟩
theorem Dir.lt {w : World} {B p : Nat} {S : List Nat} {T : TypeId} {σ : DSt} (h : Dir w B S T p σ) : ∀ k ∈ S, k < w.heap.size := by
  cases σ with
  | wr b bad => obtain ⟨_, rfl, _, _, _, h4, _⟩ := h; simpa using h4.lt
  | rd l i err bad => obtain ⟨_, r, g, rfl, _, _, h5, h6⟩ := h; simpa using ⟨h5.lt, h6.lt⟩

/-- What number answers. -/
def NumPost (w : World) (B : Nat) (S : List Nat) (T : TypeId) (p : Nat) (σ : DSt) (k lo hi u : Nat) (e : Ending) (w' : World) : Prop :=
  e = .returned (.int .u64 (((σ.num k lo hi u).1 : Nat) : Int)) ∧ Dir w' B S T p (σ.num k lo hi u).2 ∧ Turn S w w'
end Go.Proofs.Ythmgpffpiggomaa

namespace Go.Proofs.Ythmgpffpiggomaa
open Go.RowKit

section
variable {w : World} {B p : Nat} {S : List Nat} {T : TypeId}

theorem bad_post {w1 : World} {b : List UInt8} {bad : Bool} {A : Option Addr} {c k lo hi u : Nat} (hn : (DSt.wr b bad).num k lo hi u = (0, .wr b true)) (hp : B ≤ p) (hb : Blk w1 p 94 [.slice A b.length c, .bool bad]) (ha : Acc w1 B A c b) (hbel : Below w.heap.size w w1) :
    NumPost w B [p] 92 p (.wr b bad) k lo hi u (.returned (.int .u64 0)) (w1.setCell ⟨p, 1, none⟩ (.bool true)) := by
  refine ⟨by rw [hn]; rfl, ?_, (Turn.of_below hbel).trans (Turn.of_grown (upd_set_p _ _ _ _) (List.mem_singleton.2 rfl))⟩
  rw [hn]
  refine ⟨rfl, rfl, hp, A, c, hb.set 1 _, ha.kept (upd_set_p _ _ _ _) ?_⟩
  cases hk : blk A with
  | none => exact .inl rfl
  | some k => exact .inr (fun e => typ_ne (ha.typ hk) hb.typ (by decide) (by injection e))

set_option maxHeartbeats 800000 in
theorem wnum_calls {b : List UInt8} {bad : Bool} (h : Dir w B S T p (.wr b bad)) (k lo hi u : Nat) (x0 x1 x2 x3 : Int) (e0 : x0 = (k : Int)) (e1 : x1 = (lo : Int)) (e2 : x2 = (hi : Int)) (e3 : x3 = (u : Int)) (h1 : 1 ≤ k) (h8 : k ≤ 8) (hl : b.length ≤ 1099511627776) (hB : B ≤ w.heap.size) :
    Calls Try.prog 114 #[.pointer (some ⟨p, 0, none⟩), .int .i64 x0, .int .u64 x1, .int .u64 x2, .int .u64 x3] w (NumPost w B S T p (.wr b bad) k lo hi u) := by
  subst e0 e1 e2 e3
  obtain ⟨rfl, rfl, hp, A, c, hb, ha⟩ := h
  have c0 := hb.cell 0
  have c1 := hb.cell 1
  have f0 := hb.free 0
  have f1 := hb.free 1
  simp only [List.getElem?_cons_zero, List.getElem?_cons_succ] at c0 c1
  have HP := Lib.hid hp
  have HB := Lib.hid hb
  have HA := Lib.hid ha
  have HBB := Lib.hid hB
  by_cases hbig : u < 256 ^ k
  · have hbt := ha.bts
    have hp' := put_ok A b.length c b k u w hbt (by omega) h1 h8 hbig
    by_cases hlo : u < lo
    · have HN := Lib.hid (show (DSt.wr b bad).num k lo hi u = (0, .wr b true) by simp only [DSt.num]; rw [if_neg (by omega)])
      clear hb ha hbt hbig hp hB
      have i1 : (u : Int) < (lo : Int) := by omega
      go_enter Try.func114, Try.ntmps114
      go_wp2_with fail
      ((with_reducible refine hp'.mono ?_))
      rintro e w1 ⟨rfl, h2, h3⟩
      have hb1 := HB.out.below h3
      have H3 := Lib.hid h3
      have HB1 := Lib.hid hb1
      have HA1 := Lib.hid (HA.out.bel h3)
      have f1' := hb1.free 1
      have c1' := hb1.cell 1
      simp only [List.getElem?_cons_zero, List.getElem?_cons_succ] at c1'
      clear h2 h3 hb1 c0 c1 f0 f1 hp'
      go_wp2
      go_ret
      exact bad_post HN.out HP.out HB1.out HA1.out H3.out
    · by_cases hhi : hi < u
      · have HN := Lib.hid (show (DSt.wr b bad).num k lo hi u = (0, .wr b true) by simp only [DSt.num]; rw [if_neg (by omega)])
        clear hb ha hbt hbig hp hB
        have i1 : ¬ (u : Int) < (lo : Int) := by omega
        have i2 : (hi : Int) < (u : Int) := by omega
        go_enter Try.func114, Try.ntmps114
        go_wp2_with fail
        ((with_reducible refine hp'.mono ?_))
        rintro e w1 ⟨rfl, h2, h3⟩
        have hb1 := HB.out.below h3
        have H3 := Lib.hid h3
        have HB1 := Lib.hid hb1
        have HA1 := Lib.hid (HA.out.bel h3)
        have f1' := hb1.free 1
        have c1' := hb1.cell 1
        simp only [List.getElem?_cons_zero, List.getElem?_cons_succ] at c1'
        clear h2 h3 hb1 c0 c1 f0 f1 hp'
        go_wp2
        go_ret
        exact bad_post HN.out HP.out HB1.out HA1.out H3.out
      · have HN := Lib.hid (show (DSt.wr b bad).num k lo hi u = (u, .wr (b ++ dig k u) bad) by simp only [DSt.num]; rw [if_pos ⟨hbig, by omega, by omega⟩])
        clear hb ha hbt hbig hp hB
        have i1 : ¬ (u : Int) < (lo : Int) := by omega
        have i2 : ¬ (hi : Int) < (u : Int) := by omega
        go_enter Try.func114, Try.ntmps114
        go_wp2_with fail
        ((with_reducible refine hp'.mono ?_))
        rintro e w1 ⟨rfl, h2, h3⟩
        have hb1 := HB.out.below h3
        have H2 := Lib.hid h2
        have H3 := Lib.hid h3
        have HB1 := Lib.hid hb1
        have f0' := hb1.free 0
        have c0' := hb1.cell 0
        simp only [List.getElem?_cons_zero] at c0'
        clear h2 h3 hb1 c0 c1 f0 f1 hp'
        go_wp2
        go_ret
        have hset := HB1.out.set 0 (.slice (some ⟨w.heap.size, 0, none⟩) (b.length + k) (b.length + k))
        have hne : p ≠ w.heap.size := Nat.ne_of_lt HB.out.lt
        have hl2 : (b ++ dig k u).length = b.length + k := by simp [dig_length]
        refine ⟨by rw [HN.out]; rfl, ?_, ?_⟩
        · rw [HN.out]
          refine ⟨rfl, rfl, HP.out, some ⟨w.heap.size, 0, none⟩, b.length + k, ?_, ?_⟩
          · rw [hl2]; exact hset
          · have hacc := (H2.out.same (Below.heap_setCell w1 ⟨p, 0, none⟩ (.slice (some ⟨w.heap.size, 0, none⟩) (b.length + k) (b.length + k)) _ (Ne.symm hne))).acc HBB.out (by rw [hl2]; omega)
            rw [hl2] at hacc
            exact hacc
        · exact (Turn.of_below H3.out).trans (Turn.of_grown (upd_set_p _ _ _ _) (List.mem_singleton.2 rfl))
  · have HN := Lib.hid (show (DSt.wr b bad).num k lo hi u = (0, .wr b true) by simp only [DSt.num]; rw [if_neg (by omega)])
    have hp' := put_big A b.length c k u w h1 h8 (by omega)
    clear hb ha hbig hp hB
    go_enter Try.func114, Try.ntmps114
    go_wp2_with fail
    ((with_reducible refine hp'.mono ?_))
    rintro e w1 ⟨rfl, rfl⟩
    clear hp'
    go_wp2
    go_ret
    exact bad_post HN.out HP.out HB.out HA.out (Below.refl _ _)

set_option maxHeartbeats 800000 in
theorem rnum_calls {l : List UInt8} {i : Nat} {err : Int} {bad : Bool} (h : Dir w B S T p (.rd l i err bad)) (k lo hi u : Nat) (x0 x1 x2 x3 : Int) (e0 : x0 = (k : Int)) (e1 : x1 = (lo : Int)) (e2 : x2 = (hi : Int)) :
    Calls Try.prog 116 #[.pointer (some ⟨p, 0, none⟩), .int .i64 x0, .int .u64 x1, .int .u64 x2, .int .u64 x3] w (NumPost w B S T p (.rd l i err bad) k lo hi u) := by
  subst e0 e1 e2
  obtain ⟨rfl, r, g, rfl, hp, hr, hb, hrd⟩ := h
  have c0 := hb.cell 0
  simp only [List.getElem?_cons_zero] at c0
  have hu := uint_any hrd (k : Int)
  have HP := Lib.hid hp
  have HR := Lib.hid hr
  have HB := Lib.hid hb
  have hpr : p ≠ r := typ_ne hb.typ hrd.typ (by decide)
  have hpg : p ≠ g := typ_ne hb.typ hrd.typ2 (by decide)
  have HNE := Lib.hid hpr
  have HNG := Lib.hid hpg
  clear hb hrd hp hr hpr hpg
  have hbad : ∀ w1, Rdr w1 r g l (uPos l i err k) (uErr l i err k) → w.grownBy w1 (some r) → ¬ (lo ≤ uVal l i err k ∧ uVal l i err k ≤ hi) →
      NumPost w B [p, r] 109 p (.rd l i err bad) k lo hi u (.returned (.int .u64 0)) (w1.setCell ⟨p, 1, none⟩ (.bool true)) := by
    intro w1 hr1 hg1 hne
    have hb1 : Blk w1 p 111 [.pointer (some ⟨r, 0, none⟩), .bool bad] := HB.out.same (hg1.block _ HB.out.lt (fun e => HNE.out (by injection e)))
    have hn : (DSt.rd l i err bad).num k lo hi u = (0, .rd l (uPos l i err k) (uErr l i err k) true) := by simp only [DSt.num]; rw [if_neg hne]
    refine ⟨by rw [hn]; rfl, ?_, (Turn.of_grown hg1 (by simp)).trans (Turn.of_grown (upd_set_p _ _ _ _) (by simp))⟩
    rw [hn]
    exact ⟨rfl, r, g, rfl, HP.out, HR.out, hb1.set 1 _, hr1.same (Below.heap_setCell _ _ _ _ (Ne.symm HNE.out)) (Below.heap_setCell _ _ _ _ (Ne.symm HNG.out))⟩
  have HBAD := Lib.hid hbad
  clear hbad
  go_enter Try.func116, Try.ntmps116
  go_wp2_with fail
  ((with_reducible refine hu.mono ?_))
  rintro e w1 ⟨rfl, h2, h3⟩
  have hb1 : Blk w1 p 111 [.pointer (some ⟨r, 0, none⟩), .bool bad] := HB.out.same (h3.block _ HB.out.lt (fun e => HNE.out (by injection e)))
  have f1' := hb1.free 1
  have c1' := hb1.cell 1
  simp only [List.getElem?_cons_zero, List.getElem?_cons_succ] at c1'
  have H2 := Lib.hid h2
  have H3 := Lib.hid h3
  have HB1 := Lib.hid hb1
  have HV := Lib.hid (Eq.refl (uVal l i err k))
  clear h2 h3 hb1 c0 hu
  generalize hv : uVal l i err k = v at *
  have HVV := Lib.hid hv
  clear hv
  by_cases hlo : v < lo
  · have i1 : (v : Int) < (lo : Int) := by omega
    go_wp2
    go_ret
    exact HBAD.out _ H2.out H3.out (by omega)
  · by_cases hhi : hi < v
    · have i1 : ¬ (v : Int) < (lo : Int) := by omega
      have i2 : (hi : Int) < (v : Int) := by omega
      go_wp2
      go_ret
      exact HBAD.out _ H2.out H3.out (by omega)
    · have i1 : ¬ (v : Int) < (lo : Int) := by omega
      have i2 : ¬ (hi : Int) < (v : Int) := by omega
      go_wp2
      go_ret
      have hn : (DSt.rd l i err bad).num k lo hi u = (v, .rd l (uPos l i err k) (uErr l i err k) bad) := by simp only [DSt.num]; rw [HVV.out, if_pos (by omega)]
      refine ⟨by rw [hn]; rfl, ?_, Turn.of_grown H3.out (by simp)⟩
      rw [hn]
      exact ⟨rfl, r, g, rfl, HP.out, HR.out, HB1.out, H2.out⟩

/-- How many parts follow. -/
def DSt.cnt (size n : Nat) : DSt → Nat
  | .wr .. => n
  | .rd l i _ _ => (l.length - i) / size
theorem wcnt_calls (n size : Int) (w : World) (v : Value) :
    Calls Try.prog 113 #[v, .int .i64 size, .int .i64 n] w fun e w' => e = .returned (.int .i64 n) ∧ w = w' := by
  go_enter Try.func113, Try.ntmps113
  go_wp2
  go_ret
  exact ⟨rfl, rfl⟩
theorem rcnt_calls {l : List UInt8} {i : Nat} {err : Int} {bad : Bool} (h : Dir w B S T p (.rd l i err bad)) (n : Int) :
    Calls Try.prog 115 #[.pointer (some ⟨p, 0, none⟩), .int .i64 8, .int .i64 n] w fun e w' => e = .returned (.int .i64 (((l.length - i) / 8 : Nat) : Int)) ∧ ∃ m, w' = w.drewN m := by
  obtain ⟨rfl, r, g, rfl, hp, hr, hb, hrd⟩ := h
  have c0 := hb.cell 0
  simp only [List.getElem?_cons_zero] at c0
  have hle := left_calls hrd
  have hi := hrd.2.2.1
  have hl := hrd.2.2.2
  clear hb hrd hp hr
  go_enter Try.func115, Try.ntmps115
  go_wp2_with fail
  ((with_reducible refine hle.mono ?_))
  rintro e w1 ⟨rfl, m, rfl⟩
  clear hle c0
  obtain ⟨d, hd⟩ : ∃ d : Nat, l.length = i + d := ⟨l.length - i, by omega⟩
  have e1 : (l.length : Int) - (i : Int) = (d : Int) := by omega
  rw [e1]
  have e2 := Lib.hid (show l.length - i = d by omega)
  have e3 : (d : Int).tdiv 8 = ((d / 8 : Nat) : Int) := by rw [Int.tdiv_eq_ediv_of_nonneg (by omega)]; omega
  clear e1 hi
  go_wp2
  go_ret
  refine ⟨?_, m, rfl⟩
  rw [e2.out]
  rfl
end
end Go.Proofs.Ythmgpffpiggomaa

namespace Go.Proofs.Ythmgpffpiggomaa
open Go.RowKit

theorem meth_wn (n : Nat) (a : Addr) (w : World) : (method (n + 1) 92 (.pointer (some a)) "viaduct/body.number").run Try.prog w = .ok (114, .pointer (some a)) w := by kernel_rfl
theorem meth_rn (n : Nat) (a : Addr) (w : World) : (method (n + 1) 109 (.pointer (some a)) "viaduct/body.number").run Try.prog w = .ok (116, .pointer (some a)) w := by kernel_rfl
theorem meth_wc (n : Nat) (a : Addr) (w : World) : (method (n + 1) 92 (.pointer (some a)) "viaduct/body.count").run Try.prog w = .ok (113, .pointer (some a)) w := by kernel_rfl
theorem meth_rc (n : Nat) (a : Addr) (w : World) : (method (n + 1) 109 (.pointer (some a)) "viaduct/body.count").run Try.prog w = .ok (115, .pointer (some a)) w := by kernel_rfl

section
variable {w : World} {B p : Nat} {S : List Nat} {T : TypeId} {σ : DSt}

/-- A direction as a value: an interface value that holds a pointer. -/
def dv (T : TypeId) (p : Nat) : Value := .iface T (.pointer (some ⟨p, 0, none⟩))

/-- A number that can't be another one. -/
def DSt.alw (k u : Nat) (σ : DSt) : DSt := (σ.num k u u u).2
/-- What a call hands on when it answers nothing. -/
def AlwPost (w : World) (B : Nat) (S : List Nat) (T : TypeId) (p : Nat) (σ : DSt) (k u : Nat) (e : Ending) (w' : World) : Prop :=
  e = .returned (.tuple #[]) ∧ Dir w' B S T p (σ.alw k u) ∧ Turn S w w'

set_option maxRecDepth 100000 in
theorem always_calls (h : Dir w B S T p σ) (k u : Nat) (x0 x1 : Int) (e0 : x0 = (k : Int)) (e1 : x1 = (u : Int)) (h1 : 1 ≤ k) (h8 : k ≤ 8) (hl : σ.len ≤ 1099511627776) (hB : B ≤ w.heap.size) :
    Calls Try.prog 89 #[dv T p, .int .i64 x0, .int .u64 x1] w (AlwPost w B S T p σ k u) := by
  cases σ with
  | wr b bad =>
    have hc := wnum_calls h k u u u x0 x1 x1 x1 e0 e1 e1 e1 h1 h8 hl hB
    obtain ⟨rfl, _⟩ := h
    unfold dv
    have hm := meth_wn
    clear hl e0 e1
    go_enter Try.func89, Try.ntmps89
    go_wp2_with fail
    ((with_reducible refine hc.mono ?_))
    rintro e w1 ⟨rfl, h2, h3⟩
    clear hm hc
    go_wp2
    go_end0
    exact ⟨rfl, h2, h3⟩
  | rd l i err bad =>
    have hc := rnum_calls h k u u u x0 x1 x1 x1 e0 e1 e1
    obtain ⟨rfl, _⟩ := h
    unfold dv
    have hm := meth_rn
    clear hl e0 e1
    go_enter Try.func89, Try.ntmps89
    go_wp2_with fail
    ((with_reducible refine hc.mono ?_))
    rintro e w1 ⟨rfl, h2, h3⟩
    clear hm hc
    go_wp2
    go_end0
    exact ⟨rfl, h2, h3⟩

/-- A number as one without sign. -/
def u64 (n : Int) : Nat := (n % 18446744073709551616).toNat
theorem u64_wrap (n : Int) : IntKind.u64.wrap n = (u64 n : Int) := by rw [IntKind.wrap_u64]; unfold u64; omega
theorem DSt.num_le (σ : DSt) (k lo hi u : Nat) : (σ.num k lo hi u).1 ≤ hi := by
  cases σ with
  | wr b bad => simp only [DSt.num]; split <;> simp_all
  | rd l i err bad => simp only [DSt.num]; split <;> simp_all
/-- A number from 0 to 'hi'. -/
def DSt.upto (k hi : Nat) (n : Int) (σ : DSt) : Nat × DSt := σ.num k 0 hi (u64 n)
def DSt.small (n : Int) (σ : DSt) : Nat × DSt := σ.upto 2 65535 n
def DSt.node (n : Int) (σ : DSt) : Nat × DSt := (σ.alw 3 655360).upto 1 15 n
def DSt.grp (g : Nat) (σ : DSt) : Nat × DSt := σ.num 4 0 4294967295 g
/-- What a call hands on when it answers a number. -/
def IntPost (w : World) (B : Nat) (S : List Nat) (T : TypeId) (p : Nat) (r : Nat × DSt) (e : Ending) (w' : World) : Prop :=
  e = .returned (.int .i64 ((r.1 : Nat) : Int)) ∧ Dir w' B S T p r.2 ∧ Turn S w w'

set_option maxRecDepth 100000 in
theorem upTo_calls (h : Dir w B S T p σ) (k hi : Nat) (n x0 x1 : Int) (e0 : x0 = (k : Int)) (e1 : x1 = (hi : Int)) (h1 : 1 ≤ k) (h8 : k ≤ 8) (hh : hi < 9223372036854775808) (hl : σ.len ≤ 1099511627776) (hB : B ≤ w.heap.size) :
    Calls Try.prog 91 #[dv T p, .int .i64 x0, .int .i64 x1, .int .i64 n] w (IntPost w B S T p (σ.upto k hi n)) := by
  have hle := Lib.hid (σ.num_le k 0 hi (u64 n))
  have q1 := u64_wrap n
  have q2 : IntKind.u64.wrap x1 = (hi : Int) := by rw [e1, u64_wrap]; unfold u64; omega
  cases σ with
  | wr b bad =>
    have hc := wnum_calls h k 0 hi (u64 n) x0 0 hi (u64 n) e0 rfl rfl rfl h1 h8 hl hB
    obtain ⟨rfl, _⟩ := h
    unfold dv
    have hm := meth_wn
    clear hl e0 e1
    go_enter Try.func91, Try.ntmps91
    go_wp2_with fail
    ((with_reducible refine hc.mono ?_))
    rintro e w1 ⟨rfl, h2, h3⟩
    clear hm hc
    have h9 := hle.out
    generalize hr : DSt.num k 0 hi (u64 n) _ = r at h2 h9 ⊢
    have HR := Lib.hid hr
    clear hr hle
    have q3 : IntKind.i64.wrap (r.1 : Int) = (r.1 : Int) := by rw [IntKind.wrap_i64]; omega
    go_wp2
    go_ret
    unfold DSt.upto
    rw [HR.out]
    exact ⟨rfl, h2, h3⟩
  | rd l i err bad =>
    have hc := rnum_calls h k 0 hi (u64 n) x0 0 hi (u64 n) e0 rfl rfl
    obtain ⟨rfl, _⟩ := h
    unfold dv
    have hm := meth_rn
    clear hl e0 e1
    go_enter Try.func91, Try.ntmps91
    go_wp2_with fail
    ((with_reducible refine hc.mono ?_))
    rintro e w1 ⟨rfl, h2, h3⟩
    clear hm hc
    have h9 := hle.out
    generalize hr : DSt.num k 0 hi (u64 n) _ = r at h2 h9 ⊢
    have HR := Lib.hid hr
    clear hr hle
    have q3 : IntKind.i64.wrap (r.1 : Int) = (r.1 : Int) := by rw [IntKind.wrap_i64]; omega
    go_wp2
    go_ret
    unfold DSt.upto
    rw [HR.out]
    exact ⟨rfl, h2, h3⟩

theorem small_calls (h : Dir w B S T p σ) (n : Int) (hl : σ.len ≤ 1099511627776) (hB : B ≤ w.heap.size) :
    Calls Try.prog 90 #[dv T p, .int .i64 n] w (IntPost w B S T p (σ.small n)) := by
  have hc := upTo_calls h 2 65535 n 2 65535 rfl rfl (by omega) (by omega) (by omega) hl hB
  clear h
  unfold dv at *
  go_enter Try.func90, Try.ntmps90
  go_wp2_with fail
  ((with_reducible refine hc.mono ?_))
  rintro e w1 ⟨rfl, h2, h3⟩
  clear hc
  go_wp2
  go_ret
  exact ⟨rfl, h2, h3⟩

theorem DSt.len_alw (σ : DSt) (k u : Nat) (hk : k ≤ 8) : (σ.alw k u).len ≤ σ.len + 8 := σ.len_num k u u u hk
theorem node_calls (h : Dir w B S T p σ) (n : Int) (hl : σ.len ≤ 1099511627768) (hB : B ≤ w.heap.size) :
    Calls Try.prog 88 #[dv T p, .int .i64 n] w (IntPost w B S T p (σ.node n)) := by
  have hc := always_calls h 3 655360 3 655360 rfl rfl (by omega) (by omega) (by omega) hB
  have hlen := Lib.hid (σ.len_alw 3 655360 (by omega))
  clear h
  unfold dv at hc ⊢
  go_enter Try.func88, Try.ntmps88
  go_wp2_with fail
  ((with_reducible refine hc.mono ?_))
  rintro e w1 ⟨rfl, h2, h3⟩
  clear hc
  have hc2 := upTo_calls h2 1 15 n 1 15 rfl rfl (by omega) (by omega) (by omega) (by have := hlen.out; omega) (Nat.le_trans hB h3.size)
  have H3 := Lib.hid h3
  clear h2 h3
  unfold dv at hc2
  go_wp2_with fail
  ((with_reducible refine hc2.mono ?_))
  rintro e w2 ⟨rfl, h4, h5⟩
  clear hc2
  go_wp2
  go_ret
  exact ⟨rfl, h4, H3.out.trans h5⟩

/-- What a call hands on when it answers groups. -/
def GrpPost (w : World) (B : Nat) (S : List Nat) (T : TypeId) (p : Nat) (r : Nat × DSt) (e : Ending) (w' : World) : Prop :=
  e = .returned (.int .u32 ((r.1 : Nat) : Int)) ∧ Dir w' B S T p r.2 ∧ Turn S w w'
set_option maxRecDepth 100000 in
theorem groups_calls (h : Dir w B S T p σ) (g : Nat) (hg : g < 4294967296) (hl : σ.len ≤ 1099511627776) (hB : B ≤ w.heap.size) :
    Calls Try.prog 97 #[dv T p, .int .u32 (g : Int)] w (GrpPost w B S T p (σ.grp g)) := by
  have hle := Lib.hid (σ.num_le 4 0 4294967295 g)
  have q1 : IntKind.u64.wrap (g : Int) = (g : Int) := by rw [u64_wrap]; unfold u64; omega
  cases σ with
  | wr b bad =>
    have hc := wnum_calls h 4 0 4294967295 g 4 0 4294967295 g rfl rfl rfl rfl (by omega) (by omega) hl hB
    obtain ⟨rfl, _⟩ := h
    unfold dv
    have hm := meth_wn
    clear hl
    go_enter Try.func97, Try.ntmps97
    go_wp2_with fail
    ((with_reducible refine hc.mono ?_))
    rintro e w1 ⟨rfl, h2, h3⟩
    clear hm hc
    have h9 := hle.out
    generalize hr : DSt.num 4 0 4294967295 g _ = r at h2 h9 ⊢
    have HR := Lib.hid hr
    clear hr hle
    have q3 : IntKind.u32.wrap (r.1 : Int) = (r.1 : Int) := by rw [IntKind.wrap_u32]; omega
    go_wp2
    go_ret
    unfold DSt.grp
    rw [HR.out]
    exact ⟨rfl, h2, h3⟩
  | rd l i err bad =>
    have hc := rnum_calls h 4 0 4294967295 g 4 0 4294967295 g rfl rfl rfl
    obtain ⟨rfl, _⟩ := h
    unfold dv
    have hm := meth_rn
    clear hl
    go_enter Try.func97, Try.ntmps97
    go_wp2_with fail
    ((with_reducible refine hc.mono ?_))
    rintro e w1 ⟨rfl, h2, h3⟩
    clear hm hc
    have h9 := hle.out
    generalize hr : DSt.num 4 0 4294967295 g _ = r at h2 h9 ⊢
    have HR := Lib.hid hr
    clear hr hle
    have q3 : IntKind.u32.wrap (r.1 : Int) = (r.1 : Int) := by rw [IntKind.wrap_u32]; omega
    go_wp2
    go_ret
    unfold DSt.grp
    rw [HR.out]
    exact ⟨rfl, h2, h3⟩
end
end Go.Proofs.Ythmgpffpiggomaa

namespace Go.Proofs.Ythmgpffpiggomaa
open Go.RowKit

/-- A call's variables beside a direction: what came in, what is answered (not yet), what is gathered. -/
structure Env (w W : World) (B : Nat) (S : List Nat) (T : TypeId) (p : Nat) (σ : DSt) (U : TypeId) (vs rs ys : List Value) : Prop where
  dir : Dir W B S T p σ
  box : Blk W w.heap.size U vs
  res : Blk W (w.heap.size + 1) U rs
  out : Blk W (w.heap.size + 2) U ys
  turn : Turn S w W
  low : ∀ k ∈ S, k < w.heap.size
  base : B ≤ w.heap.size

section
variable {w W W' : World} {B p : Nat} {S : List Nat} {T U : TypeId} {σ σ' : DSt} {vs rs ys : List Value}
theorem Env.call (h : Env w W B S T p σ U vs rs ys) (hd : Dir W' B S T p σ') (ht : Turn S W W') : Env w W' B S T p σ' U vs rs ys := by
  have hs := h.turn.size
  have no : ∀ k, w.heap.size ≤ k → k ∉ S := fun k hk hm => by have := h.low k hm; omega
  exact ⟨hd, h.box.same (ht.block _ h.box.lt (no _ (by omega))), h.res.same (ht.block _ h.res.lt (no _ (by omega))), h.out.same (ht.block _ h.out.lt (no _ (by omega))), h.turn.trans ht, h.low, h.base⟩
theorem Env.put (h : Env w W B S T p σ U vs rs ys) (hU : U ≠ 5 ∧ U ≠ 94 ∧ U ≠ 111 ∧ U ≠ 105) (i : Nat) (v : Value) : Env w (W.setCell ⟨w.heap.size + 2, i, none⟩ v) B S T p σ U vs rs (ys.set i v) :=
  ⟨h.dir.turn1 h.out.typ hU (upd_set_p _ _ _ _), h.box.other (by simp) v, h.res.other (by simp) v, h.out.set i v,
    ⟨h.turn.os, h.turn.tape, h.turn.output, by simpa [World.setCell] using h.turn.size, fun k hk hm => (Below.heap_setCell _ _ _ _ (by simp; omega)).trans (h.turn.block k hk hm)⟩, h.low, h.base⟩
theorem Env.new (h : Dir w B S T p σ) (hB : B ≤ w.heap.size) (U : TypeId) (vs rs ys : List Value) : Env w (((w.alloc (.cells vs.toArray U)).alloc (.cells rs.toArray U)).alloc (.cells ys.toArray U)) B S T p σ U vs rs ys := by
  have b1 := bel_new (Below.refl w.heap.size w) (.cells vs.toArray U)
  have b2 := bel_new b1 (.cells rs.toArray U)
  have b3 := bel_new b2 (.cells ys.toArray U)
  have n2 := Blk.new (w.alloc (.cells vs.toArray U)) U rs
  have n3 := Blk.new ((w.alloc (.cells vs.toArray U)).alloc (.cells rs.toArray U)) U ys
  simp only [World.size_alloc] at n2 n3
  exact ⟨h.bel b3, ((Blk.new w U vs).alloc _).alloc _, n2.alloc _, n3, Turn.of_below b3, h.lt, hB⟩
theorem Env.fin (h : Env w W B S T p σ U vs rs ys) (hU : U ≠ 5 ∧ U ≠ 94 ∧ U ≠ 111 ∧ U ≠ 105) (hg : W.grownBy W' (some (w.heap.size + 1))) : Dir W' B S T p σ ∧ Turn S w W' :=
  ⟨h.dir.turn1 h.res.typ hU hg, hg.os.trans h.turn.os, hg.tape.trans h.turn.tape, hg.output.trans h.turn.output, Nat.le_trans h.turn.size hg.size, fun k hk hm => (hg.block k (Nat.lt_of_lt_of_le hk h.turn.size) (fun e => by injection e; omega)).trans (h.turn.block k hk hm)⟩
theorem Env.room (h : Env w W B S T p σ U vs rs ys) : B ≤ W.heap.size := Nat.le_trans h.base h.turn.size
end

/-- What is wanted, as plain numbers. -/
structure Wnt where
  bw : Nat
  setup : Int
  hold : Int
  any : Nat
  all : Nat
  non : Nat
def Wnt.cells (x : Wnt) : List Value := [.int .u64 (x.bw : Int), .int .i64 x.setup, .int .i64 x.hold, .int .u32 (x.any : Int), .int .u32 (x.all : Int), .int .u32 (x.non : Int)]
def Wnt.zero : Wnt := ⟨0, 0, 0, 0, 0, 0⟩
/-- What attributes answers, and what the direction holds then. -/
def DSt.attr (x : Wnt) (σ : DSt) : Wnt × DSt :=
  let n := σ.grp x.non
  let a := n.2.grp x.any
  let l := a.2.grp x.all
  let s := l.2.upto 1 7 x.setup
  let h := s.2.upto 1 7 x.hold
  (⟨0, s.1, h.1, a.1, l.1, n.1⟩, h.2.alw 2 0)

/-- What attributes answers. -/
def AttrPost (w : World) (B : Nat) (S : List Nat) (T : TypeId) (p : Nat) (r : Wnt × DSt) (e : Ending) (w' : World) : Prop :=
  e = .returned (.agg r.1.cells.toArray) ∧ Dir w' B S T p r.2 ∧ Turn S w w'

section
variable {w : World} {B p : Nat} {S : List Nat} {T : TypeId} {σ : DSt}
theorem DSt.len_grp (σ : DSt) (g : Nat) : (σ.grp g).2.len ≤ σ.len + 8 := σ.len_num _ _ _ _ (by omega)
theorem DSt.len_upto (σ : DSt) (k hi : Nat) (n : Int) (hk : k ≤ 8) : (σ.upto k hi n).2.len ≤ σ.len + 8 := σ.len_num _ _ _ _ hk

set_option maxRecDepth 100000 in
set_option maxHeartbeats 1000000 in
theorem attributes_calls (h : Dir w B S T p σ) (x : Wnt) (h1 : x.any < 4294967296) (h2 : x.all < 4294967296) (h3 : x.non < 4294967296) (hl : σ.len ≤ 1000000000) (hB : B ≤ w.heap.size) :
    Calls Try.prog 93 #[dv T p, .agg x.cells.toArray] w (AttrPost w B S T p (σ.attr x)) := by
  obtain ⟨bw, su, ho, an, al, no⟩ := x
  simp only at h1 h2 h3
  have E := Env.new h hB 27 [.int .u64 (bw : Int), .int .i64 su, .int .i64 ho, .int .u32 (an : Int), .int .u32 (al : Int), .int .u32 (no : Int)] [.int .u64 0, .int .i64 0, .int .i64 0, .int .u32 0, .int .u32 0, .int .u32 0] [.int .u64 0, .int .i64 0, .int .i64 0, .int .u32 0, .int .u32 0, .int .u32 0]
  have HE := Lib.hid E
  simp only [Wnt.cells]
  clear E h
  unfold dv
  go_enter Try.func93, Try.ntmps93
  go_upto_region 2 with fail
  revert HE
  generalize World.alloc (World.alloc (World.alloc w _) _) _ = W1
  intro HE
  obtain ⟨v1, s1, r1⟩ : ∃ v s, σ.grp no = (v, s) := ⟨_, _, rfl⟩
  have l1 : s1.len ≤ σ.len + 8 := by have hh := σ.len_grp no; rw [r1] at hh; exact hh
  have R1 := Lib.hid r1
  have c1 := HE.out.box.cell 5
  simp only [List.getElem?_cons_zero, List.getElem?_cons_succ] at c1
  have hc := groups_calls HE.out.dir no h3 (by omega) HE.out.room
  unfold dv at hc
  rw [r1] at hc
  clear r1
  go_wp2_with fail
  ((with_reducible refine hc.mono ?_))
  rintro e W2 ⟨rfl, hd, ht⟩
  have HF := Lib.hid (HE.out.call hd ht)
  have c2 := HF.out.out.cell 5
  have f2 := HF.out.out.free 5
  simp only [List.getElem?_cons_zero, List.getElem?_cons_succ] at c2
  clear c1 hc hd ht HE
  go_upto_region 3 with fail
  have HE := Lib.hid (HF.out.put (by decide) 5 (.int .u32 (v1 : Int)))
  simp only [List.set_cons_zero, List.set_cons_succ] at HE
  clear c2 f2 HF
  revert HE
  generalize World.setCell W2 _ _ = W1
  intro HE
  obtain ⟨v2, s2, r2⟩ : ∃ v s, s1.grp an = (v, s) := ⟨_, _, rfl⟩
  have l2 : s2.len ≤ s1.len + 8 := by have hh := s1.len_grp an; rw [r2] at hh; exact hh
  have R2 := Lib.hid r2
  have c1 := HE.out.box.cell 3
  simp only [List.getElem?_cons_zero, List.getElem?_cons_succ] at c1
  have hc := groups_calls HE.out.dir an h1 (by omega) HE.out.room
  unfold dv at hc
  rw [r2] at hc
  clear r2
  go_wp2_with fail
  ((with_reducible refine hc.mono ?_))
  rintro e W2 ⟨rfl, hd, ht⟩
  have HF := Lib.hid (HE.out.call hd ht)
  have c2 := HF.out.out.cell 3
  have f2 := HF.out.out.free 3
  simp only [List.getElem?_cons_zero, List.getElem?_cons_succ] at c2
  clear c1 hc hd ht HE
  go_upto_region 4 with fail
  have HE := Lib.hid (HF.out.put (by decide) 3 (.int .u32 (v2 : Int)))
  simp only [List.set_cons_zero, List.set_cons_succ] at HE
  clear c2 f2 HF
  revert HE
  generalize World.setCell W2 _ _ = W1
  intro HE
  obtain ⟨v3, s3, r3⟩ : ∃ v s, s2.grp al = (v, s) := ⟨_, _, rfl⟩
  have l3 : s3.len ≤ s2.len + 8 := by have hh := s2.len_grp al; rw [r3] at hh; exact hh
  have R3 := Lib.hid r3
  have c1 := HE.out.box.cell 4
  simp only [List.getElem?_cons_zero, List.getElem?_cons_succ] at c1
  have hc := groups_calls HE.out.dir al h2 (by omega) HE.out.room
  unfold dv at hc
  rw [r3] at hc
  clear r3
  go_wp2_with fail
  ((with_reducible refine hc.mono ?_))
  rintro e W2 ⟨rfl, hd, ht⟩
  have HF := Lib.hid (HE.out.call hd ht)
  have c2 := HF.out.out.cell 4
  have f2 := HF.out.out.free 4
  simp only [List.getElem?_cons_zero, List.getElem?_cons_succ] at c2
  clear c1 hc hd ht HE
  go_upto_region 5 with fail
  have HE := Lib.hid (HF.out.put (by decide) 4 (.int .u32 (v3 : Int)))
  simp only [List.set_cons_zero, List.set_cons_succ] at HE
  clear c2 f2 HF
  revert HE
  generalize World.setCell W2 _ _ = W1
  intro HE
  obtain ⟨v4, s4, r4⟩ : ∃ v s, s3.upto 1 7 su = (v, s) := ⟨_, _, rfl⟩
  have l4 : s4.len ≤ s3.len + 8 := by have hh := s3.len_upto 1 7 su (by omega); rw [r4] at hh; exact hh
  have R4 := Lib.hid r4
  have c1 := HE.out.box.cell 1
  simp only [List.getElem?_cons_zero, List.getElem?_cons_succ] at c1
  have hc := upTo_calls HE.out.dir 1 7 su 1 7 rfl rfl (by omega) (by omega) (by omega) (by omega) HE.out.room
  unfold dv at hc
  rw [r4] at hc
  clear r4
  go_wp2_with fail
  ((with_reducible refine hc.mono ?_))
  rintro e W2 ⟨rfl, hd, ht⟩
  have HF := Lib.hid (HE.out.call hd ht)
  have c2 := HF.out.out.cell 1
  have f2 := HF.out.out.free 1
  simp only [List.getElem?_cons_zero, List.getElem?_cons_succ] at c2
  clear c1 hc hd ht HE
  go_upto_region 6 with fail
  have HE := Lib.hid (HF.out.put (by decide) 1 (.int .i64 (v4 : Int)))
  simp only [List.set_cons_zero, List.set_cons_succ] at HE
  clear c2 f2 HF
  revert HE
  generalize World.setCell W2 _ _ = W1
  intro HE
  obtain ⟨v5, s5, r5⟩ : ∃ v s, s4.upto 1 7 ho = (v, s) := ⟨_, _, rfl⟩
  have l5 : s5.len ≤ s4.len + 8 := by have hh := s4.len_upto 1 7 ho (by omega); rw [r5] at hh; exact hh
  have R5 := Lib.hid r5
  have c1 := HE.out.box.cell 2
  simp only [List.getElem?_cons_zero, List.getElem?_cons_succ] at c1
  have hc := upTo_calls HE.out.dir 1 7 ho 1 7 rfl rfl (by omega) (by omega) (by omega) (by omega) HE.out.room
  unfold dv at hc
  rw [r5] at hc
  clear r5
  go_wp2_with fail
  ((with_reducible refine hc.mono ?_))
  rintro e W2 ⟨rfl, hd, ht⟩
  have HF := Lib.hid (HE.out.call hd ht)
  have c2 := HF.out.out.cell 2
  have f2 := HF.out.out.free 2
  simp only [List.getElem?_cons_zero, List.getElem?_cons_succ] at c2
  clear c1 hc hd ht HE
  go_upto_region 7 with fail
  have HE := Lib.hid (HF.out.put (by decide) 2 (.int .i64 (v5 : Int)))
  simp only [List.set_cons_zero, List.set_cons_succ] at HE
  clear c2 f2 HF
  revert HE
  generalize World.setCell W2 _ _ = W1
  intro HE
  have hc := always_calls HE.out.dir 2 0 2 0 rfl rfl (by omega) (by omega) (by omega) HE.out.room
  unfold dv at hc
  go_wp2_with fail
  ((with_reducible refine hc.mono ?_))
  rintro e W2 ⟨rfl, hd, ht⟩
  have HF := Lib.hid (HE.out.call hd ht)
  clear hc hd ht HE
  have a0 := HF.out.out.cell 0
  have a1 := HF.out.out.cell 1
  have a2 := HF.out.out.cell 2
  have a3 := HF.out.out.cell 3
  have a4 := HF.out.out.cell 4
  have a5 := HF.out.out.cell 5
  have b0 := HF.out.res.cell 0
  have b1 := HF.out.res.cell 1
  have b2 := HF.out.res.cell 2
  have b3 := HF.out.res.cell 3
  have b4 := HF.out.res.cell 4
  have b5 := HF.out.res.cell 5
  simp only [List.getElem?_cons_zero, List.getElem?_cons_succ] at a0 a1 a2 a3 a4 a5 b0 b1 b2 b3 b4 b5
  have g0 := HF.out.res.free 0
  have g1 := HF.out.res.free 1
  have g2 := HF.out.res.free 2
  have g3 := HF.out.res.free 3
  have g4 := HF.out.res.free 4
  have g5 := HF.out.res.free 5
  go_wp2
  clear a0 a1 a2 a3 a4 a5 b0 b1 b2 b3 b4 b5 g0 g1 g2 g3 g4 g5
  have HB := Lib.hid (show Blk _ (w.heap.size + 1) 27 [.int .u64 0, .int .i64 (v4 : Int), .int .i64 (v5 : Int), .int .u32 (v2 : Int), .int .u32 (v3 : Int), .int .u32 (v1 : Int)] from ((((((HF.out.res.set 0 (.int .u64 0)).set 1 (.int .i64 (v4 : Int))).set 2 (.int .i64 (v5 : Int))).set 3 (.int .u32 (v2 : Int))).set 4 (.int .u32 (v3 : Int))).set 5 (.int .u32 (v1 : Int))))
  have HG := Lib.hid (HF.out.fin (by decide) (upd_trans (upd_trans (upd_trans (upd_trans (upd_trans (upd_set_p W2 _ 0 (.int .u64 0)) (upd_set_p _ _ 1 (.int .i64 (v4 : Int)))) (upd_set_p _ _ 2 (.int .i64 (v5 : Int)))) (upd_set_p _ _ 3 (.int .u32 (v2 : Int)))) (upd_set_p _ _ 4 (.int .u32 (v3 : Int)))) (upd_set_p _ _ 5 (.int .u32 (v1 : Int)))))
  revert HB HG
  generalize World.setCell (World.setCell (World.setCell (World.setCell (World.setCell (World.setCell W2 _ _) _ _) _ _) _ _) _ _) _ _ = W3
  intro HB HG
  have y0 := HB.out.cell 0
  have y1 := HB.out.cell 1
  have y2 := HB.out.cell 2
  have y3 := HB.out.cell 3
  have y4 := HB.out.cell 4
  have y5 := HB.out.cell 5
  simp only [List.getElem?_cons_zero, List.getElem?_cons_succ] at y0 y1 y2 y3 y4 y5
  refine bodyPost_ret (v := .agg #[.int .u64 0, .int .i64 (v4 : Int), .int .i64 (v5 : Int), .int .u32 (v2 : Int), .int .u32 (v3 : Int), .int .u32 (v1 : Int)]) (by simp [results, Try.results93, go_sem, y0, y1, y2, y3, y4, y5]) rfl ?_
  have hr : σ.attr ⟨bw, su, ho, an, al, no⟩ = (⟨0, v4, v5, v2, v3, v1⟩, s5.alw 2 0) := by simp only [DSt.attr, R1.out, R2.out, R3.out, R4.out, R5.out]
  rw [hr]
  exact ⟨rfl, HG.out.1, HG.out.2⟩
end
end Go.Proofs.Ythmgpffpiggomaa

namespace Go.Proofs.Ythmgpffpiggomaa
open Go.RowKit

/-- One hop: what is answered, and what the direction holds then. -/
def DSt.hop (n : Int) (σ : DSt) : Nat × DSt :=
  let r := ((σ.alw 1 1).alw 1 8).node n
  (r.1, (r.2.alw 1 32).alw 1 0)
def DSt.hops : List Int → DSt → List Int × DSt
  | [], σ => ([], σ)
  | n :: l, σ => (((σ.hop n).1 : Int) :: ((σ.hop n).2.hops l).1, ((σ.hop n).2.hops l).2)
/-- So many numbers, from a list as far as it goes, then noughts. -/
def front (m : Nat) (l : List Int) : List Int := l.take m ++ List.replicate (m - l.length) 0
theorem front_length (m : Nat) (l : List Int) : (front m l).length = m := by simp [front]; omega
/-- How many hops there are. -/
def DSt.many (n : Nat) (σ : DSt) : Nat := min (σ.cnt 8 n) 16
theorem DSt.len_node (σ : DSt) (n : Int) : (σ.node n).2.len ≤ σ.len + 16 := by
  have h1 := σ.len_alw 3 655360 (by omega)
  have h2 := (σ.alw 3 655360).len_num 1 0 15 (u64 n) (by omega)
  unfold DSt.node DSt.upto
  omega
theorem DSt.len_hop (σ : DSt) (n : Int) : (σ.hop n).2.len ≤ σ.len + 48 := by
  have h1 := σ.len_alw 1 1 (by omega)
  have h2 := (σ.alw 1 1).len_alw 1 8 (by omega)
  have h3 := ((σ.alw 1 1).alw 1 8).len_node n
  have h4 := (((σ.alw 1 1).alw 1 8).node n).2.len_alw 1 32 (by omega)
  have h5 := ((((σ.alw 1 1).alw 1 8).node n).2.alw 1 32).len_alw 1 0 (by omega)
  unfold DSt.hop
  simp only
  omega

/-- What hops answers: numbers in memory of the call's own. -/
def HopsPost (w : World) (B : Nat) (S : List Nat) (T : TypeId) (p : Nat) (r : List Int × DSt) (e : Ending) (w' : World) : Prop :=
  ∃ g, e = .returned (.slice (some ⟨g, 0, none⟩) r.1.length r.1.length) ∧ w.heap.size ≤ g ∧ Blk w' g 3 (r.1.map (Value.int .i64)) ∧ Dir w' B S T p r.2 ∧ Turn S w w'

set_option maxRecDepth 100000 in
theorem make_ints (n : Nat) (hn : n ≤ 1099511627776) (W : World) : (Instr.makeSlice 28 (.int .i64 (n : Int)) (.int .i64 (n : Int))).run Try.prog W =
      .ok (.slice (some ⟨W.heap.size, 0, none⟩) n n) (W.alloc (.cells (Array.replicate n (Value.int .i64 0)) 3)) := by
  obtain ⟨i, hi, hzz⟩ := Option.map_eq_some_iff.1 infoInt
  simp only [Prod.mk.injEq] at hzz
  obtain ⟨hz, hs, hb⟩ := hzz
  have h := run_make (P := Try.prog) W 28 3 i (.int .i64 0) Try.underlying28 hi hz .i64 .i64 (n : Int) (n : Int) (by omega) (by omega) (by rw [hb]; omega) (by omega)
  simp only [hs, Nat.mul_one, Int.toNat_natCast] at h
  rw [h]
  have e : (Value.int .i64 0).cells = #[.int .i64 0] := rfl
  rw [e]
  congr 3
  apply Array.ext
  · simp [madeCells]
  · intro k h1 h2
    simp [madeCells, Nat.mod_one]

section
variable {w : World} {B p : Nat} {S : List Nat} {T : TypeId} {σ : DSt}

/-- The state of the loop: 'done' numbers were answered, 'todo' are to come. -/
structure HopAt (w W : World) (B : Nat) (S : List Nat) (T : TypeId) (p g : Nat) (σ : DSt) (st : List Int) (j : Nat) (dn td : List Int) (τ : DSt) : Prop where
  dir : Dir W B S T p τ
  out : Blk W g 3 ((dn ++ td).map (Value.int .i64))
  turn : Turn S w W
  ge : w.heap.size ≤ g
  all : dn.length = j
  res : σ.hops st = (dn ++ (τ.hops td).1, (τ.hops td).2)
  len : τ.len ≤ σ.len + 48 * j
  tot : dn.length + td.length = st.length

theorem HopAt.start {W : World} {g : Nat} {st : List Int} (hd : Dir W B S T p σ) (ho : Blk W g 3 (st.map (Value.int .i64))) (ht : Turn S w W) (hg : w.heap.size ≤ g) : HopAt w W B S T p g σ st 0 [] st σ :=
  ⟨hd, ho, ht, hg, rfl, rfl, by omega, by simp⟩

/-- A direction beside numbers of the call's own. -/
structure Trio (w W : World) (B : Nat) (S : List Nat) (T : TypeId) (p g : Nat) (xs : List Int) (τ : DSt) : Prop where
  dir : Dir W B S T p τ
  out : Blk W g 3 (xs.map (Value.int .i64))
  turn : Turn S w W
  ge : w.heap.size ≤ g
theorem Trio.call {W W' : World} {g : Nat} {xs : List Int} {τ τ' : DSt} (h : Trio w W B S T p g xs τ) (hl : ∀ k ∈ S, k < w.heap.size) (hd : Dir W' B S T p τ') (ht : Turn S W W') : Trio w W' B S T p g xs τ' :=
  ⟨hd, h.out.same (ht.block _ h.out.lt (fun hm => by have := hl _ hm; have := h.ge; omega)), h.turn.trans ht, h.ge⟩
theorem Trio.put {W : World} {g : Nat} {xs : List Int} {τ : DSt} (h : Trio w W B S T p g xs τ) (i : Nat) (x : Int) : Trio w (W.setCell ⟨g, i, none⟩ (.int .i64 x)) B S T p g (xs.set i x) τ :=
  ⟨h.dir.turn1 h.out.typ (by decide) (upd_set_p _ _ _ _), by rw [List.map_set]; exact h.out.set i _,
    ⟨h.turn.os, h.turn.tape, h.turn.output, by simpa [World.setCell] using h.turn.size, fun k hk hm => (Below.heap_setCell _ _ _ _ (by have := h.ge; simp; omega)).trans (h.turn.block k hk hm)⟩, h.ge⟩
theorem Trio.room {W : World} {g : Nat} {xs : List Int} {τ : DSt} (h : Trio w W B S T p g xs τ) (hB : B ≤ w.heap.size) : B ≤ W.heap.size := Nat.le_trans hB h.turn.size

theorem HopAt.call {W W' : World} {g j : Nat} {st dn td : List Int} {τ τ' : DSt} (h : HopAt w W B S T p g σ st j dn td τ) (hl : ∀ k ∈ S, k < w.heap.size) (hd : Dir W' B S T p τ') (ht : Turn S W W') : Dir W' B S T p τ' ∧ Blk W' g 3 ((dn ++ td).map (Value.int .i64)) ∧ Turn S w W' :=
  ⟨hd, h.out.same (ht.block _ h.out.lt (fun hm => by have := hl _ hm; have := h.ge; omega)), h.turn.trans ht⟩

/-- What is known once the slice is made. -/
def CutH (w : World) (B : Nat) (S : List Nat) (T : TypeId) (p : Nat) (σ : DSt) (a : Option Addr) (n : Nat) (l : List Int) (s : Value) (W : World) : Prop :=
  ∃ w1, W = w1.alloc (.cells (Array.replicate (σ.many n) (Value.int .i64 0)) 3) ∧ s = .slice (some ⟨w1.heap.size, 0, none⟩) (σ.many n) (σ.many n) ∧ Dir w1 B S T p σ ∧ Turn S w w1 ∧ Row ei w1 w1.heap.size a n l

set_option maxRecDepth 100000 in
set_option maxHeartbeats 1600000 in
theorem hops_calls (h : Dir w B S T p σ) (a : Option Addr) (n c : Nat) (l : List Int) (hl : Row ei w w.heap.size a n l) (hn : n ≤ maxLen) (hlen : σ.len ≤ 1000000000) (hB : B ≤ w.heap.size) :
    Calls Try.prog 92 #[dv T p, .slice a n c] w (HopsPost w B S T p (σ.hops (front (σ.many n) l))) := by
  have hm : σ.many n ≤ 16 := Nat.min_le_right _ _
  have HS := Lib.hid h.lt
  have HN := Lib.hid hl.1
  have HB := Lib.hid hB
  have HL := Lib.hid hl
  unfold maxLen at hn
  have key : ∀ w1 : World, Dir w1 B S T p σ → Turn S w w1 → Row ei w1 w1.heap.size a n l → ∃ W1, (Builtin.copy_ #[28, 28] 3 #[.slice (some ⟨w1.heap.size, 0, none⟩) (σ.many n) (σ.many n), .slice a n c]).run Try.prog (w1.alloc (.cells (Array.replicate (σ.many n) (Value.int .i64 0)) 3)) = .ok (.int .i64 ((min n (σ.many n) : Nat) : Int)) W1 ∧ HopAt w W1 B S T p w1.heap.size σ (front (σ.many n) l) 0 [] (front (σ.many n) l) σ := by
    intro w1 hd ht hr
    have hb := Blk.new w1 3 ((List.replicate (σ.many n) (0 : Int)).map (Value.int .i64))
    have hbel := bel_new (Below.refl w1.heap.size w1) (.cells (Array.replicate (σ.many n) (Value.int .i64 0)) 3)
    rw [show ((List.replicate (σ.many n) (0 : Int)).map (Value.int .i64)).toArray = Array.replicate (σ.many n) (Value.int .i64 0) by simp] at hb
    obtain ⟨W1, r1, b1, s1, g1⟩ := copy_ints (P := Try.prog) (c := c) (hr.below hbel) 28 28 3 3 Try.underlying28 (by kernel_rfl) w1.heap.size (σ.many n) (σ.many n) _ _ hb (by simp)
    refine ⟨W1, r1, HopAt.start ((hd.bel hbel).turn1 hb.typ (by decide) g1) ?_ ?_ ht.size⟩
    · have e : (front (σ.many n) l).map (Value.int .i64) = (l.take (σ.many n)).map (Value.int .i64) ++ ((List.replicate (σ.many n) (0 : Int)).map (Value.int .i64)).drop n := by
        rw [front, HN.out]; simp
      rw [e]; exact b1
    · have t1 := ht.trans (Turn.of_below hbel)
      exact ⟨g1.os.trans t1.os, g1.tape.trans t1.tape, g1.output.trans t1.output, Nat.le_trans t1.size g1.size, fun k hk hne => (g1.block k (Nat.lt_of_lt_of_le hk t1.size) (fun e => by injection e with e; have := ht.size; omega)).trans (t1.block k hk hne)⟩
  have KEY := Lib.hid key
  clear key hl hB
  have HD := Lib.hid h
  clear h
  unfold dv
  go_enter Try.func92, Try.ntmps92
  go_upto_region 1 with fail
  go_cut [5] (fun s W => CutH w B S T p σ a n l s W)
  case first =>
    have hmk := make_ints (σ.many n) (by omega)
    cases σ with
    | wr b bad =>
      obtain ⟨rfl, _⟩ := HD.out
      have hm1 := meth_wc
      have hc := wcnt_calls (n : Int) 8
      by_cases hx : n ≤ 16
      · have hmm : DSt.many n (.wr b bad) = n := Nat.min_eq_left hx
        have hx2 : (n : Int) ≤ 16 := by omega
        rw [hmm] at hmk
        have HM := Lib.hid hmm
        clear hmm
        go_wp2_with fail
        ((with_reducible refine (hc _ _).mono ?_))
        rintro e w1 ⟨rfl, rfl⟩
        go_wp2
        go_meet
        exact ⟨w, by rw [HM.out], by rw [HM.out], HD.out, Turn.refl _ _, HL.out⟩
      · have hmm : DSt.many n (.wr b bad) = 16 := Nat.min_eq_right (by simp only [DSt.cnt]; omega)
        have hx2 : (16 : Int) < n := by omega
        have hmk16 : ∀ W, (Instr.makeSlice 28 (.int .i64 16) (.int .i64 16)).run Try.prog W = .ok (.slice (some ⟨W.heap.size, 0, none⟩) 16 16) (W.alloc (.cells (Array.replicate 16 (Value.int .i64 0)) 3)) := make_ints 16 (by omega)
        clear hmk
        have HM := Lib.hid hmm
        clear hmm
        go_wp2_with fail
        ((with_reducible refine (hc _ _).mono ?_))
        rintro e w1 ⟨rfl, rfl⟩
        go_wp2
        go_meet
        exact ⟨w, by rw [HM.out], by rw [HM.out], HD.out, Turn.refl _ _, HL.out⟩
    | rd l2 i err bad =>
      have hm1 := meth_rc
      have hc := rcnt_calls HD.out (n : Int)
      obtain ⟨rfl, _⟩ := HD.out
      obtain ⟨N, hN⟩ : ∃ N, N = (l2.length - i) / 8 := ⟨_, rfl⟩
      rw [← hN] at hc
      by_cases hx : N ≤ 16
      · have hmm : DSt.many n (.rd l2 i err bad) = N := by rw [hN] at hx ⊢; exact Nat.min_eq_left hx
        have hx2 : (N : Int) ≤ 16 := by omega
        rw [hmm] at hmk
        have HM := Lib.hid hmm
        clear hmm hN
        go_wp2_with fail
        ((with_reducible refine hc.mono ?_))
        rintro e w1 ⟨rfl, k, rfl⟩
        go_wp2
        go_meet
        exact ⟨w.drewN k, by rw [HM.out], by rw [HM.out]; rfl, HD.out.drewN k, (Turn.refl _ _).drewN k, HL.out⟩
      · have hmm : DSt.many n (.rd l2 i err bad) = 16 := Nat.min_eq_right (by simp only [DSt.cnt]; omega)
        have hx2 : (16 : Int) < N := by omega
        have hmk16 : ∀ W, (Instr.makeSlice 28 (.int .i64 16) (.int .i64 16)).run Try.prog W = .ok (.slice (some ⟨W.heap.size, 0, none⟩) 16 16) (W.alloc (.cells (Array.replicate 16 (Value.int .i64 0)) 3)) := make_ints 16 (by omega)
        clear hmk
        have HM := Lib.hid hmm
        clear hmm hN
        go_wp2_with fail
        ((with_reducible refine hc.mono ?_))
        rintro e w1 ⟨rfl, k, rfl⟩
        go_wp2
        go_meet
        exact ⟨w.drewN k, by rw [HM.out], by rw [HM.out]; rfl, HD.out.drewN k, (Turn.refl _ _).drewN k, HL.out⟩
  case rest =>
    obtain ⟨w1, rfl, rfl, h1, h2, h3⟩ := hcut
    obtain ⟨W1, r1, H1⟩ := KEY.out w1 h1 h2 h3
    have HH := Lib.hid H1
    clear KEY HD H1 h1 h2 h3
    obtain ⟨m, hmm⟩ : ∃ m, m = σ.many n := ⟨_, rfl⟩
    rw [← hmm] at r1 HH hm ⊢
    have HM := Lib.hid hmm
    obtain ⟨st, hst⟩ : ∃ st, st = front m l := ⟨_, rfl⟩
    rw [← hst] at HH
    have HQ := Lib.hid (show front (σ.many n) l = st by rw [← hmm, hst])
    have HST := Lib.hid (show st.length = m by rw [hst, front_length])
    obtain ⟨g, hg⟩ : ∃ g, g = w1.heap.size := ⟨_, rfl⟩
    rw [← hg] at HH r1 ⊢
    clear hmm hst hg
    go_wp2
    go_loopw [19] (fun i W => ∃ (j : Nat) (dn td : List Int) (τ : DSt), i = .int .i64 (j : Int) ∧ HopAt w W B S T p g σ st j dn td τ) (fun i _ => m - (intOf i).toNat)
    case atStart => exact ⟨0, _, _, _, rfl, HH.out⟩
    case round =>
      obtain ⟨j, dn, td, τ, rfl, hat⟩ := hrel
      clear HH r1
      cases td with
      | nil =>
        have e0 : (j : Int) = (m : Int) := by have := hat.tot; have := hat.all; have := HST.out; simp at *; omega
        have HA := Lib.hid hat
        clear hat
        rw [e0]
        go_wp2
        go_ret
        have h1 := HA.out.res
        have h2 := HA.out.out
        have h3 := HA.out.tot
        have h4 := HA.out.all
        rw [HST.out] at h3
        simp only [DSt.hops, List.append_nil] at h1 h2
        simp only [List.length_nil, Nat.add_zero] at h3
        rw [HQ.out, h1]
        exact ⟨g, by simp only [h3]; rfl, HA.out.ge, h2, HA.out.dir, HA.out.turn⟩
      | cons x td =>
        have e0 : j < m := by have := hat.tot; have := hat.all; have := HST.out; simp at *; omega
        have c0 := hat.out.cell j
        have ex : ((dn ++ x :: td).map (Value.int .i64))[j]? = some (.int .i64 x) := by
          have := hat.all; simp [← this]
        rw [ex] at c0
        clear ex
        have HA := Lib.hid hat
        have hl1 := hat.len
        have HT := Lib.hid (show Trio w wr B S T p g (dn ++ x :: td) τ from ⟨hat.dir, hat.out, hat.turn, hat.ge⟩)
        clear hat
        have hc := always_calls HT.out.dir 1 1 1 1 rfl rfl (by omega) (by omega) (by omega) (HT.out.room HB.out)
        have hl2 := τ.len_alw 1 1 (by omega)
        obtain ⟨τ1, ht1⟩ : ∃ τ1, τ1 = τ.alw 1 1 := ⟨_, rfl⟩
        unfold dv AlwPost at hc
        rw [← ht1] at hc hl2
        go_wp2_with fail
        ((with_reducible refine hc.mono ?_))
        rintro e W2 ⟨rfl, hd, ht⟩
        have HT1 := Lib.hid (HT.out.call HS.out hd ht)
        clear hc hd ht HT c0
        have hc := always_calls HT1.out.dir 1 8 1 8 rfl rfl (by omega) (by omega) (by omega) (HT1.out.room HB.out)
        have hl3 := τ1.len_alw 1 8 (by omega)
        obtain ⟨τ2, ht2⟩ : ∃ τ2, τ2 = τ1.alw 1 8 := ⟨_, rfl⟩
        unfold dv AlwPost at hc
        rw [← ht2] at hc hl3
        go_wp2_with fail
        ((with_reducible refine hc.mono ?_))
        rintro e W3 ⟨rfl, hd, ht⟩
        have HT2 := Lib.hid (HT1.out.call HS.out hd ht)
        clear hc hd ht HT1
        have hc := node_calls HT2.out.dir x (by omega) (HT2.out.room HB.out)
        have hl4 := τ2.len_node x
        obtain ⟨v, τ3, ht3⟩ : ∃ v τ3, τ2.node x = (v, τ3) := ⟨_, _, rfl⟩
        unfold dv at hc
        rw [ht3] at hc hl4
        simp only at hl4
        go_wp2_with fail
        ((with_reducible refine hc.mono ?_))
        rintro e W4 ⟨rfl, hd, ht⟩
        have HT3 := Lib.hid (HT2.out.call HS.out hd ht)
        have f3 := HT3.out.out.free j
        have c3 := HT3.out.out.cell j
        have ex : ((dn ++ x :: td).map (Value.int .i64))[j]? = some (.int .i64 x) := by
          have := HA.out.all; simp [← this]
        rw [ex] at c3
        clear hc hd ht HT2 ex
        go_upto_region 9 with fail
        have HT4 := Lib.hid (HT3.out.put j (v : Int))
        clear HT3 f3 c3
        revert HT4
        generalize World.setCell W4 _ _ = W5
        intro HT4
        have hc := always_calls HT4.out.dir 1 32 1 32 rfl rfl (by omega) (by omega) (by omega) (HT4.out.room HB.out)
        have hl5 := τ3.len_alw 1 32 (by omega)
        obtain ⟨τ4, ht4⟩ : ∃ τ4, τ4 = τ3.alw 1 32 := ⟨_, rfl⟩
        unfold dv AlwPost at hc
        rw [← ht4] at hc hl5
        go_wp2_with fail
        ((with_reducible refine hc.mono ?_))
        rintro e W6 ⟨rfl, hd, ht⟩
        have HT5 := Lib.hid (HT4.out.call HS.out hd ht)
        clear hc hd ht HT4
        have hc := always_calls HT5.out.dir 1 0 1 0 rfl rfl (by omega) (by omega) (by omega) (HT5.out.room HB.out)
        have hl6 := τ4.len_alw 1 0 (by omega)
        obtain ⟨τ5, ht5⟩ : ∃ τ5, τ5 = τ4.alw 1 0 := ⟨_, rfl⟩
        unfold dv AlwPost at hc
        rw [← ht5] at hc hl6
        go_wp2_with fail
        ((with_reducible refine hc.mono ?_))
        rintro e W7 ⟨rfl, hd, ht⟩
        have HT6 := Lib.hid (HT5.out.call HS.out hd ht)
        clear hc hd ht HT5
        have HE := Lib.hid (show τ.hop x = (v, τ5) by unfold DSt.hop; rw [← ht1, ← ht2, ht3]; simp only; rw [← ht4, ← ht5])
        have HLn := Lib.hid (show τ5.len ≤ σ.len + 48 * (j + 1) by omega)
        clear ht1 ht2 ht3 ht4 ht5 hl1 hl2 hl3 hl4 hl5 hl6
        have q1 : IntKind.i64.wrap ((j : Int) + 1) = ((j + 1 : Nat) : Int) := by rw [IntKind.wrap_i64]; omega
        go_wp2
        go_roundw
        case rel =>
          have ha := HA.out.all
          have h1 := HA.out.res
          have h3 := HA.out.tot
          simp only [DSt.hops, HE.out] at h1
          refine ⟨j + 1, dn ++ [(v : Int)], td, τ5, rfl, HT6.out.dir, ?_, HT6.out.turn, HT6.out.ge, by simp [ha], by simp [h1], HLn.out, by simp at h3 ⊢; omega⟩
          have h2 := HT6.out.out
          have e : (dn ++ x :: td).set j (v : Int) = (dn ++ [(v : Int)]) ++ td := by subst ha; simp
          rw [e] at h2
          exact h2
        case measure => simp [intOf]; omega
end
end Go.Proofs.Ythmgpffpiggomaa
