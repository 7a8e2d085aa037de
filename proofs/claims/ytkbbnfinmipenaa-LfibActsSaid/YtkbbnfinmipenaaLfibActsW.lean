/-
  The walk of LfibActs: for all arguments it returns true and turns no memory that was there. Condition: the second argument reads as a slice of calls.
-/
import Derived.Test.YtkbbnfinmipenaaLfibV
import Derived.Test.YtkbbnfinmipenaaLfibK
import Derived.Test.YtkbbnfinmipenaaLfibG
import Derived.Test.YtkbbnfinmipenaaLfibAlive
import Derived.Test.YtkbbnfinmipenaaLfibOpen
namespace Go.Proofs.Ytkbbnfinmipenaa
open Go.RowKit Go.Maps
set_option linter.unusedVariables false

def Off (q : Nat) (a : Option Addr) (n : Nat) : Prop := ∀ b o, a = some ⟨b, o, none⟩ → 0 < n → b ≠ q
theorem Off.far {q B n m : Nat} {a A : Option Addr} (h : Off q a n) (hq : q < B) (hf : Far5 B a n A m) : Off q A m := fun b o e hm => by
  rcases hf b o e hm with ⟨rfl, hn⟩ | hb
  · exact h b o e hn
  · omega
theorem Blk.turn {w w' : World} {q : Nat} {T : TypeId} {vs : List Value} (h : Blk w q T vs) {S : List Nat} (ht : Turn S w w') (hS : ∀ q ∈ S, ∃ es cl, w.heap[q]? = some (.map es cl)) : Blk w' q T vs :=
  h.same (ht.block _ h.lt (fun hm => by
    obtain ⟨es, cl, e⟩ := hS _ hm
    unfold Blk at h
    rw [e] at h
    cases h))
theorem Blk.other3 {w : World} {q p : Nat} {T : TypeId} {vs : List Value} (h : Blk w q T vs) (hne : p ≠ q) (v0 v1 v2 : Value) : Blk (((w.setCell ⟨p, 0, none⟩ v0).setCell ⟨p, 1, none⟩ v1).setCell ⟨p, 2, none⟩ v2) q T vs :=
  ((h.other (p := ⟨p, 0, none⟩) hne v0).other (p := ⟨p, 1, none⟩) hne v1).other (p := ⟨p, 2, none⟩) hne v2
theorem heap_set3 (w : World) (p q : Nat) (hne : q ≠ p) (v0 v1 v2 : Value) : (((w.setCell ⟨p, 0, none⟩ v0).setCell ⟨p, 1, none⟩ v1).setCell ⟨p, 2, none⟩ v2).heap[q]? = w.heap[q]? := by
  rw [Below.heap_setCell _ _ _ _ hne, Below.heap_setCell _ _ _ _ hne, Below.heap_setCell _ _ _ _ hne]

/-- A table, and the document's table beside it, which lies in a block of its own. -/
structure Duo (w1 W : World) (tb lb ub mb : Nat) (most : Int) (l u l' u' : List (Int × Int × Int)) (A1 A2 : Option Addr) (c1 c2 : Nat) : Prop where
  tbl : Tbl W tb lb ub most l u
  blk : Blk W mb 28 [.slice A1 l'.length c1, .slice A2 u'.length c2, .int .i64 most]
  rowL : Row ec W W.heap.size A1 l'.length l'
  rowU : Row ec W W.heap.size A2 u'.length u'
  offL : Off mb A1 l'.length
  offU : Off mb A2 u'.length
  bel : Below w1.heap.size w1 W
  lo : w1.heap.size ≤ tb ∧ w1.heap.size ≤ lb ∧ w1.heap.size ≤ ub ∧ w1.heap.size ≤ mb
  ne : tb ≠ mb ∧ lb ≠ mb ∧ ub ≠ mb
section
variable {w1 W W' : World} {tb lb ub mb : Nat} {most : Int} {l u l' u' l2 : List (Int × Int × Int)} {A1 A2 A : Option Addr} {c1 c2 : Nat}
theorem Duo.mapL (h : Duo w1 W tb lb ub mb most l u l' u' A1 A2 c1 c2) : ∀ q ∈ [lb], ∃ es cl, W.heap[q]? = some (.map es cl) := fun q hq => by
  obtain rfl : q = lb := by simpa using hq
  exact h.tbl.2.1.isMap
theorem Duo.mapU (h : Duo w1 W tb lb ub mb most l u l' u' A1 A2 c1 c2) : ∀ q ∈ [ub], ∃ es cl, W.heap[q]? = some (.map es cl) := fun q hq => by
  obtain rfl : q = ub := by simpa using hq
  exact h.tbl.2.2.1.isMap
theorem Duo.below (h : Duo w1 W tb lb ub mb most l u l' u' A1 A2 c1 c2) (hb : Below W.heap.size W W') : Duo w1 W' tb lb ub mb most l u l' u' A1 A2 c1 c2 :=
  ⟨h.tbl.below hb, h.blk.below hb, (h.rowL.below hb).more hb.size, (h.rowU.below hb).more hb.size, h.offL, h.offU, bel_more h.bel (Nat.le_refl _) hb, h.lo, h.ne⟩
theorem Duo.drew (h : Duo w1 W tb lb ub mb most l u l' u' A1 A2 c1 c2) : Duo w1 W.drew tb lb ub mb most l u l' u' A1 A2 c1 c2 := h.below (bel_drewN (Below.refl _ _) 1)
theorem Duo.turnL (h : Duo w1 W tb lb ub mb most l u l' u' A1 A2 c1 c2) (ht : Tbl W' tb lb ub most l2 u) (hh : Turn [lb] W W') : Duo w1 W' tb lb ub mb most l2 u l' u' A1 A2 c1 c2 :=
  ⟨ht, h.blk.turn hh h.mapL, h.rowL.turn ec_length (by omega) hh h.mapL, h.rowU.turn ec_length (by omega) hh h.mapL, h.offL, h.offU, Turn.bel h.bel (Nat.le_refl _) hh (by have := h.lo; simp; omega), h.lo, h.ne⟩
theorem Duo.turnU (h : Duo w1 W tb lb ub mb most l u l' u' A1 A2 c1 c2) (ht : Tbl W' tb lb ub most l l2) (hh : Turn [ub] W W') : Duo w1 W' tb lb ub mb most l l2 l' u' A1 A2 c1 c2 :=
  ⟨ht, h.blk.turn hh h.mapU, h.rowL.turn ec_length (by omega) hh h.mapU, h.rowU.turn ec_length (by omega) hh h.mapU, h.offL, h.offU, Turn.bel h.bel (Nat.le_refl _) hh (by have := h.lo; simp; omega), h.lo, h.ne⟩
theorem Duo.storeL (h : Duo w1 W tb lb ub mb most l u l' u' A1 A2 c1 c2) (hr : Row ec W W.heap.size A l2.length l2) (ho : Off mb A l2.length) (c : Nat) :
    Duo w1 (((W.setCell ⟨mb, 0, none⟩ (.slice A l2.length c)).setCell ⟨mb, 1, none⟩ (.slice A2 u'.length c2)).setCell ⟨mb, 2, none⟩ (.int .i64 most)) tb lb ub mb most l u l2 u' A A2 c c2 :=
  ⟨h.tbl.same (heap_set3 _ _ _ h.ne.1 _ _ _) (heap_set3 _ _ _ h.ne.2.1 _ _ _) (heap_set3 _ _ _ h.ne.2.2 _ _ _), h.blk.set3 _ _ _, hr.set3 ho _ _ _, h.rowU.set3 h.offU _ _ _, ho, h.offU, bel_set3 h.bel h.lo.2.2.2 _ _ _, h.lo, h.ne⟩
theorem Duo.storeU (h : Duo w1 W tb lb ub mb most l u l' u' A1 A2 c1 c2) (hr : Row ec W W.heap.size A l2.length l2) (ho : Off mb A l2.length) (c : Nat) :
    Duo w1 (((W.setCell ⟨mb, 0, none⟩ (.slice A1 l'.length c1)).setCell ⟨mb, 1, none⟩ (.slice A l2.length c)).setCell ⟨mb, 2, none⟩ (.int .i64 most)) tb lb ub mb most l u l' l2 A1 A c1 c :=
  ⟨h.tbl.same (heap_set3 _ _ _ h.ne.1 _ _ _) (heap_set3 _ _ _ h.ne.2.1 _ _ _) (heap_set3 _ _ _ h.ne.2.2 _ _ _), h.blk.set3 _ _ _, h.rowL.set3 h.offL _ _ _, hr.set3 ho _ _ _, h.offL, ho, bel_set3 h.bel h.lo.2.2.2 _ _ _, h.lo, h.ne⟩
theorem Duo.len (h : Duo w1 W tb lb ub mb most l u l' u' A1 A2 c1 c2) : l.length ≤ 64 ∧ u.length ≤ 64 := by have := h.tbl.2.2.2.2.1; omega
theorem Duo.m0 (h : Duo w1 W tb lb ub mb most l u l' u' A1 A2 c1 c2) : W.cell? ⟨mb, 0, none⟩ = some (.slice A1 l'.length c1) := h.blk.cell 0
theorem Duo.m1 (h : Duo w1 W tb lb ub mb most l u l' u' A1 A2 c1 c2) : W.cell? ⟨mb, 1, none⟩ = some (.slice A2 u'.length c2) := h.blk.cell 1
theorem Duo.m2 (h : Duo w1 W tb lb ub mb most l u l' u' A1 A2 c1 c2) : W.cell? ⟨mb, 2, none⟩ = some (.int .i64 most) := h.blk.cell 2
end

/-! What a step's answer holds. -/
def sN (r : Except Int (Int × List (Int × Int × Int) × Int)) : Int := match r with | .error _ => 0 | .ok p => p.1
def sE (r : Except Int (Int × List (Int × Int × Int) × Int)) : List (Int × Int × Int) := match r with | .error _ => [] | .ok p => p.2.1
def sL (r : Except Int (Int × List (Int × Int × Int) × Int)) : Int := match r with | .error _ => 0 | .ok p => p.2.2
def sT (r : Except Int (Int × List (Int × Int × Int) × Int)) (tun : Int) : Int := match r with | .error _ => 0 | .ok _ => tun
def sP (r : Except Int (Int × List (Int × Int × Int) × Int)) (pay : ByteArray) : ByteArray := match r with | .error _ => ⟨#[]⟩ | .ok _ => pay
def sX (r : Except Int (Int × List (Int × Int × Int) × Int)) : Int := match r with | .error e => e | .ok _ => 0
theorem StepPost.told {w w' : World} {r : Except Int (Int × List (Int × Int × Int) × Int)} {tun : Int} {pay : ByteArray} {e : Ending} (h : StepPost w r tun pay e w') :
    ∃ A c, e = .returned (.tuple #[.int .i64 (sN r), .agg #[.slice A (sE r).length c, .int .i64 (sT r tun), .int .i64 (sL r), .string (sP r pay)], .int .i64 (sX r)]) ∧ Row ec w' w'.heap.size A (sE r).length (sE r) ∧ Below w.heap.size w w' := by
  obtain ⟨hb, ⟨er, rfl, he⟩ | ⟨nx, es, ttl, A, c, rfl, he, ha⟩⟩ := h
  · exact ⟨none, 0, he, Row.nil, hb⟩
  · exact ⟨A, c, he, AccR.row ha, hb⟩
theorem stepR_len (l u es : List (Int × Int × Int)) (tun ttl : Int) (n : Nat) : (sE (stepR l u es tun ttl n)).length ≤ es.length + 1 := by
  unfold stepR
  split
  · cases es with
    | nil =>
      simp only [beginR]
      split
      · simp [sE]
      · split
        · simp [sE]
        · simp only [sE]; split <;> simp
    | cons e rs =>
      simp only [forwardR]
      split
      · simp [sE]
      · split
        · simp [sE]
        · split
          · cases rs <;> simp [sE]
          · simp [sE]
  · simp [sE]

set_option maxRecDepth 100000 in
theorem lacts_no (most : Int) (a : Option Addr) (n c : Nat) (w : World) (hr : wn most 1 64 = false) :
    Calls Try.prog 3 #[.int .i64 most, .slice a n c] w fun e w' => e = .returned (.bool true) ∧ Below w.heap.size w w' := by
  have hn : ¬ (1 ≤ most ∧ most ≤ 64) := by simpa [wn] using hr
  go_enter Try.func3, Try.ntmps3
  go_wp2_with fail
  ((with_reducible refine (alive5_calls w).mono ?_))
  rintro e w1 ⟨rfl, b1⟩
  have B1 := Lib.hid b1
  clear b1
  go_wp2_with fail
  ((with_reducible refine (lnew_no most w1 hr).mono ?_))
  rintro e w2 ⟨rfl, rfl⟩
  by_cases h1 : 1 ≤ most
  · have g1 : decide (1 ≤ most) = true := by simpa using h1
    have g2 : decide (most ≤ 64) = false := by simp; omega
    go_wp2
    go_loopw [7] (fun t W => t = .int .i64 0 ∧ Below w.heap.size w W) (fun _ _ => 0)
    case atStart => exact ⟨rfl, bel_new B1.out _⟩
    case round =>
      obtain ⟨rfl, hB⟩ := hrel
      go_wp2
      go_ret
      exact ⟨rfl, hB⟩
  · have g1 : decide (1 ≤ most) = false := by simpa using h1
    go_wp2
    go_loopw [7] (fun t W => t = .int .i64 0 ∧ Below w.heap.size w W) (fun _ _ => 0)
    case atStart => exact ⟨rfl, bel_new B1.out _⟩
    case round =>
      obtain ⟨rfl, hB⟩ := hrel
      go_wp2
      go_ret
      exact ⟨rfl, hB⟩

set_option maxHeartbeats 6400000 in
set_option maxRecDepth 100000 in
theorem lacts_yes (most : Int) (a : Option Addr) (n c : Nat) (cs : List Call5) (w : World) (hC : Calls5 w w.heap.size a n cs) (h1 : 1 ≤ most) (h2 : most ≤ 64) :
    Calls Try.prog 3 #[.int .i64 most, .slice a n c] w fun e w' => e = .returned (.bool true) ∧ Below w.heap.size w w' := by
  have HC0 := Lib.hid hC
  clear hC
  go_enter Try.func3, Try.ntmps3
  go_wp2_with fail
  ((with_reducible refine (alive5_calls w).mono ?_))
  rintro e w1 ⟨rfl, b1⟩
  have K1 := Lib.hid b1
  have SZ := Lib.hid b1.size
  have HC := Lib.hid (HC0.out.below b1)
  clear b1 HC0
  go_wp2_with fail
  ((with_reducible refine (lnew_yes most w1 h1 h2).mono ?_))
  rintro e w2 ⟨tb, lb, ub, rfl, hT, hB, b2⟩
  have g1 : decide (1 ≤ most) = true := by simpa using h1
  have g2 : decide (most ≤ 64) = true := by simpa using h2
  have k3 := bel_new (Below.refl w2.heap.size w2) (.cells #[.slice none 0 0, .slice none 0 0, .int .i64 most] 28)
  have D3 := Lib.hid (show Duo w1 (w2.alloc (.cells #[.slice none 0 0, .slice none 0 0, .int .i64 most] 28)) tb lb ub w2.heap.size most [] [] [] [] none none 0 0 from
    ⟨hT.below k3, Blk.new w2 _ _, Row.nil, Row.nil, fun b o e _ => (by cases e), fun b o e _ => (by cases e), bel_more b2 (Nat.le_refl _) k3, by have := b2.size; omega, by have := hT.lt; omega⟩)
  clear hT hB b2 k3
  go_wp2
  generalize w2.alloc (.cells #[.slice none 0 0, .slice none 0 0, .int .i64 most] 28) = w3 at *
  generalize w2.heap.size = mb at *
  clear g1 g2
  go_loopw [7] (fun t W => ∃ (i : Nat) (l u : List (Int × Int × Int)) (A1 A2 : Option Addr) (c1 c2 : Nat), t = .int .i64 (i : Int) ∧ i ≤ n ∧ i ≤ 80 ∧ Duo w1 W tb lb ub mb most l u l u A1 A2 c1 c2) (fun t _ => 80 - (intOf t).toNat)
  case atStart => exact ⟨0, [], [], none, none, 0, 0, rfl, by omega, by omega, D3.out⟩
  case round =>
    obtain ⟨i, l, u, A1, A2, c1, c2, rfl, hin, hi80, hD⟩ := hrel
    have HD := Lib.hid hD
    clear hD D3
    by_cases hlt : i < n ∧ i < 80
    · obtain ⟨hl1, hl2⟩ := hlt
      have hg1 : decide (i < n) = true := by simpa using hl1
      have hg2 : decide ((i : Int) < 80) = true := by simp; omega
      have hg3 : decide (i < 80) = true := by simpa using hl2
      obtain ⟨b, o, q, rfl, hbw, hq, hcs, _⟩ := HC.out.at hl1
      obtain ⟨wk, wnum, hpc, _, ⟨pes, hpr⟩, wtun, wttl⟩ := HC.out.2 q hq
      have HCS := Lib.hid (show ∀ j, j < 8 → wr.cell? ⟨b, o + i * 8 + j, none⟩ = (e5 q)[j]? from fun j hj => (HD.out.bel.cell (p := ⟨b, o + i * 8 + j, none⟩) (Nat.lt_of_lt_of_le hbw SZ.out)).trans (hcs j hj))
      have d0 : wr.cell? ⟨b, o + i * 8, none⟩ = some (.int .u8 q.kind) := HCS.out 0 (by omega)
      have d1 : wr.cell? ⟨b, o + i * 8 + 1, none⟩ = some (.int .i64 q.num) := HCS.out 1 (by omega)
      have d2 : wr.cell? ⟨b, o + i * 8 + 2, none⟩ = some (.int .i64 q.nx) := HCS.out 2 (by omega)
      have d3 : wr.cell? ⟨b, o + i * 8 + 3, none⟩ = some (.int .i64 q.lab) := HCS.out 3 (by omega)
      have d4 : wr.cell? ⟨b, o + i * 8 + 4, none⟩ = some (.slice q.a q.n q.c) := HCS.out 4 (by omega)
      have d5 : wr.cell? ⟨b, o + i * 8 + 5, none⟩ = some (.int .i64 q.tun) := HCS.out 5 (by omega)
      have d6 : wr.cell? ⟨b, o + i * 8 + 6, none⟩ = some (.int .i64 q.ttl) := HCS.out 6 (by omega)
      have d7 : wr.cell? ⟨b, o + i * 8 + 7, none⟩ = some (.string q.pay) := HCS.out 7 (by omega)
      have WN := Lib.hid wnum
      have WT := Lib.hid wtun
      have PC := Lib.hid hpc
      have RP := Lib.hid hpr
      have hkd := wf_u8 wk
      clear hcs wnum wtun wttl wk hpc hpr HCS hq
      generalize q.kind = kind at *
      generalize q.num = num at *
      generalize q.nx = nx at *
      generalize q.lab = lab at *
      generalize q.a = pa at *
      generalize q.n = pn at *
      generalize q.c = pc at *
      generalize q.tun = tun at *
      generalize q.ttl = ttl at *
      generalize q.pay = pay at *
      have k4 := bel_new (Below.refl wr.heap.size wr) (.cells #[.int .u8 kind, .int .i64 num, .int .i64 nx, .int .i64 lab, .slice pa pn pc, .int .i64 tun, .int .i64 ttl, .string pay] 35)
      have D4 := Lib.hid (HD.out.below k4)
      have G4 := Lib.hid (Blk.new wr 35 [.int .u8 kind, .int .i64 num, .int .i64 nx, .int .i64 lab, .slice pa pn pc, .int .i64 tun, .int .i64 ttl, .string pay])
      have RL := Lib.hid HD.out.tbl.2.1.1
      have RU := Lib.hid HD.out.tbl.2.2.1.1
      clear k4 HD
      go_upto_region 12 with fail
      generalize wr.alloc (.cells #[.int .u8 kind, .int .i64 num, .int .i64 nx, .int .i64 lab, .slice pa pn pc, .int .i64 tun, .int .i64 ttl, .string pay] 35) = w4 at *
      generalize wr.heap.size = g at *
      clear d0 d1 d2 d3 d4 d5 d6 d7
      have x0 : w4.cell? ⟨g, 0, none⟩ = some (.int .u8 kind) := G4.out.cell 0
      go_upto_region 19 with fail
      clear x0
      generalize hkk : kind % 5 = kk at *
      have hk5 : kk = 0 ∨ kk = 1 ∨ kk = 2 ∨ kk = 3 ∨ kk = 4 := by omega
      clear hkk
      rcases hk5 with rfl | rfl | rfl | rfl | rfl
      · have x1 : w4.cell? ⟨g, 1, none⟩ = some (.int .i64 num) := G4.out.cell 1
        have x2 : w4.cell? ⟨g, 2, none⟩ = some (.int .i64 nx) := G4.out.cell 2
        have x3 : w4.cell? ⟨g, 3, none⟩ = some (.int .i64 lab) := G4.out.cell 3
        go_wp2_with fail
        ((with_reducible refine (bind_calls D4.out.tbl num nx lab WN.out).mono ?_))
        rintro e w5 ⟨rfl, h5, t5⟩
        have D5 := Lib.hid (D4.out.turnL h5 t5)
        have G5 := Lib.hid (G4.out.turn t5 D4.out.mapL)
        clear h5 t5 x1 x2 x3
        have x1 : w5.cell? ⟨g, 1, none⟩ = some (.int .i64 num) := G5.out.cell 1
        have x2 : w5.cell? ⟨g, 2, none⟩ = some (.int .i64 nx) := G5.out.cell 2
        have x3 : w5.cell? ⟨g, 3, none⟩ = some (.int .i64 lab) := G5.out.cell 3
        have m0 := D5.out.m0
        have m1 := D5.out.m1
        have m2 := D5.out.m2
        go_wp2_with fail
        ((with_reducible refine (refbind_calls A1 A2 l.length c1 u.length c2 l most num nx lab w5 D5.out.rowL (by have := D4.out.len.1; omega) RL.out).mono ?_))
        rintro e w6 ⟨A6, c6, rfl, r6, b6, far6⟩
        have D6 := Lib.hid (D5.out.below b6)
        have O6 := Lib.hid (Off.far D5.out.offL D5.out.blk.lt far6)
        have R6 := Lib.hid r6
        clear r6 b6 far6 x1 m0 m1 m2 x2 x3
        generalize actL (wn num 16 1048575 && okO nx lab) most l (num, nx, lab) = l6 at *
        generalize actE (wn num 16 1048575 && okO nx lab) most l num = er at *
        have m0 := D6.out.m0
        have m1 := D6.out.m1
        have m2 := D6.out.m2
        have f0 := D6.out.blk.free 0
        have f1 := D6.out.blk.free 1
        have f2 := D6.out.blk.free 2
        go_upto_region 31 with fail
        have D7 := Lib.hid (D6.out.storeL R6.out O6.out c6)
        clear m0 m1 m2 f0 f1 f2 D4 D5 D6 G4 G5 O6 R6
        generalize ((w6.setCell ⟨mb, 0, none⟩ (.slice A6 l6.length c6)).setCell ⟨mb, 1, none⟩ (.slice A2 u.length c2)).setCell ⟨mb, 2, none⟩ (.int .i64 most) = w7 at *
        refine region_seq (fun W => W.cell? ⟨mb, 0, none⟩ = some (.slice A6 l6.length c6) ∧ W.cell? ⟨mb, 1, none⟩ = some (.slice A2 u.length c2)) [(0, true), (1, true), (2, true), (3, true), (4, true), (6, true), (7, true), (5, false), (8, false), (9, true), (10, true), (11, true), (12, true), (14, true), (15, true), (13, false), (16, false), (17, true), (18, true)]
          (by kernel_rfl) (by kernel_rfl) (by kernel_rfl) (by kernel_rfl) (fun _ _ _ _ _ h => h) ⟨D7.out.m0, D7.out.m1⟩ ?_
        repeat
          refine seq_pure (v := ?_) rfl (by rfl) (fun W hW => ?_) ?_
          rotate_left
          · obtain ⟨d0, d1⟩ := hW
            go_simp
            try with_reducible rfl
          simp only [Act.put, List.setIfInBounds_toArray, List.set_cons_zero, List.set_cons_succ]
        refine seq_make rfl (by rfl) (fun K hK => ?_)
        go_simp
        ((with_reducible refine (labels_calls D7.out.tbl.drew).mono ?_))
        rintro e w8 ⟨A8, c8, rfl, a8, b8⟩
        have R8 := Lib.hid (show Row ec w8 w8.heap.size A8 l6.length l6 from AccR.row a8)
        have D8 := Lib.hid (D7.out.drew.below b8)
        clear a8 b8
        go_simp
        refine hK _ w8 (fun W => W.cell? ⟨mb, 0, none⟩ = some (.slice A6 l6.length c6) ∧ W.cell? ⟨mb, 1, none⟩ = some (.slice A2 u.length c2)) (fun W h => h) ⟨D8.out.m0, D8.out.m1⟩ ?_
        clear hK K
        refine seq_make rfl (by rfl) (fun K hK => ?_)
        go_simp
        ((with_reducible refine (rows5_calls A8 A6 l6.length c8 c6 l6 _ _ w8 R8.out D8.out.rowL (by have := D8.out.len.1; omega)).mono ?_))
        rintro e w9 ⟨rfl, b9⟩
        have D9 := Lib.hid (D8.out.below b9)
        clear b9 R8
        go_simp
        refine hK _ w9 (fun W => W.cell? ⟨mb, 0, none⟩ = some (.slice A6 l6.length c6) ∧ W.cell? ⟨mb, 1, none⟩ = some (.slice A2 u.length c2)) (fun W h => h) ⟨D9.out.m0, D9.out.m1⟩ ?_
        clear hK K
        repeat
          refine seq_pure (v := ?_) rfl (by rfl) (fun W hW => ?_) ?_
          rotate_left
          · obtain ⟨d0, d1⟩ := hW
            go_simp
            try with_reducible rfl
          simp only [Act.put, List.setIfInBounds_toArray, List.set_cons_zero, List.set_cons_succ]
        refine seq_make rfl (by rfl) (fun K hK => ?_)
        go_simp
        ((with_reducible refine (tunnels_calls D9.out.tbl).mono ?_))
        rintro e w10 ⟨A10, c10, rfl, a10, b10⟩
        have R10 := Lib.hid (show Row ec w10 w10.heap.size A10 u.length u from AccR.row a10)
        have D10 := Lib.hid (D9.out.below b10)
        clear a10 b10
        go_simp
        refine hK _ w10 (fun W => W.cell? ⟨mb, 0, none⟩ = some (.slice A6 l6.length c6) ∧ W.cell? ⟨mb, 1, none⟩ = some (.slice A2 u.length c2)) (fun W h => h) ⟨D10.out.m0, D10.out.m1⟩ ?_
        clear hK K
        refine seq_make rfl (by rfl) (fun K hK => ?_)
        go_simp
        ((with_reducible refine (rows5_calls A10 A2 u.length c10 c2 u _ _ w10 R10.out D10.out.rowU (by have := D10.out.len.2; omega)).mono ?_))
        rintro e w11 ⟨rfl, b11⟩
        have D11 := Lib.hid (D10.out.below b11)
        clear b11 R10
        go_simp
        refine hK _ w11 (fun W => W.cell? ⟨mb, 0, none⟩ = some (.slice A6 l6.length c6) ∧ W.cell? ⟨mb, 1, none⟩ = some (.slice A2 u.length c2)) (fun W h => h) ⟨D11.out.m0, D11.out.m1⟩ ?_
        clear hK K
        repeat
          refine seq_pure (v := ?_) rfl (by rfl) (fun W hW => ?_) ?_
          rotate_left
          · obtain ⟨d0, d1⟩ := hW
            go_simp
            try with_reducible rfl
          simp only [Act.put, List.setIfInBounds_toArray, List.set_cons_zero, List.set_cons_succ]
        refine seq_done ?_
        go_wp2
        exact ⟨⟨i + 1, l6, u, A6, A2, c6, c2, by go_num, by omega, by omega, D11.out⟩, by simp [intOf]; omega⟩
      · have x1 : w4.cell? ⟨g, 1, none⟩ = some (.int .i64 num) := G4.out.cell 1
        go_wp2_with fail
        ((with_reducible refine (free_calls D4.out.tbl num WN.out).mono ?_))
        rintro e w5 ⟨rfl, h5, t5⟩
        have D5 := Lib.hid (D4.out.turnL h5 t5)
        have G5 := Lib.hid (G4.out.turn t5 D4.out.mapL)
        clear h5 t5 x1
        have x1 : w5.cell? ⟨g, 1, none⟩ = some (.int .i64 num) := G5.out.cell 1
        have m0 := D5.out.m0
        have m1 := D5.out.m1
        have m2 := D5.out.m2
        go_wp2_with fail
        ((with_reducible refine (reffree_calls A1 A2 l.length c1 u.length c2 l most num w5 D5.out.rowL (by have := D4.out.len.1; omega)).mono ?_))
        rintro e w6 ⟨A6, c6, rfl, r6, b6, far6⟩
        have D6 := Lib.hid (D5.out.below b6)
        have O6 := Lib.hid (Off.far D5.out.offL D5.out.blk.lt far6)
        have R6 := Lib.hid r6
        clear r6 b6 far6 x1 m0 m1 m2
        generalize remR l num = l6 at *
        generalize remE l num = er at *
        have m0 := D6.out.m0
        have m1 := D6.out.m1
        have m2 := D6.out.m2
        have f0 := D6.out.blk.free 0
        have f1 := D6.out.blk.free 1
        have f2 := D6.out.blk.free 2
        go_upto_region 31 with fail
        have D7 := Lib.hid (D6.out.storeL R6.out O6.out c6)
        clear m0 m1 m2 f0 f1 f2 D4 D5 D6 G4 G5 O6 R6
        generalize ((w6.setCell ⟨mb, 0, none⟩ (.slice A6 l6.length c6)).setCell ⟨mb, 1, none⟩ (.slice A2 u.length c2)).setCell ⟨mb, 2, none⟩ (.int .i64 most) = w7 at *
        refine region_seq (fun W => W.cell? ⟨mb, 0, none⟩ = some (.slice A6 l6.length c6) ∧ W.cell? ⟨mb, 1, none⟩ = some (.slice A2 u.length c2)) [(0, true), (1, true), (2, true), (3, true), (4, true), (6, true), (7, true), (5, false), (8, false), (9, true), (10, true), (11, true), (12, true), (14, true), (15, true), (13, false), (16, false), (17, true), (18, true)]
          (by kernel_rfl) (by kernel_rfl) (by kernel_rfl) (by kernel_rfl) (fun _ _ _ _ _ h => h) ⟨D7.out.m0, D7.out.m1⟩ ?_
        repeat
          refine seq_pure (v := ?_) rfl (by rfl) (fun W hW => ?_) ?_
          rotate_left
          · obtain ⟨d0, d1⟩ := hW
            go_simp
            try with_reducible rfl
          simp only [Act.put, List.setIfInBounds_toArray, List.set_cons_zero, List.set_cons_succ]
        refine seq_make rfl (by rfl) (fun K hK => ?_)
        go_simp
        ((with_reducible refine (labels_calls D7.out.tbl.drew).mono ?_))
        rintro e w8 ⟨A8, c8, rfl, a8, b8⟩
        have R8 := Lib.hid (show Row ec w8 w8.heap.size A8 l6.length l6 from AccR.row a8)
        have D8 := Lib.hid (D7.out.drew.below b8)
        clear a8 b8
        go_simp
        refine hK _ w8 (fun W => W.cell? ⟨mb, 0, none⟩ = some (.slice A6 l6.length c6) ∧ W.cell? ⟨mb, 1, none⟩ = some (.slice A2 u.length c2)) (fun W h => h) ⟨D8.out.m0, D8.out.m1⟩ ?_
        clear hK K
        refine seq_make rfl (by rfl) (fun K hK => ?_)
        go_simp
        ((with_reducible refine (rows5_calls A8 A6 l6.length c8 c6 l6 _ _ w8 R8.out D8.out.rowL (by have := D8.out.len.1; omega)).mono ?_))
        rintro e w9 ⟨rfl, b9⟩
        have D9 := Lib.hid (D8.out.below b9)
        clear b9 R8
        go_simp
        refine hK _ w9 (fun W => W.cell? ⟨mb, 0, none⟩ = some (.slice A6 l6.length c6) ∧ W.cell? ⟨mb, 1, none⟩ = some (.slice A2 u.length c2)) (fun W h => h) ⟨D9.out.m0, D9.out.m1⟩ ?_
        clear hK K
        repeat
          refine seq_pure (v := ?_) rfl (by rfl) (fun W hW => ?_) ?_
          rotate_left
          · obtain ⟨d0, d1⟩ := hW
            go_simp
            try with_reducible rfl
          simp only [Act.put, List.setIfInBounds_toArray, List.set_cons_zero, List.set_cons_succ]
        refine seq_make rfl (by rfl) (fun K hK => ?_)
        go_simp
        ((with_reducible refine (tunnels_calls D9.out.tbl).mono ?_))
        rintro e w10 ⟨A10, c10, rfl, a10, b10⟩
        have R10 := Lib.hid (show Row ec w10 w10.heap.size A10 u.length u from AccR.row a10)
        have D10 := Lib.hid (D9.out.below b10)
        clear a10 b10
        go_simp
        refine hK _ w10 (fun W => W.cell? ⟨mb, 0, none⟩ = some (.slice A6 l6.length c6) ∧ W.cell? ⟨mb, 1, none⟩ = some (.slice A2 u.length c2)) (fun W h => h) ⟨D10.out.m0, D10.out.m1⟩ ?_
        clear hK K
        refine seq_make rfl (by rfl) (fun K hK => ?_)
        go_simp
        ((with_reducible refine (rows5_calls A10 A2 u.length c10 c2 u _ _ w10 R10.out D10.out.rowU (by have := D10.out.len.2; omega)).mono ?_))
        rintro e w11 ⟨rfl, b11⟩
        have D11 := Lib.hid (D10.out.below b11)
        clear b11 R10
        go_simp
        refine hK _ w11 (fun W => W.cell? ⟨mb, 0, none⟩ = some (.slice A6 l6.length c6) ∧ W.cell? ⟨mb, 1, none⟩ = some (.slice A2 u.length c2)) (fun W h => h) ⟨D11.out.m0, D11.out.m1⟩ ?_
        clear hK K
        repeat
          refine seq_pure (v := ?_) rfl (by rfl) (fun W hW => ?_) ?_
          rotate_left
          · obtain ⟨d0, d1⟩ := hW
            go_simp
            try with_reducible rfl
          simp only [Act.put, List.setIfInBounds_toArray, List.set_cons_zero, List.set_cons_succ]
        refine seq_done ?_
        go_wp2
        exact ⟨⟨i + 1, l6, u, A6, A2, c6, c2, by go_num, by omega, by omega, D11.out⟩, by simp [intOf]; omega⟩
      · have x1 : w4.cell? ⟨g, 1, none⟩ = some (.int .i64 num) := G4.out.cell 1
        have x2 : w4.cell? ⟨g, 2, none⟩ = some (.int .i64 nx) := G4.out.cell 2
        have x3 : w4.cell? ⟨g, 3, none⟩ = some (.int .i64 lab) := G4.out.cell 3
        go_wp2_with fail
        ((with_reducible refine (map_calls D4.out.tbl num nx lab WN.out).mono ?_))
        rintro e w5 ⟨rfl, h5, t5⟩
        have D5 := Lib.hid (D4.out.turnU h5 t5)
        have G5 := Lib.hid (G4.out.turn t5 D4.out.mapU)
        clear h5 t5 x1 x2 x3
        have x1 : w5.cell? ⟨g, 1, none⟩ = some (.int .i64 num) := G5.out.cell 1
        have x2 : w5.cell? ⟨g, 2, none⟩ = some (.int .i64 nx) := G5.out.cell 2
        have x3 : w5.cell? ⟨g, 3, none⟩ = some (.int .i64 lab) := G5.out.cell 3
        have m0 := D5.out.m0
        have m1 := D5.out.m1
        have m2 := D5.out.m2
        go_wp2_with fail
        ((with_reducible refine (refmap_calls A1 A2 l.length c1 u.length c2 u most num nx lab w5 D5.out.rowU (by have := D4.out.len.2; omega) RU.out).mono ?_))
        rintro e w6 ⟨A6, c6, rfl, r6, b6, far6⟩
        have D6 := Lib.hid (D5.out.below b6)
        have O6 := Lib.hid (Off.far D5.out.offU D5.out.blk.lt far6)
        have R6 := Lib.hid r6
        clear r6 b6 far6 x1 m0 m1 m2 x2 x3
        generalize actL (wn num 1 65535 && okO nx lab) most u (num, nx, lab) = l6 at *
        generalize actE (wn num 1 65535 && okO nx lab) most u num = er at *
        have m0 := D6.out.m0
        have m1 := D6.out.m1
        have m2 := D6.out.m2
        have f0 := D6.out.blk.free 0
        have f1 := D6.out.blk.free 1
        have f2 := D6.out.blk.free 2
        go_upto_region 31 with fail
        have D7 := Lib.hid (D6.out.storeU R6.out O6.out c6)
        clear m0 m1 m2 f0 f1 f2 D4 D5 D6 G4 G5 O6 R6
        generalize ((w6.setCell ⟨mb, 0, none⟩ (.slice A1 l.length c1)).setCell ⟨mb, 1, none⟩ (.slice A6 l6.length c6)).setCell ⟨mb, 2, none⟩ (.int .i64 most) = w7 at *
        refine region_seq (fun W => W.cell? ⟨mb, 0, none⟩ = some (.slice A1 l.length c1) ∧ W.cell? ⟨mb, 1, none⟩ = some (.slice A6 l6.length c6)) [(0, true), (1, true), (2, true), (3, true), (4, true), (6, true), (7, true), (5, false), (8, false), (9, true), (10, true), (11, true), (12, true), (14, true), (15, true), (13, false), (16, false), (17, true), (18, true)]
          (by kernel_rfl) (by kernel_rfl) (by kernel_rfl) (by kernel_rfl) (fun _ _ _ _ _ h => h) ⟨D7.out.m0, D7.out.m1⟩ ?_
        repeat
          refine seq_pure (v := ?_) rfl (by rfl) (fun W hW => ?_) ?_
          rotate_left
          · obtain ⟨d0, d1⟩ := hW
            go_simp
            try with_reducible rfl
          simp only [Act.put, List.setIfInBounds_toArray, List.set_cons_zero, List.set_cons_succ]
        refine seq_make rfl (by rfl) (fun K hK => ?_)
        go_simp
        ((with_reducible refine (labels_calls D7.out.tbl.drew).mono ?_))
        rintro e w8 ⟨A8, c8, rfl, a8, b8⟩
        have R8 := Lib.hid (show Row ec w8 w8.heap.size A8 l.length l from AccR.row a8)
        have D8 := Lib.hid (D7.out.drew.below b8)
        clear a8 b8
        go_simp
        refine hK _ w8 (fun W => W.cell? ⟨mb, 0, none⟩ = some (.slice A1 l.length c1) ∧ W.cell? ⟨mb, 1, none⟩ = some (.slice A6 l6.length c6)) (fun W h => h) ⟨D8.out.m0, D8.out.m1⟩ ?_
        clear hK K
        refine seq_make rfl (by rfl) (fun K hK => ?_)
        go_simp
        ((with_reducible refine (rows5_calls A8 A1 l.length c8 c1 l _ _ w8 R8.out D8.out.rowL (by have := D8.out.len.1; omega)).mono ?_))
        rintro e w9 ⟨rfl, b9⟩
        have D9 := Lib.hid (D8.out.below b9)
        clear b9 R8
        go_simp
        refine hK _ w9 (fun W => W.cell? ⟨mb, 0, none⟩ = some (.slice A1 l.length c1) ∧ W.cell? ⟨mb, 1, none⟩ = some (.slice A6 l6.length c6)) (fun W h => h) ⟨D9.out.m0, D9.out.m1⟩ ?_
        clear hK K
        repeat
          refine seq_pure (v := ?_) rfl (by rfl) (fun W hW => ?_) ?_
          rotate_left
          · obtain ⟨d0, d1⟩ := hW
            go_simp
            try with_reducible rfl
          simp only [Act.put, List.setIfInBounds_toArray, List.set_cons_zero, List.set_cons_succ]
        refine seq_make rfl (by rfl) (fun K hK => ?_)
        go_simp
        ((with_reducible refine (tunnels_calls D9.out.tbl).mono ?_))
        rintro e w10 ⟨A10, c10, rfl, a10, b10⟩
        have R10 := Lib.hid (show Row ec w10 w10.heap.size A10 l6.length l6 from AccR.row a10)
        have D10 := Lib.hid (D9.out.below b10)
        clear a10 b10
        go_simp
        refine hK _ w10 (fun W => W.cell? ⟨mb, 0, none⟩ = some (.slice A1 l.length c1) ∧ W.cell? ⟨mb, 1, none⟩ = some (.slice A6 l6.length c6)) (fun W h => h) ⟨D10.out.m0, D10.out.m1⟩ ?_
        clear hK K
        refine seq_make rfl (by rfl) (fun K hK => ?_)
        go_simp
        ((with_reducible refine (rows5_calls A10 A6 l6.length c10 c6 l6 _ _ w10 R10.out D10.out.rowU (by have := D10.out.len.2; omega)).mono ?_))
        rintro e w11 ⟨rfl, b11⟩
        have D11 := Lib.hid (D10.out.below b11)
        clear b11 R10
        go_simp
        refine hK _ w11 (fun W => W.cell? ⟨mb, 0, none⟩ = some (.slice A1 l.length c1) ∧ W.cell? ⟨mb, 1, none⟩ = some (.slice A6 l6.length c6)) (fun W h => h) ⟨D11.out.m0, D11.out.m1⟩ ?_
        clear hK K
        repeat
          refine seq_pure (v := ?_) rfl (by rfl) (fun W hW => ?_) ?_
          rotate_left
          · obtain ⟨d0, d1⟩ := hW
            go_simp
            try with_reducible rfl
          simp only [Act.put, List.setIfInBounds_toArray, List.set_cons_zero, List.set_cons_succ]
        refine seq_done ?_
        go_wp2
        exact ⟨⟨i + 1, l, l6, A1, A6, c1, c6, by go_num, by omega, by omega, D11.out⟩, by simp [intOf]; omega⟩
      · have x1 : w4.cell? ⟨g, 1, none⟩ = some (.int .i64 num) := G4.out.cell 1
        go_wp2_with fail
        ((with_reducible refine (unmap_calls D4.out.tbl num WN.out).mono ?_))
        rintro e w5 ⟨rfl, h5, t5⟩
        have D5 := Lib.hid (D4.out.turnU h5 t5)
        have G5 := Lib.hid (G4.out.turn t5 D4.out.mapU)
        clear h5 t5 x1
        have x1 : w5.cell? ⟨g, 1, none⟩ = some (.int .i64 num) := G5.out.cell 1
        have m0 := D5.out.m0
        have m1 := D5.out.m1
        have m2 := D5.out.m2
        go_wp2_with fail
        ((with_reducible refine (refunmap_calls A1 A2 l.length c1 u.length c2 u most num w5 D5.out.rowU (by have := D4.out.len.2; omega)).mono ?_))
        rintro e w6 ⟨A6, c6, rfl, r6, b6, far6⟩
        have D6 := Lib.hid (D5.out.below b6)
        have O6 := Lib.hid (Off.far D5.out.offU D5.out.blk.lt far6)
        have R6 := Lib.hid r6
        clear r6 b6 far6 x1 m0 m1 m2
        generalize remR u num = l6 at *
        generalize remE u num = er at *
        have m0 := D6.out.m0
        have m1 := D6.out.m1
        have m2 := D6.out.m2
        have f0 := D6.out.blk.free 0
        have f1 := D6.out.blk.free 1
        have f2 := D6.out.blk.free 2
        go_upto_region 31 with fail
        have D7 := Lib.hid (D6.out.storeU R6.out O6.out c6)
        clear m0 m1 m2 f0 f1 f2 D4 D5 D6 G4 G5 O6 R6
        generalize ((w6.setCell ⟨mb, 0, none⟩ (.slice A1 l.length c1)).setCell ⟨mb, 1, none⟩ (.slice A6 l6.length c6)).setCell ⟨mb, 2, none⟩ (.int .i64 most) = w7 at *
        refine region_seq (fun W => W.cell? ⟨mb, 0, none⟩ = some (.slice A1 l.length c1) ∧ W.cell? ⟨mb, 1, none⟩ = some (.slice A6 l6.length c6)) [(0, true), (1, true), (2, true), (3, true), (4, true), (6, true), (7, true), (5, false), (8, false), (9, true), (10, true), (11, true), (12, true), (14, true), (15, true), (13, false), (16, false), (17, true), (18, true)]
          (by kernel_rfl) (by kernel_rfl) (by kernel_rfl) (by kernel_rfl) (fun _ _ _ _ _ h => h) ⟨D7.out.m0, D7.out.m1⟩ ?_
        repeat
          refine seq_pure (v := ?_) rfl (by rfl) (fun W hW => ?_) ?_
          rotate_left
          · obtain ⟨d0, d1⟩ := hW
            go_simp
            try with_reducible rfl
          simp only [Act.put, List.setIfInBounds_toArray, List.set_cons_zero, List.set_cons_succ]
        refine seq_make rfl (by rfl) (fun K hK => ?_)
        go_simp
        ((with_reducible refine (labels_calls D7.out.tbl.drew).mono ?_))
        rintro e w8 ⟨A8, c8, rfl, a8, b8⟩
        have R8 := Lib.hid (show Row ec w8 w8.heap.size A8 l.length l from AccR.row a8)
        have D8 := Lib.hid (D7.out.drew.below b8)
        clear a8 b8
        go_simp
        refine hK _ w8 (fun W => W.cell? ⟨mb, 0, none⟩ = some (.slice A1 l.length c1) ∧ W.cell? ⟨mb, 1, none⟩ = some (.slice A6 l6.length c6)) (fun W h => h) ⟨D8.out.m0, D8.out.m1⟩ ?_
        clear hK K
        refine seq_make rfl (by rfl) (fun K hK => ?_)
        go_simp
        ((with_reducible refine (rows5_calls A8 A1 l.length c8 c1 l _ _ w8 R8.out D8.out.rowL (by have := D8.out.len.1; omega)).mono ?_))
        rintro e w9 ⟨rfl, b9⟩
        have D9 := Lib.hid (D8.out.below b9)
        clear b9 R8
        go_simp
        refine hK _ w9 (fun W => W.cell? ⟨mb, 0, none⟩ = some (.slice A1 l.length c1) ∧ W.cell? ⟨mb, 1, none⟩ = some (.slice A6 l6.length c6)) (fun W h => h) ⟨D9.out.m0, D9.out.m1⟩ ?_
        clear hK K
        repeat
          refine seq_pure (v := ?_) rfl (by rfl) (fun W hW => ?_) ?_
          rotate_left
          · obtain ⟨d0, d1⟩ := hW
            go_simp
            try with_reducible rfl
          simp only [Act.put, List.setIfInBounds_toArray, List.set_cons_zero, List.set_cons_succ]
        refine seq_make rfl (by rfl) (fun K hK => ?_)
        go_simp
        ((with_reducible refine (tunnels_calls D9.out.tbl).mono ?_))
        rintro e w10 ⟨A10, c10, rfl, a10, b10⟩
        have R10 := Lib.hid (show Row ec w10 w10.heap.size A10 l6.length l6 from AccR.row a10)
        have D10 := Lib.hid (D9.out.below b10)
        clear a10 b10
        go_simp
        refine hK _ w10 (fun W => W.cell? ⟨mb, 0, none⟩ = some (.slice A1 l.length c1) ∧ W.cell? ⟨mb, 1, none⟩ = some (.slice A6 l6.length c6)) (fun W h => h) ⟨D10.out.m0, D10.out.m1⟩ ?_
        clear hK K
        refine seq_make rfl (by rfl) (fun K hK => ?_)
        go_simp
        ((with_reducible refine (rows5_calls A10 A6 l6.length c10 c6 l6 _ _ w10 R10.out D10.out.rowU (by have := D10.out.len.2; omega)).mono ?_))
        rintro e w11 ⟨rfl, b11⟩
        have D11 := Lib.hid (D10.out.below b11)
        clear b11 R10
        go_simp
        refine hK _ w11 (fun W => W.cell? ⟨mb, 0, none⟩ = some (.slice A1 l.length c1) ∧ W.cell? ⟨mb, 1, none⟩ = some (.slice A6 l6.length c6)) (fun W h => h) ⟨D11.out.m0, D11.out.m1⟩ ?_
        clear hK K
        repeat
          refine seq_pure (v := ?_) rfl (by rfl) (fun W hW => ?_) ?_
          rotate_left
          · obtain ⟨d0, d1⟩ := hW
            go_simp
            try with_reducible rfl
          simp only [Act.put, List.setIfInBounds_toArray, List.set_cons_zero, List.set_cons_succ]
        refine seq_done ?_
        go_wp2
        exact ⟨⟨i + 1, l, l6, A1, A6, c1, c6, by go_num, by omega, by omega, D11.out⟩, by simp [intOf]; omega⟩
      · have x4 : w4.cell? ⟨g, 4, none⟩ = some (.slice pa pn pc) := G4.out.cell 4
        have x5 : w4.cell? ⟨g, 5, none⟩ = some (.int .i64 tun) := G4.out.cell 5
        have x6 : w4.cell? ⟨g, 6, none⟩ = some (.int .i64 ttl) := G4.out.cell 6
        have x7 : w4.cell? ⟨g, 7, none⟩ = some (.string pay) := G4.out.cell 7
        go_wp2_with fail
        ((with_reducible refine (fits_calls pa pn pc tun ttl pay w4).mono ?_))
        rintro e w5 ⟨rfl, hw5⟩
        have k5 : Below w4.heap.size w4 w5 := by rw [hw5]; exact bel_new (Below.refl w4.heap.size w4) _
        have D5 := Lib.hid (D4.out.below k5)
        have G5 := Lib.hid (G4.out.below k5)
        clear hw5 k5 x4 x5 x6 x7
        by_cases hf1 : pn ≤ 100
        case neg =>
          rw [decide_eq_false hf1, Bool.false_and]
          go_wp2
          exact ⟨⟨i + 1, l, u, A1, A2, c1, c2, by go_num, by omega, by omega, D5.out⟩, by simp [intOf]; omega⟩
        by_cases hf2 : pay.size ≤ 5000
        case neg =>
          rw [decide_eq_false hf2, Bool.and_false]
          go_wp2
          exact ⟨⟨i + 1, l, u, A1, A2, c1, c2, by go_num, by omega, by omega, D5.out⟩, by simp [intOf]; omega⟩
        rw [decide_eq_true hf1, decide_eq_true hf2]
        have Q5 := Lib.hid (((RP.out.below (D5.out.bel.mono SZ.out)).more (Nat.le_trans SZ.out D5.out.bel.size)))
        have x4 : w5.cell? ⟨g, 4, none⟩ = some (.slice pa pn pc) := G5.out.cell 4
        have x5 : w5.cell? ⟨g, 5, none⟩ = some (.int .i64 tun) := G5.out.cell 5
        have x6 : w5.cell? ⟨g, 6, none⟩ = some (.int .i64 ttl) := G5.out.cell 6
        have x7 : w5.cell? ⟨g, 7, none⟩ = some (.string pay) := G5.out.cell 7
        go_wp2_with fail
        ((with_reducible refine (step_calls D5.out.tbl pa pn pc pes tun ttl pay Q5.out (by omega) PC.out WT.out).mono ?_))
        rintro e w6 hp6
        obtain ⟨A6, c6, rfl, r6, b6⟩ := StepPost.told hp6
        have LEN := Lib.hid (stepR_len l u pes tun ttl pay.size)
        have HST := Lib.hid (show stepR l u pes tun ttl pay.size = stepR l u pes tun ttl pay.size from rfl)
        generalize hst : stepR l u pes tun ttl pay.size = st at *
        have HS := Lib.hid hst
        have EQ := Lib.hid (show sN st = sN st ∧ sE st = sE st ∧ sL st = sL st ∧ sT st tun = sT st tun ∧ sP st pay = sP st pay ∧ sX st = sX st from ⟨rfl, rfl, rfl, rfl, rfl, rfl⟩)
        clear hst HST hp6 x4 x5 x6 x7
        have hl : (sE st).length ≤ 101 := by have := LEN.out; have := RP.out.1; omega
        generalize hes : sE st = es at *
        generalize hnn : sN st = nn at *
        generalize htl : sL st = tl at *
        generalize htn : sT st tun = tn at *
        generalize hpy : sP st pay = py at *
        generalize her : sX st = er at *
        have EQS := Lib.hid (show sN st = nn ∧ sE st = es ∧ sL st = tl ∧ sT st tun = tn ∧ sP st pay = py ∧ sX st = er from ⟨hnn, hes, htl, htn, hpy, her⟩)
        clear hes hnn htl htn hpy her EQ
        have k7 := bel_new (Below.refl w6.heap.size w6) (.cells #[.slice A6 es.length c6, .int .i64 tn, .int .i64 tl, .string py] 33)
        have D7' := Lib.hid ((D5.out.below b6).below k7)
        have G7' := Lib.hid ((G5.out.below b6).below k7)
        have Q7' := Lib.hid ((((Q5.out.below b6).more b6.size).below k7).more k7.size)
        have R7' := Lib.hid ((r6.below k7).more k7.size)
        have P7' := Lib.hid (Blk.new w6 33 [.slice A6 es.length c6, .int .i64 tn, .int .i64 tl, .string py])
        clear b6 r6 k7 D4 G4 D5 G5 Q5
        go_upto_region 15 with fail
        generalize w6.alloc (.cells #[.slice A6 es.length c6, .int .i64 tn, .int .i64 tl, .string py] 33) = w7 at *
        generalize w6.heap.size = q6 at *
        have x4 : w7.cell? ⟨g, 4, none⟩ = some (.slice pa pn pc) := G7'.out.cell 4
        have x5 : w7.cell? ⟨g, 5, none⟩ = some (.int .i64 tun) := G7'.out.cell 5
        have x6 : w7.cell? ⟨g, 6, none⟩ = some (.int .i64 ttl) := G7'.out.cell 6
        have x7 : w7.cell? ⟨g, 7, none⟩ = some (.string pay) := G7'.out.cell 7
        have m0 := D7'.out.m0
        have m1 := D7'.out.m1
        have m2 := D7'.out.m2
        go_wp2_with fail
        ((with_reducible refine (refstep_calls A1 A2 l.length c1 u.length c2 l u most pa pn pc pes tun ttl pay w7 D7'.out.rowL D7'.out.rowU Q7'.out (by have := D7'.out.len.1; omega) (by have := D7'.out.len.2; omega) (by omega)).mono ?_))
        rintro e w8 hp8
        obtain ⟨A8, c8, he8, r8, b8⟩ := StepPost.told hp8
        rw [HS.out] at he8 r8
        rw [EQS.out.1, EQS.out.2.1, EQS.out.2.2.1, EQS.out.2.2.2.1, EQS.out.2.2.2.2.1, EQS.out.2.2.2.2.2] at he8
        rw [EQS.out.2.1] at r8
        subst he8
        have k9 := bel_new (Below.refl w8.heap.size w8) (.cells #[.slice A8 es.length c8, .int .i64 tn, .int .i64 tl, .string py] 33)
        have D9' := Lib.hid ((D7'.out.below b8).below k9)
        have R9' := Lib.hid ((((R7'.out.below b8).more b8.size).below k9).more k9.size)
        have P9' := Lib.hid ((P7'.out.below b8).below k9)
        have S9' := Lib.hid ((r8.below k9).more k9.size)
        have Q9' := Lib.hid (Blk.new w8 33 [.slice A8 es.length c8, .int .i64 tn, .int .i64 tl, .string py])
        clear hp8 b8 r8 k9 x4 x5 x6 x7 m0 m1 m2 D7' G7' Q7' R7' P7'
        go_upto_region 16 with fail
        generalize w8.alloc (.cells #[.slice A8 es.length c8, .int .i64 tn, .int .i64 tl, .string py] 33) = w9 at *
        generalize w8.heap.size = q8 at *
        have y0 : w9.cell? ⟨q6, 0, none⟩ = some (.slice A6 es.length c6) := P9'.out.cell 0
        have y1 : w9.cell? ⟨q6, 1, none⟩ = some (.int .i64 tn) := P9'.out.cell 1
        have y2 : w9.cell? ⟨q6, 2, none⟩ = some (.int .i64 tl) := P9'.out.cell 2
        have y3 : w9.cell? ⟨q6, 3, none⟩ = some (.string py) := P9'.out.cell 3
        have z0 : w9.cell? ⟨q8, 0, none⟩ = some (.slice A8 es.length c8) := Q9'.out.cell 0
        have z1 : w9.cell? ⟨q8, 1, none⟩ = some (.int .i64 tn) := Q9'.out.cell 1
        have z2 : w9.cell? ⟨q8, 2, none⟩ = some (.int .i64 tl) := Q9'.out.cell 2
        have z3 : w9.cell? ⟨q8, 3, none⟩ = some (.string py) := Q9'.out.cell 3
        go_wp2_with fail
        ((with_reducible refine (refsame5_calls A6 A8 es.length c6 c8 es tn tl py w9 R9'.out S9'.out (by omega)).mono ?_))
        rintro e w10 ⟨rfl, b10⟩
        have D7 := Lib.hid (D9'.out.below b10)
        clear b10 y0 y1 y2 y3 z0 z1 z2 z3 D9' R9' P9' S9' Q9'
        go_upto_region 31 with fail
        clear w7
        generalize w10 = w7 at *
        refine region_seq (fun W => W.cell? ⟨mb, 0, none⟩ = some (.slice A1 l.length c1) ∧ W.cell? ⟨mb, 1, none⟩ = some (.slice A2 u.length c2)) [(0, true), (1, true), (2, true), (3, true), (4, true), (6, true), (7, true), (5, false), (8, false), (9, true), (10, true), (11, true), (12, true), (14, true), (15, true), (13, false), (16, false), (17, true), (18, true)]
          (by kernel_rfl) (by kernel_rfl) (by kernel_rfl) (by kernel_rfl) (fun _ _ _ _ _ h => h) ⟨D7.out.m0, D7.out.m1⟩ ?_
        repeat
          refine seq_pure (v := ?_) rfl (by rfl) (fun W hW => ?_) ?_
          rotate_left
          · obtain ⟨d0, d1⟩ := hW
            go_simp
            try with_reducible rfl
          simp only [Act.put, List.setIfInBounds_toArray, List.set_cons_zero, List.set_cons_succ]
        refine seq_make rfl (by rfl) (fun K hK => ?_)
        go_simp
        ((with_reducible refine (labels_calls D7.out.tbl.drew).mono ?_))
        rintro e w8 ⟨A8, c8, rfl, a8, b8⟩
        have R8 := Lib.hid (show Row ec w8 w8.heap.size A8 l.length l from AccR.row a8)
        have D8 := Lib.hid (D7.out.drew.below b8)
        clear a8 b8
        go_simp
        refine hK _ w8 (fun W => W.cell? ⟨mb, 0, none⟩ = some (.slice A1 l.length c1) ∧ W.cell? ⟨mb, 1, none⟩ = some (.slice A2 u.length c2)) (fun W h => h) ⟨D8.out.m0, D8.out.m1⟩ ?_
        clear hK K
        refine seq_make rfl (by rfl) (fun K hK => ?_)
        go_simp
        ((with_reducible refine (rows5_calls A8 A1 l.length c8 c1 l _ _ w8 R8.out D8.out.rowL (by have := D8.out.len.1; omega)).mono ?_))
        rintro e w9 ⟨rfl, b9⟩
        have D9 := Lib.hid (D8.out.below b9)
        clear b9 R8
        go_simp
        refine hK _ w9 (fun W => W.cell? ⟨mb, 0, none⟩ = some (.slice A1 l.length c1) ∧ W.cell? ⟨mb, 1, none⟩ = some (.slice A2 u.length c2)) (fun W h => h) ⟨D9.out.m0, D9.out.m1⟩ ?_
        clear hK K
        repeat
          refine seq_pure (v := ?_) rfl (by rfl) (fun W hW => ?_) ?_
          rotate_left
          · obtain ⟨d0, d1⟩ := hW
            go_simp
            try with_reducible rfl
          simp only [Act.put, List.setIfInBounds_toArray, List.set_cons_zero, List.set_cons_succ]
        refine seq_make rfl (by rfl) (fun K hK => ?_)
        go_simp
        ((with_reducible refine (tunnels_calls D9.out.tbl).mono ?_))
        rintro e w10 ⟨A10, c10, rfl, a10, b10⟩
        have R10 := Lib.hid (show Row ec w10 w10.heap.size A10 u.length u from AccR.row a10)
        have D10 := Lib.hid (D9.out.below b10)
        clear a10 b10
        go_simp
        refine hK _ w10 (fun W => W.cell? ⟨mb, 0, none⟩ = some (.slice A1 l.length c1) ∧ W.cell? ⟨mb, 1, none⟩ = some (.slice A2 u.length c2)) (fun W h => h) ⟨D10.out.m0, D10.out.m1⟩ ?_
        clear hK K
        refine seq_make rfl (by rfl) (fun K hK => ?_)
        go_simp
        ((with_reducible refine (rows5_calls A10 A2 u.length c10 c2 u _ _ w10 R10.out D10.out.rowU (by have := D10.out.len.2; omega)).mono ?_))
        rintro e w11 ⟨rfl, b11⟩
        have D11 := Lib.hid (D10.out.below b11)
        clear b11 R10
        go_simp
        refine hK _ w11 (fun W => W.cell? ⟨mb, 0, none⟩ = some (.slice A1 l.length c1) ∧ W.cell? ⟨mb, 1, none⟩ = some (.slice A2 u.length c2)) (fun W h => h) ⟨D11.out.m0, D11.out.m1⟩ ?_
        clear hK K
        repeat
          refine seq_pure (v := ?_) rfl (by rfl) (fun W hW => ?_) ?_
          rotate_left
          · obtain ⟨d0, d1⟩ := hW
            go_simp
            try with_reducible rfl
          simp only [Act.put, List.setIfInBounds_toArray, List.set_cons_zero, List.set_cons_succ]
        refine seq_done ?_
        go_wp2
        exact ⟨⟨i + 1, l, u, A1, A2, c1, c2, by go_num, by omega, by omega, D11.out⟩, by simp [intOf]; omega⟩
    · by_cases h1 : i < n
      · have h2 : ¬ i < 80 := fun h2 => hlt ⟨h1, h2⟩
        have hg1 : decide (i < n) = true := by simpa using h1
        have hg2 : decide (i < 80) = false := by simpa using h2
        have hg3 : decide ((i : Int) < 80) = false := by simp; omega
        go_wp2
        go_ret
        exact ⟨rfl, bel_more K1.out (Nat.le_refl _) HD.out.bel⟩
      · have hg1 : decide (i < n) = false := by simpa using h1
        go_wp2
        go_ret
        exact ⟨rfl, bel_more K1.out (Nat.le_refl _) HD.out.bel⟩

theorem lacts_walk_o (most : Int) (a : Option Addr) (n c : Nat) (w : World) (hC : n ≤ maxLen ∧ ∃ cs, Calls5 w w.heap.size a n cs) :
    Calls Try.prog 3 #[.int .i64 most, .slice a n c] w fun e w' => e = .returned (.bool true) ∧ Below w.heap.size w w' := by
  obtain ⟨_, cs, h⟩ := hC
  cases hr : wn most 1 64
  · exact lacts_no most a n c w hr
  · exact lacts_yes most a n c cs w h (wn_yes hr).1 (wn_yes hr).2
end Go.Proofs.Ytkbbnfinmipenaa
