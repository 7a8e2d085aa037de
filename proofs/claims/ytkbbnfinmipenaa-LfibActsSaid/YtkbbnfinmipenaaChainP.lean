/-
  What a packet is on its way through tables that are bound one to the next one, and what a Step with its answer in a variable leaves. No condition: definitions and their consequences.
-/
import Derived.Test.YtkbbnfinmipenaaLfibAlive
import Derived.Test.YtkbbnfinmipenaaAccV
namespace Go.Proofs.Ytkbbnfinmipenaa
open Go.RowKit Go.Maps
set_option linter.unusedVariables false

/-! ### blocks of unlike types -/

theorem AccR.ty {α : Type} {enc : α → List Value} {k : Nat} {w : World} {base c : Nat} {T : TypeId} {A : Option Addr} {l : List α} (h : AccR enc k w base T A c l) {x : Nat} (hx : blk A = some x) : ∃ cs, w.heap[x]? = some (.cells cs T (0, 0)) := by
  rcases h.2 with ⟨hv, _⟩ | ⟨g, cap, cur, hv, _, hh, _⟩
  · injection hv with e; subst e; cases hx
  · injection hv with e; subst e
    have : g = x := by injection hx
    subst this
    exact ⟨cur, hh⟩
theorem AccR.ne {α : Type} {enc : α → List Value} {k : Nat} {w : World} {base c q : Nat} {T T' : TypeId} {A : Option Addr} {l : List α} {vs : List Value} (h : AccR enc k w base T A c l) (hb : Blk w q T' vs) (hne : T ≠ T') : ∀ x, blk A = some x → x ≠ q := by
  rintro x hx rfl
  obtain ⟨cs, e⟩ := h.ty hx
  unfold Blk at hb
  rw [e] at hb
  injection hb with hb
  injection hb with _ hb
  exact hne hb
theorem AccV.ne {w : World} {base c q : Nat} {T T' : TypeId} {A : Option Addr} {us vs : List Value} (h : AccV w base T A c us) (hb : Blk w q T' vs) (hne : T ≠ T') : ∀ x, blk A = some x → x ≠ q := by
  rintro x hx rfl
  obtain ⟨cs, e⟩ := h.row hx
  unfold Blk at hb
  rw [e] at hb
  injection hb with hb
  injection hb with _ hb
  exact hne hb
theorem Tbl.neBlk {w : World} {tb lb ub q : Nat} {most : Int} {l u : List (Int × Int × Int)} {T : TypeId} {vs : List Value} (h : Tbl w tb lb ub most l u) (hb : Blk w q T vs) (hne : 58 ≠ T) : tb ≠ q ∧ lb ≠ q ∧ ub ≠ q := by
  unfold Blk at hb
  obtain ⟨es, cl, e2⟩ := h.2.1.isMap
  obtain ⟨es', cl', e3⟩ := h.2.2.1.isMap
  refine ⟨?_, ?_, ?_⟩
  · rintro rfl
    have := h.1
    rw [hb] at this
    injection this with this
    injection this with _ this
    exact hne this.symm
  · rintro rfl
    rw [e2] at hb; cases hb
  · rintro rfl
    rw [e3] at hb; cases hb

/-! ### a struct of four cells that is written anew -/

/-- Four stores into a block. -/
def write4 (w : World) (q : Nat) (v0 v1 v2 v3 : Value) : World := (((w.setCell ⟨q, 0, none⟩ v0).setCell ⟨q, 1, none⟩ v1).setCell ⟨q, 2, none⟩ v2).setCell ⟨q, 3, none⟩ v3
theorem write4_block (w : World) {q k : Nat} (v0 v1 v2 v3 : Value) (h : k ≠ q) : (write4 w q v0 v1 v2 v3).heap[k]? = w.heap[k]? := by
  unfold write4
  rw [Below.heap_setCell _ _ _ _ h, Below.heap_setCell _ _ _ _ h, Below.heap_setCell _ _ _ _ h, Below.heap_setCell _ _ _ _ h]
theorem write4_size (w : World) (q : Nat) (v0 v1 v2 v3 : Value) : (write4 w q v0 v1 v2 v3).heap.size = w.heap.size := by
  simp [write4, World.setCell]
theorem write4_grown (w : World) (q : Nat) (v0 v1 v2 v3 : Value) : w.grownBy (write4 w q v0 v1 v2 v3) (some q) :=
  ⟨rfl, rfl, rfl, by rw [write4_size]; exact Nat.le_refl _, fun k _ hne => write4_block w _ _ _ _ (fun e => hne (by rw [e]))⟩

/-! ### 'n, q, e := t.Step(p)' -/

/-- What the three variables hold, and what the world is then. -/
def CutS (w0 : World) (r : Except Int (Int × List (Int × Int × Int) × Int)) (tun : Int) (pay : ByteArray) (s t u : Value) (wx : World) : Prop :=
  ∃ q, t = .pointer (some ⟨q, 0, none⟩) ∧ w0.heap.size ≤ q ∧ Below w0.heap.size w0 wx ∧
    ((∃ er, r = .error er ∧ s = .int .i64 0 ∧ u = .int .i64 er ∧ Blk wx q 33 [.slice none 0 0, .int .i64 0, .int .i64 0, .string ⟨#[]⟩]) ∨
    ∃ nx es ttl A c, r = .ok (nx, es, ttl) ∧ s = .int .i64 nx ∧ u = .int .i64 0 ∧ Blk wx q 33 [.slice A es.length c, .int .i64 tun, .int .i64 ttl, .string pay] ∧ AccE wx w0.heap.size A c es)

theorem CutS.drew {w0 wx : World} {r : Except Int (Int × List (Int × Int × Int) × Int)} {tun : Int} {pay : ByteArray} {s t u : Value} (h : CutS w0.drew r tun pay s t u wx) : CutS w0 r tun pay s t u wx := by
  obtain ⟨q, h1, h2, h3, h4⟩ := h
  exact ⟨q, h1, h2, below_of_drew h3, h4⟩
/-- The call first, then the variable. -/
theorem cutS_first {w0 w1 : World} {r : Except Int (Int × List (Int × Int × Int) × Int)} {tun : Int} {pay : ByteArray} {e : Ending} (h : StepPost w0 r tun pay e w1) :
    ∃ (nx er : Int) (A : Option Addr) (n c : Nat) (t1 t2 : Int) (py : ByteArray), e = .returned (.tuple #[.int .i64 nx, .agg #[.slice A n c, .int .i64 t1, .int .i64 t2, .string py], .int .i64 er]) ∧ Below w0.heap.size w0 w1 ∧
      CutS w0 r tun pay (.int .i64 nx) (.pointer (some ⟨w1.heap.size, 0, none⟩)) (.int .i64 er) (w1.alloc (.cells #[.slice A n c, .int .i64 t1, .int .i64 t2, .string py] 33)) := by
  obtain ⟨hb, ⟨er, hr, he⟩ | ⟨nx, es, ttl, A, c, hr, he, ha⟩⟩ := h
  · exact ⟨0, er, _, _, _, _, _, _, he, hb, _, rfl, hb.size, bel_new hb _, .inl ⟨er, hr, rfl, rfl, Blk.new w1 _ _⟩⟩
  · exact ⟨nx, 0, _, _, _, _, _, _, he, hb, _, rfl, hb.size, bel_new hb _, .inr ⟨nx, es, ttl, A, c, hr, rfl, rfl, Blk.new w1 _ _, AccR.alloc ha _⟩⟩
/-- The variable first, then the call. -/
theorem cutS_then {w0 w1 w2 : World} {q : Nat} {r : Except Int (Int × List (Int × Int × Int) × Int)} {tun : Int} {pay : ByteArray} {e : Ending} {us : List Value} (h : StepPost w1 r tun pay e w2) (hb : Below w0.heap.size w0 w1) (hq : w0.heap.size ≤ q) (hu : Blk w1 q 33 us) (hl : us.length = 4) :
    ∃ (nx er : Int) (A : Option Addr) (n c : Nat) (t1 t2 : Int) (py : ByteArray), e = .returned (.tuple #[.int .i64 nx, .agg #[.slice A n c, .int .i64 t1, .int .i64 t2, .string py], .int .i64 er]) ∧ Below w0.heap.size w0 w2 ∧ Blk w2 q 33 us ∧
      CutS w0 r tun pay (.int .i64 nx) (.pointer (some ⟨q, 0, none⟩)) (.int .i64 er) (write4 w2 q (.slice A n c) (.int .i64 t1) (.int .i64 t2) (.string py)) := by
  match us, hl with
  | [u0, u1, u2, u3], _ =>
    obtain ⟨hb2, ⟨er, hr, he⟩ | ⟨nx, es, ttl, A, c, hr, he, ha⟩⟩ := h
    · have h2 := hu.below hb2
      have hz := bel_more hb (Nat.le_refl _) hb2
      exact ⟨0, er, _, _, _, _, _, _, he, hz, h2, q, rfl, hq, bel_set4 hz hq _ _ _ _, .inl ⟨er, hr, rfl, rfl, h2.set4 _ _ _ _⟩⟩
    · have h2 := hu.below hb2
      have hz := bel_more hb (Nat.le_refl _) hb2
      refine ⟨nx, 0, _, _, _, _, _, _, he, hz, h2, q, rfl, hq, bel_set4 hz hq _ _ _ _, .inr ⟨nx, es, ttl, A, c, hr, rfl, rfl, h2.set4 _ _ _ _, ?_⟩⟩
      exact (AccR.kept ha (write4_grown _ _ _ _ _ _) (fun x hx e => by have := (AccR.ge ha hx).1; have := hu.lt; injection e with e; omega)).lower hb.size

/-! ### a packet on its way -/

/-- A table's place, as the program has it. -/
def ptr (b : Nat) : Value := .pointer (some ⟨b, 0, none⟩)
/-- What the i-th of 'm' tables has for what comes in. -/
def outC (m i : Nat) : Int × Int := ((i : Int) + 1, if i + 1 = m then 3 else 16 + (i : Int))
def labC (m i : Nat) : List (Int × Int × Int) := if i = 0 then [] else [(15 + (i : Int), outC m i)]
def tunC (m i : Nat) : List (Int × Int × Int) := [(7, outC m i)]
/-- The entries and the time of a packet ahead of the i-th table. -/
def entC (m ttl i : Nat) : List (Int × Int × Int) := if i = 0 ∨ i = m then [] else [(15 + (i : Int), 0, (ttl : Int) - i)]
def timC (m ttl i : Nat) : Int := if i = 0 then ttl else if i = m then (ttl : Int) - m else (ttl : Int) - 1

theorem fnd_one (k : Int) (p : Int × Int) : fnd [(k, p)] k = some p := by simp [fnd]

theorem step_stop {m ttl i n : Nat} (hm : 2 ≤ m) (hm7 : m ≤ 7) (ht : ttl < 256) (hn : n ≤ 4096) (hi : i < m) (he : i = ttl) : stepR (labC m i) (tunC m i) (entC m ttl i) 7 (timC m ttl i) n = .error 10 := by
  subst he
  by_cases h0 : i = 0
  · subst h0
    have h1 : okPkt (entC m 0 0) (timC m 0 0) n = true := by simp [okPkt, entC, timC, wn, hn]
    unfold stepR
    rw [if_pos h1]
    simp [entC, beginR, tunC, fnd_one, timC]
  · have e1 : entC m i i = [(15 + (i : Int), 0, 0)] := by unfold entC; rw [if_neg (by omega)]; simp
    have e2 : timC m i i = (i : Int) - 1 := by unfold timC; rw [if_neg h0, if_neg (by omega)]
    have h1 : okPkt (entC m i i) (timC m i i) n = true := by
      rw [e1, e2]; simp [okPkt, wn, hn, mE, may, wi]; omega
    unfold stepR
    rw [if_pos h1, e1]
    simp only
    unfold forwardR labC
    rw [if_neg h0, fnd_one]
    simp
theorem step_on {m ttl i n : Nat} (hm : 2 ≤ m) (hm7 : m ≤ 7) (ht : ttl < 256) (hn : n ≤ 4096) (hi : i < m) (he : i < ttl) : stepR (labC m i) (tunC m i) (entC m ttl i) 7 (timC m ttl i) n = .ok ((i : Int) + 1, entC m ttl (i + 1), timC m ttl (i + 1)) := by
  by_cases h0 : i = 0
  · subst h0
    have h1 : okPkt (entC m ttl 0) (timC m ttl 0) n = true := by simp [okPkt, entC, timC, wn, hn]; omega
    unfold stepR
    rw [if_pos h1]
    have e1 : entC m ttl 0 = [] := by simp [entC]
    have e2 : entC m ttl (0 + 1) = [(16, 0, (ttl : Int) - 1)] := by unfold entC; rw [if_neg (by omega)]; simp
    have e3 : timC m ttl (0 + 1) = (ttl : Int) - 1 := by unfold timC; rw [if_neg (by omega), if_neg (by omega)]
    have e4 : timC m ttl 0 = ttl := by simp [timC]
    have e5 : outC m 0 = (1, 16) := by unfold outC; rw [if_neg (by omega)]; simp
    rw [e1, e2, e3, e4]
    simp only
    unfold beginR tunC
    rw [fnd_one, e5]
    simp only
    rw [if_neg (by omega), if_neg (by omega)]
    simp
  · have e1 : entC m ttl i = [(15 + (i : Int), 0, (ttl : Int) - i)] := by unfold entC; rw [if_neg (by omega)]
    have e2 : timC m ttl i = (ttl : Int) - 1 := by unfold timC; rw [if_neg h0, if_neg (by omega)]
    have h1 : okPkt (entC m ttl i) (timC m ttl i) n = true := by
      rw [e1, e2]; simp [okPkt, wn, hn, mE, may, wi]; omega
    unfold stepR
    rw [if_pos h1, e1, e2]
    simp only
    unfold forwardR labC
    rw [if_neg h0, fnd_one]
    simp only
    rw [if_neg (by omega)]
    by_cases hl : i + 1 = m
    · have e5 : outC m i = ((i : Int) + 1, 3) := by unfold outC; rw [if_pos hl]
      have e3 : entC m ttl (i + 1) = [] := by unfold entC; rw [if_pos (.inr hl)]
      have e4 : timC m ttl (i + 1) = (ttl : Int) - m := by unfold timC; rw [if_neg (by omega), if_pos hl]
      rw [e5, e3, e4, if_pos rfl, show min ((ttl : Int) - 1) ((ttl : Int) - i - 1) = (ttl : Int) - m by omega]
    · have e5 : outC m i = ((i : Int) + 1, 16 + (i : Int)) := by unfold outC; rw [if_neg hl]
      have e3 : entC m ttl (i + 1) = [(15 + ((i + 1 : Nat) : Int), 0, (ttl : Int) - ((i + 1 : Nat) : Int))] := by unfold entC; rw [if_neg (by omega)]
      have e4 : timC m ttl (i + 1) = (ttl : Int) - 1 := by unfold timC; rw [if_neg (by omega), if_neg hl]
      rw [e5, e3, e4, if_neg (by simp; omega), show (15 : Int) + ((i + 1 : Nat) : Int) = 16 + i by omega, show (ttl : Int) - ((i + 1 : Nat) : Int) = (ttl : Int) - i - 1 by omega]
end Go.Proofs.Ytkbbnfinmipenaa
