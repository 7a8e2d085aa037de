/-
  Contract of package body's hops. Condition: the list that comes in reads as numbers; as of number.
-/
import Derived.Test.YtocogdcecnnnnaaBodyC
import Derived.Test.YtocogdcecnnnnaaInts
import Derived.Laws.MakeOwn
import Derived.Deep.DeepCutAuto
namespace Go.Proofs.Ytocogdcecnnnnaa
open Go.RowKit

/-- One hop: what is answered, and what the direction holds then. -/
def DSt.hop (n : Int) (σ : DSt) : Nat × DSt :=
  let r := ((σ.alw 1 1).alw 1 8).node n
  (r.1, (r.2.alw 1 32).alw 1 0)
def DSt.hops : List Int → DSt → List Int × DSt
  | [], σ => ([], σ)
  | n :: l, σ => (((σ.hop n).1 : Int) :: ((σ.hop n).2.hops l).1, ((σ.hop n).2.hops l).2)
/-- So many numbers, from a list as far as it goes, then noughts. -/
def front (m : Nat) (l : List Int) : List Int := l.take m ++ List.replicate (m - l.length) 0
theorem front_length (m : Nat) (l : List Int) : (front m l).length = m := by simp [front]; omega
/-- How many hops there are. -/
def DSt.many (n : Nat) (σ : DSt) : Nat := min (σ.cnt 8 n) 16
theorem DSt.len_node (σ : DSt) (n : Int) : (σ.node n).2.len ≤ σ.len + 16 := by
  have h1 := σ.len_alw 3 655360 (by omega)
  have h2 := (σ.alw 3 655360).len_num 1 0 15 (u64 n) (by omega)
  unfold DSt.node DSt.upto
  omega
theorem DSt.len_hop (σ : DSt) (n : Int) : (σ.hop n).2.len ≤ σ.len + 48 := by
  have h1 := σ.len_alw 1 1 (by omega)
  have h2 := (σ.alw 1 1).len_alw 1 8 (by omega)
  have h3 := ((σ.alw 1 1).alw 1 8).len_node n
  have h4 := (((σ.alw 1 1).alw 1 8).node n).2.len_alw 1 32 (by omega)
  have h5 := ((((σ.alw 1 1).alw 1 8).node n).2.alw 1 32).len_alw 1 0 (by omega)
  unfold DSt.hop
  simp only
  omega

/-- What hops answers: numbers in memory of the call's own. -/
def HopsPost (w : World) (B : Nat) (S : List Nat) (T : TypeId) (p : Nat) (r : List Int × DSt) (e : Ending) (w' : World) : Prop :=
  ∃ g, e = .returned (.slice (some ⟨g, 0, none⟩) r.1.length r.1.length) ∧ w.heap.size ≤ g ∧ Blk w' g 3 (r.1.map (Value.int .i64)) ∧ Dir w' B S T p r.2 ∧ Turn S w w'

set_option maxRecDepth 100000 in
theorem make_ints (n : Nat) (hn : n ≤ 1099511627776) (W : World) : (Instr.makeSlice 23 (.int .i64 (n : Int)) (.int .i64 (n : Int))).run Try.prog W =
      .ok (.slice (some ⟨W.heap.size, 0, none⟩) n n) (W.alloc (.cells (Array.replicate n (Value.int .i64 0)) 3)) := by
  obtain ⟨i, hi, hzz⟩ := Option.map_eq_some_iff.1 infoInt
  simp only [Prod.mk.injEq] at hzz
  obtain ⟨hz, hs, hb⟩ := hzz
  have h := run_make (P := Try.prog) W 23 3 i (.int .i64 0) Try.underlying23 hi hz .i64 .i64 (n : Int) (n : Int) (by omega) (by omega) (by rw [hb]; omega) (by omega)
  simp only [hs, Nat.mul_one, Int.toNat_natCast] at h
  rw [h]
  have e : (Value.int .i64 0).cells = #[.int .i64 0] := rfl
  rw [e]
  congr 3
  apply Array.ext
  · simp [madeCells]
  · intro k h1 h2
    simp [madeCells, Nat.mod_one]

section
variable {w : World} {B p : Nat} {S : List Nat} {T : TypeId} {σ : DSt}

/-- The state of the loop: 'done' numbers were answered, 'todo' are to come. -/
structure HopAt (w W : World) (B : Nat) (S : List Nat) (T : TypeId) (p g : Nat) (σ : DSt) (st : List Int) (j : Nat) (dn td : List Int) (τ : DSt) : Prop where
  dir : Dir W B S T p τ
  out : Blk W g 3 ((dn ++ td).map (Value.int .i64))
  turn : Turn S w W
  ge : w.heap.size ≤ g
  all : dn.length = j
  res : σ.hops st = (dn ++ (τ.hops td).1, (τ.hops td).2)
  len : τ.len ≤ σ.len + 48 * j
  tot : dn.length + td.length = st.length

theorem HopAt.start {W : World} {g : Nat} {st : List Int} (hd : Dir W B S T p σ) (ho : Blk W g 3 (st.map (Value.int .i64))) (ht : Turn S w W) (hg : w.heap.size ≤ g) : HopAt w W B S T p g σ st 0 [] st σ :=
  ⟨hd, ho, ht, hg, rfl, rfl, by omega, by simp⟩

/-- A direction beside numbers of the call's own. -/
structure Trio (w W : World) (B : Nat) (S : List Nat) (T : TypeId) (p g : Nat) (xs : List Int) (τ : DSt) : Prop where
  dir : Dir W B S T p τ
  out : Blk W g 3 (xs.map (Value.int .i64))
  turn : Turn S w W
  ge : w.heap.size ≤ g
theorem Trio.call {W W' : World} {g : Nat} {xs : List Int} {τ τ' : DSt} (h : Trio w W B S T p g xs τ) (hl : ∀ k ∈ S, k < w.heap.size) (hd : Dir W' B S T p τ') (ht : Turn S W W') : Trio w W' B S T p g xs τ' :=
  ⟨hd, h.out.same (ht.block _ h.out.lt (fun hm => by have := hl _ hm; have := h.ge; omega)), h.turn.trans ht, h.ge⟩
theorem Trio.put {W : World} {g : Nat} {xs : List Int} {τ : DSt} (h : Trio w W B S T p g xs τ) (i : Nat) (x : Int) : Trio w (W.setCell ⟨g, i, none⟩ (.int .i64 x)) B S T p g (xs.set i x) τ :=
  ⟨h.dir.turn1 h.out.typ (by decide) (upd_set_p _ _ _ _), by rw [List.map_set]; exact h.out.set i _,
    ⟨h.turn.os, h.turn.tape, h.turn.output, by simpa [World.setCell] using h.turn.size, fun k hk hm => (Below.heap_setCell _ _ _ _ (by have := h.ge; simp; omega)).trans (h.turn.block k hk hm)⟩, h.ge⟩
theorem Trio.room {W : World} {g : Nat} {xs : List Int} {τ : DSt} (h : Trio w W B S T p g xs τ) (hB : B ≤ w.heap.size) : B ≤ W.heap.size := Nat.le_trans hB h.turn.size

theorem HopAt.call {W W' : World} {g j : Nat} {st dn td : List Int} {τ τ' : DSt} (h : HopAt w W B S T p g σ st j dn td τ) (hl : ∀ k ∈ S, k < w.heap.size) (hd : Dir W' B S T p τ') (ht : Turn S W W') : Dir W' B S T p τ' ∧ Blk W' g 3 ((dn ++ td).map (Value.int .i64)) ∧ Turn S w W' :=
  ⟨hd, h.out.same (ht.block _ h.out.lt (fun hm => by have := hl _ hm; have := h.ge; omega)), h.turn.trans ht⟩

/-- What is known once the slice is made. -/
def CutH (w : World) (B : Nat) (S : List Nat) (T : TypeId) (p : Nat) (σ : DSt) (a : Option Addr) (n : Nat) (l : List Int) (s : Value) (W : World) : Prop :=
  ∃ w1, W = w1.alloc (.cells (Array.replicate (σ.many n) (Value.int .i64 0)) 3) ∧ s = .slice (some ⟨w1.heap.size, 0, none⟩) (σ.many n) (σ.many n) ∧ Dir w1 B S T p σ ∧ Turn S w w1 ∧ Row ei w1 w1.heap.size a n l

set_option maxRecDepth 100000 in
set_option maxHeartbeats 1600000 in
theorem hops_calls (h : Dir w B S T p σ) (a : Option Addr) (n c : Nat) (l : List Int) (hl : Row ei w w.heap.size a n l) (hn : n ≤ maxLen) (hlen : σ.len ≤ 1000000000) (hB : B ≤ w.heap.size) :
    Calls Try.prog 33 #[dv T p, .slice a n c] w (HopsPost w B S T p (σ.hops (front (σ.many n) l))) := by
  have hm : σ.many n ≤ 16 := Nat.min_le_right _ _
  have HS := Lib.hid h.lt
  have HN := Lib.hid hl.1
  have HB := Lib.hid hB
  have HL := Lib.hid hl
  unfold maxLen at hn
  have key : ∀ w1 : World, Dir w1 B S T p σ → Turn S w w1 → Row ei w1 w1.heap.size a n l → ∃ W1, (Builtin.copy_ #[23, 23] 3 #[.slice (some ⟨w1.heap.size, 0, none⟩) (σ.many n) (σ.many n), .slice a n c]).run Try.prog (w1.alloc (.cells (Array.replicate (σ.many n) (Value.int .i64 0)) 3)) = .ok (.int .i64 ((min n (σ.many n) : Nat) : Int)) W1 ∧ HopAt w W1 B S T p w1.heap.size σ (front (σ.many n) l) 0 [] (front (σ.many n) l) σ := by
    intro w1 hd ht hr
    have hb := Blk.new w1 3 ((List.replicate (σ.many n) (0 : Int)).map (Value.int .i64))
    have hbel := bel_new (Below.refl w1.heap.size w1) (.cells (Array.replicate (σ.many n) (Value.int .i64 0)) 3)
    rw [show ((List.replicate (σ.many n) (0 : Int)).map (Value.int .i64)).toArray = Array.replicate (σ.many n) (Value.int .i64 0) by simp] at hb
    obtain ⟨W1, r1, b1, s1, g1⟩ := copy_ints (P := Try.prog) (c := c) (hr.below hbel) 23 23 3 3 Try.underlying23 (by kernel_rfl) w1.heap.size (σ.many n) (σ.many n) _ _ hb (by simp)
    refine ⟨W1, r1, HopAt.start ((hd.bel hbel).turn1 hb.typ (by decide) g1) ?_ ?_ ht.size⟩
    · have e : (front (σ.many n) l).map (Value.int .i64) = (l.take (σ.many n)).map (Value.int .i64) ++ ((List.replicate (σ.many n) (0 : Int)).map (Value.int .i64)).drop n := by
        rw [front, HN.out]; simp
      rw [e]; exact b1
    · have t1 := ht.trans (Turn.of_below hbel)
      exact ⟨g1.os.trans t1.os, g1.tape.trans t1.tape, g1.output.trans t1.output, Nat.le_trans t1.size g1.size, fun k hk hne => (g1.block k (Nat.lt_of_lt_of_le hk t1.size) (fun e => by injection e with e; have := ht.size; omega)).trans (t1.block k hk hne)⟩
  have KEY := Lib.hid key
  clear key hl hB
  have HD := Lib.hid h
  clear h
  unfold dv
  go_enter Try.func33, Try.ntmps33
  go_upto_region 1 with fail
  go_cut [5] (fun s W => CutH w B S T p σ a n l s W)
  case first =>
    have hmk := make_ints (σ.many n) (by omega)
    cases σ with
    | wr b bad =>
      obtain ⟨rfl, _⟩ := HD.out
      have hm1 := meth_wc
      have hc := wcnt_calls (n : Int) 8
      by_cases hx : n ≤ 16
      · have hmm : DSt.many n (.wr b bad) = n := Nat.min_eq_left hx
        have hx2 : (n : Int) ≤ 16 := by omega
        rw [hmm] at hmk
        have HM := Lib.hid hmm
        clear hmm
        go_wp2_with fail
        ((with_reducible refine (hc _ _).mono ?_))
        rintro e w1 ⟨rfl, rfl⟩
        go_wp2
        go_meet
        exact ⟨w, by rw [HM.out], by rw [HM.out], HD.out, Turn.refl _ _, HL.out⟩
      · have hmm : DSt.many n (.wr b bad) = 16 := Nat.min_eq_right (by simp only [DSt.cnt]; omega)
        have hx2 : (16 : Int) < n := by omega
        have hmk16 : ∀ W, (Instr.makeSlice 23 (.int .i64 16) (.int .i64 16)).run Try.prog W = .ok (.slice (some ⟨W.heap.size, 0, none⟩) 16 16) (W.alloc (.cells (Array.replicate 16 (Value.int .i64 0)) 3)) := make_ints 16 (by omega)
        clear hmk
        have HM := Lib.hid hmm
        clear hmm
        go_wp2_with fail
        ((with_reducible refine (hc _ _).mono ?_))
        rintro e w1 ⟨rfl, rfl⟩
        go_wp2
        go_meet
        exact ⟨w, by rw [HM.out], by rw [HM.out], HD.out, Turn.refl _ _, HL.out⟩
    | rd l2 i err bad =>
      have hm1 := meth_rc
      have hc := rcnt_calls HD.out (n : Int)
      obtain ⟨rfl, _⟩ := HD.out
      obtain ⟨N, hN⟩ : ∃ N, N = (l2.length - i) / 8 := ⟨_, rfl⟩
      rw [← hN] at hc
      by_cases hx : N ≤ 16
      · have hmm : DSt.many n (.rd l2 i err bad) = N := by rw [hN] at hx ⊢; exact Nat.min_eq_left hx
        have hx2 : (N : Int) ≤ 16 := by omega
        rw [hmm] at hmk
        have HM := Lib.hid hmm
        clear hmm hN
        go_wp2_with fail
        ((with_reducible refine hc.mono ?_))
        rintro e w1 ⟨rfl, k, rfl⟩
        go_wp2
        go_meet
        exact ⟨w.drewN k, by rw [HM.out], by rw [HM.out]; rfl, HD.out.drewN k, (Turn.refl _ _).drewN k, HL.out⟩
      · have hmm : DSt.many n (.rd l2 i err bad) = 16 := Nat.min_eq_right (by simp only [DSt.cnt]; omega)
        have hx2 : (16 : Int) < N := by omega
        have hmk16 : ∀ W, (Instr.makeSlice 23 (.int .i64 16) (.int .i64 16)).run Try.prog W = .ok (.slice (some ⟨W.heap.size, 0, none⟩) 16 16) (W.alloc (.cells (Array.replicate 16 (Value.int .i64 0)) 3)) := make_ints 16 (by omega)
        clear hmk
        have HM := Lib.hid hmm
        clear hmm hN
        go_wp2_with fail
        ((with_reducible refine hc.mono ?_))
        rintro e w1 ⟨rfl, k, rfl⟩
        go_wp2
        go_meet
        exact ⟨w.drewN k, by rw [HM.out], by rw [HM.out]; rfl, HD.out.drewN k, (Turn.refl _ _).drewN k, HL.out⟩
  case rest =>
    obtain ⟨w1, rfl, rfl, h1, h2, h3⟩ := hcut
    obtain ⟨W1, r1, H1⟩ := KEY.out w1 h1 h2 h3
    have HH := Lib.hid H1
    clear KEY HD H1 h1 h2 h3
    obtain ⟨m, hmm⟩ : ∃ m, m = σ.many n := ⟨_, rfl⟩
    rw [← hmm] at r1 HH hm ⊢
    have HM := Lib.hid hmm
    obtain ⟨st, hst⟩ : ∃ st, st = front m l := ⟨_, rfl⟩
    rw [← hst] at HH
    have HQ := Lib.hid (show front (σ.many n) l = st by rw [← hmm, hst])
    have HST := Lib.hid (show st.length = m by rw [hst, front_length])
    obtain ⟨g, hg⟩ : ∃ g, g = w1.heap.size := ⟨_, rfl⟩
    rw [← hg] at HH r1 ⊢
    clear hmm hst hg
    go_wp2
    go_loopw [19] (fun i W => ∃ (j : Nat) (dn td : List Int) (τ : DSt), i = .int .i64 (j : Int) ∧ HopAt w W B S T p g σ st j dn td τ) (fun i _ => m - (intOf i).toNat)
    case atStart => exact ⟨0, _, _, _, rfl, HH.out⟩
    case round =>
      obtain ⟨j, dn, td, τ, rfl, hat⟩ := hrel
      clear HH r1
      cases td with
      | nil =>
        have e0 : (j : Int) = (m : Int) := by have := hat.tot; have := hat.all; have := HST.out; simp at *; omega
        have HA := Lib.hid hat
        clear hat
        rw [e0]
        go_wp2
        go_ret
        have h1 := HA.out.res
        have h2 := HA.out.out
        have h3 := HA.out.tot
        have h4 := HA.out.all
        rw [HST.out] at h3
        simp only [DSt.hops, List.append_nil] at h1 h2
        simp only [List.length_nil, Nat.add_zero] at h3
        rw [HQ.out, h1]
        exact ⟨g, by simp only [h3]; rfl, HA.out.ge, h2, HA.out.dir, HA.out.turn⟩
      | cons x td =>
        have e0 : j < m := by have := hat.tot; have := hat.all; have := HST.out; simp at *; omega
        have c0 := hat.out.cell j
        have ex : ((dn ++ x :: td).map (Value.int .i64))[j]? = some (.int .i64 x) := by
          have := hat.all; simp [← this]
        rw [ex] at c0
        clear ex
        have HA := Lib.hid hat
        have hl1 := hat.len
        have HT := Lib.hid (show Trio w wr B S T p g (dn ++ x :: td) τ from ⟨hat.dir, hat.out, hat.turn, hat.ge⟩)
        clear hat
        have hc := always_calls HT.out.dir 1 1 1 1 rfl rfl (by omega) (by omega) (by omega) (HT.out.room HB.out)
        have hl2 := τ.len_alw 1 1 (by omega)
        obtain ⟨τ1, ht1⟩ : ∃ τ1, τ1 = τ.alw 1 1 := ⟨_, rfl⟩
        unfold dv AlwPost at hc
        rw [← ht1] at hc hl2
        go_wp2_with fail
        ((with_reducible refine hc.mono ?_))
        rintro e W2 ⟨rfl, hd, ht⟩
        have HT1 := Lib.hid (HT.out.call HS.out hd ht)
        clear hc hd ht HT c0
        have hc := always_calls HT1.out.dir 1 8 1 8 rfl rfl (by omega) (by omega) (by omega) (HT1.out.room HB.out)
        have hl3 := τ1.len_alw 1 8 (by omega)
        obtain ⟨τ2, ht2⟩ : ∃ τ2, τ2 = τ1.alw 1 8 := ⟨_, rfl⟩
        unfold dv AlwPost at hc
        rw [← ht2] at hc hl3
        go_wp2_with fail
        ((with_reducible refine hc.mono ?_))
        rintro e W3 ⟨rfl, hd, ht⟩
        have HT2 := Lib.hid (HT1.out.call HS.out hd ht)
        clear hc hd ht HT1
        have hc := node_calls HT2.out.dir x (by omega) (HT2.out.room HB.out)
        have hl4 := τ2.len_node x
        obtain ⟨v, τ3, ht3⟩ : ∃ v τ3, τ2.node x = (v, τ3) := ⟨_, _, rfl⟩
        unfold dv at hc
        rw [ht3] at hc hl4
        simp only at hl4
        go_wp2_with fail
        ((with_reducible refine hc.mono ?_))
        rintro e W4 ⟨rfl, hd, ht⟩
        have HT3 := Lib.hid (HT2.out.call HS.out hd ht)
        have f3 := HT3.out.out.free j
        have c3 := HT3.out.out.cell j
        have ex : ((dn ++ x :: td).map (Value.int .i64))[j]? = some (.int .i64 x) := by
          have := HA.out.all; simp [← this]
        rw [ex] at c3
        clear hc hd ht HT2 ex
        go_upto_region 9 with fail
        have HT4 := Lib.hid (HT3.out.put j (v : Int))
        clear HT3 f3 c3
        revert HT4
        generalize World.setCell W4 _ _ = W5
        intro HT4
        have hc := always_calls HT4.out.dir 1 32 1 32 rfl rfl (by omega) (by omega) (by omega) (HT4.out.room HB.out)
        have hl5 := τ3.len_alw 1 32 (by omega)
        obtain ⟨τ4, ht4⟩ : ∃ τ4, τ4 = τ3.alw 1 32 := ⟨_, rfl⟩
        unfold dv AlwPost at hc
        rw [← ht4] at hc hl5
        go_wp2_with fail
        ((with_reducible refine hc.mono ?_))
        rintro e W6 ⟨rfl, hd, ht⟩
        have HT5 := Lib.hid (HT4.out.call HS.out hd ht)
        clear hc hd ht HT4
        have hc := always_calls HT5.out.dir 1 0 1 0 rfl rfl (by omega) (by omega) (by omega) (HT5.out.room HB.out)
        have hl6 := τ4.len_alw 1 0 (by omega)
        obtain ⟨τ5, ht5⟩ : ∃ τ5, τ5 = τ4.alw 1 0 := ⟨_, rfl⟩
        unfold dv AlwPost at hc
        rw [← ht5] at hc hl6
        go_wp2_with fail
        ((with_reducible refine hc.mono ?_))
        rintro e W7 ⟨rfl, hd, ht⟩
        have HT6 := Lib.hid (HT5.out.call HS.out hd ht)
        clear hc hd ht HT5
        have HE := Lib.hid (show τ.hop x = (v, τ5) by unfold DSt.hop; rw [← ht1, ← ht2, ht3]; simp only; rw [← ht4, ← ht5])
        have HLn := Lib.hid (show τ5.len ≤ σ.len + 48 * (j + 1) by omega)
        clear ht1 ht2 ht3 ht4 ht5 hl1 hl2 hl3 hl4 hl5 hl6
        have q1 : IntKind.i64.wrap ((j : Int) + 1) = ((j + 1 : Nat) : Int) := by rw [IntKind.wrap_i64]; omega
        go_wp2
        go_roundw
        case rel =>
          have ha := HA.out.all
          have h1 := HA.out.res
          have h3 := HA.out.tot
          simp only [DSt.hops, HE.out] at h1
          refine ⟨j + 1, dn ++ [(v : Int)], td, τ5, rfl, HT6.out.dir, ?_, HT6.out.turn, HT6.out.ge, by simp [ha], by simp [h1], HLn.out, by simp at h3 ⊢; omega⟩
          have h2 := HT6.out.out
          have e : (dn ++ x :: td).set j (v : Int) = (dn ++ [(v : Int)]) ++ td := by subst ha; simp
          rw [e] at h2
          exact h2
        case measure => simp [intOf]; omega
end
end Go.Proofs.Ytocogdcecnnnnaa
