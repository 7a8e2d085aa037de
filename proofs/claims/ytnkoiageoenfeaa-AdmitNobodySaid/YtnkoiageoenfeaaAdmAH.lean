/-
  Keys, entries and families in memory; the document's Before, Kin, Has, worse. Condition: none beside what is said.
  The document's Has, worse, with (viaductref14). Condition: fewer than a thousand million entries.
  The document's with (viaductref14): an entry in its place. Condition: fewer than a thousand million entries.
  The document's Families (viaductref14). Condition: fewer than a thousand million entries.
  The document's Ledger and fits (viaductref14). Condition: fewer than a thousand million entries, in order, of which each may be wanted; numbers of 64 bits.
  The document's victim (viaductref14): who is driven out next. Condition: fewer than a thousand million entries.
  The document's Drop (viaductref14). Condition: fewer than a thousand million entries.
  The document's Admit (viaductref14). Condition: entries in order, of which each may be wanted; numbers of 64 bits.
-/
import Derived.Test.YtnkoiageoenfeaaAdmMO
import Derived.Test.YtnkoiageoenfeaaStepS
import Derived.Test.YtnkoiageoenfeaaEqv
import Derived.Deep.CutBlock
import Derived.Laws.OwnMore
import Derived.Test.YtnkoiageoenfeaaLedgR
import Derived.Test.YtnkoiageoenfeaaGroupB
namespace Go.Proofs.Ytnkoiageoenfeaa
set_option maxRecDepth 100000
set_option linter.unusedVariables false
open Go.RowKit

def kyc (k : Ky) : List Value := [.int .i64 k.tail, .int .i64 k.tun, .int .i64 k.head, .int .i64 k.lsp]
def ent (x : Et) : List Value := [.int .i64 x.k.tail, .int .i64 x.k.tun, .int .i64 x.k.head, .int .i64 x.k.lsp, .int .u64 (x.w.bw : Int), .int .i64 x.w.su, .int .i64 x.w.ho, .int .u32 (x.w.an : Int), .int .u32 (x.w.al : Int), .int .u32 (x.w.no : Int)]
def fmc (f : Fam) : List Value := [.int .i64 f.k.tail, .int .i64 f.k.tun, .int .i64 f.k.head, .int .i64 f.k.lsp, .int .u64 (f.bw : Int), .int .i64 f.ho]
theorem kyc_length (k : Ky) : (kyc k).length = 4 := rfl
theorem ent_length (x : Et) : (ent x).length = 10 := rfl
theorem fmc_length (f : Fam) : (fmc f).length = 6 := rfl
theorem kyc_one (k : Ky) : ∀ u ∈ kyc k, u.oneCell' = true := by intro u hu; simp [kyc] at hu; rcases hu with rfl | rfl | rfl | rfl <;> rfl
theorem ent_one (x : Et) : ∀ u ∈ ent x, u.oneCell' = true := by intro u hu; simp [ent] at hu; rcases hu with rfl | rfl | rfl | rfl | rfl | rfl | rfl | rfl | rfl | rfl <;> rfl
theorem fmc_one (f : Fam) : ∀ u ∈ fmc f, u.oneCell' = true := by intro u hu; simp [fmc] at hu; rcases hu with rfl | rfl | rfl | rfl | rfl | rfl <;> rfl

/-- One cell of one value of such a slice is set. -/
theorem flat_set {α : Type} {enc : α → List Value} {k : Nat} (hk : ∀ x, (enc x).length = k) {l : List α} {i j : Nat} (hi : i < l.length) (hj : j < k) {x' : α} {u : Value} (h : enc x' = (enc l[i]).set j u) : (l.set i x').flatMap enc = (l.flatMap enc).set (i * k + j) u := by
  refine List.ext_getElem? fun q => ?_
  by_cases hq : q < l.length * k
  · have hk0 : 0 < k := by omega
    have hd : q / k < l.length := Nat.div_lt_of_lt_mul (by rw [Nat.mul_comm]; exact hq)
    have hm := Nat.mod_lt q hk0
    have e1 : q / k * k + q % k = q := by rw [Nat.mul_comm]; exact Nat.div_add_mod q k
    have h1 := flat_get hk (l.set i x') (q / k) (by simpa using hd) (q % k) hm
    have h2 := flat_get hk l (q / k) hd (q % k) hm
    rw [e1] at h1 h2
    rw [h1, List.getElem?_set]
    by_cases hqi : q / k = i
    · have e2 : (l.set i x')[q / k]'(by simpa using hd) = x' := by simp [hqi]
      rw [e2, h, List.getElem?_set]
      by_cases hqj : q % k = j
      · have e3 : i * k + j = q := by rw [← hqi, ← hqj]; exact e1
        rw [if_pos hqj.symm, if_pos e3, hk, flat_length hk, if_pos hj, if_pos (by omega)]
      · have e3 : ¬ i * k + j = q := fun e => hqj (by rw [← e, Nat.mul_comm, Nat.mul_add_mod]; exact Nat.mod_eq_of_lt hj)
        rw [if_neg (fun e => hqj e.symm), if_neg e3, h2]
        simp only [hqi]
    · have e2 : (l.set i x')[q / k]'(by simpa using hd) = l[q / k] := by simp [Ne.symm hqi]
      have e3 : ¬ i * k + j = q := fun e => hqi (by rw [← e, Nat.mul_comm, Nat.mul_add_div hk0]; simp [Nat.div_eq_of_lt hj])
      rw [e2, if_neg e3, h2]
  · rw [List.getElem?_eq_none (by rw [flat_length hk, List.length_set]; omega), List.getElem?_eq_none (by rw [List.length_set, flat_length hk]; omega)]
theorem accr_setCell {α : Type} {enc : α → List Value} {k base c g : Nat} {w : World} {T : TypeId} {l : List α} (hk : ∀ x, (enc x).length = k) (h : AccR enc k w base T (some ⟨g, 0, none⟩) c l) {i j : Nat} (hi : i < l.length) (hj : j < k) {x' : α} {u : Value} (hx : enc x' = (enc l[i]).set j u) :
    AccR enc k (w.setCell ⟨g, i * k + j, none⟩ u) base T (some ⟨g, 0, none⟩) c (l.set i x') := by
  have := (World.ownsRow.stored h (i * k + j) u).1
  unfold AccR
  rw [flat_set hk hi hj hx, List.length_set]
  exact this
theorem accr_free {α : Type} {enc : α → List Value} {k base c g : Nat} {w : World} {T : TypeId} {l : List α} (h : AccR enc k w base T (some ⟨g, 0, none⟩) c l) (j : Nat) : w.frozen? ⟨g, j, none⟩ = false := World.ownsRow.frozenAt h j

/-- A yes or no, and memory is only more. -/
def Yes14 (b : Bool) (w : World) (e : Ending) (w' : World) : Prop := e = .returned (.bool b) ∧ Below w.heap.size w w'
theorem rbefore14_calls (a b : Ky) (w : World) : Calls Try.prog 13 #[.agg #[.int .i64 a.tail, .int .i64 a.tun, .int .i64 a.head, .int .i64 a.lsp], .agg #[.int .i64 b.tail, .int .i64 b.tun, .int .i64 b.head, .int .i64 b.lsp]] w (Yes14 (kBef a b) w) := by
  obtain ⟨a0, a1, a2, a3⟩ := a
  obtain ⟨b0, b1, b2, b3⟩ := b
  unfold Yes14 kBef
  simp only
  by_cases h1 : a2 = b2
  · subst h1
    have g1 : (a2 != a2) = false := by simp
    rw [if_neg (by simp)]
    by_cases h2 : a1 = b1
    · subst h2
      have g2 : (a1 != a1) = false := by simp
      rw [if_neg (by simp)]
      by_cases h3 : a0 = b0
      · subst h3
        have g3 : (a0 != a0) = false := by simp
        rw [if_neg (by simp)]
        go_enter Try.func13, Try.ntmps13
        go_wp2_with fail
        go_ret
        exact ⟨rfl, bel_new (bel_new (Below.refl _ _) _) _⟩
      · have g3 : (a0 != b0) = true := bne_iff_ne.2 h3
        rw [if_pos h3]
        go_enter Try.func13, Try.ntmps13
        go_wp2_with fail
        go_ret
        exact ⟨rfl, bel_new (bel_new (Below.refl _ _) _) _⟩
    · have g2 : (a1 != b1) = true := bne_iff_ne.2 h2
      rw [if_pos h2]
      go_enter Try.func13, Try.ntmps13
      go_wp2_with fail
      go_ret
      exact ⟨rfl, bel_new (bel_new (Below.refl _ _) _) _⟩
  · have g1 : (a2 != b2) = true := bne_iff_ne.2 h1
    rw [if_pos h1]
    go_enter Try.func13, Try.ntmps13
    go_wp2_with fail
    go_ret
    exact ⟨rfl, bel_new (bel_new (Below.refl _ _) _) _⟩
theorem rkin14_calls (a b : Ky) (w : World) : Calls Try.prog 15 #[.agg #[.int .i64 a.tail, .int .i64 a.tun, .int .i64 a.head, .int .i64 a.lsp], .agg #[.int .i64 b.tail, .int .i64 b.tun, .int .i64 b.head, .int .i64 b.lsp]] w (Yes14 (kKin a b) w) := by
  obtain ⟨a0, a1, a2, a3⟩ := a
  obtain ⟨b0, b1, b2, b3⟩ := b
  unfold Yes14 kKin
  simp only
  have e1 : ∃ c1, (a2 == b2) = c1 := ⟨_, rfl⟩
  have e2 : ∃ c2, (a1 == b1) = c2 := ⟨_, rfl⟩
  have e3 : ∃ c3, (a0 == b0) = c3 := ⟨_, rfl⟩
  obtain ⟨c1, e1⟩ := e1
  obtain ⟨c2, e2⟩ := e2
  obtain ⟨c3, e3⟩ := e3
  rw [e1, e2, e3]
  cases c1 with
  | false =>
    go_enter Try.func15, Try.ntmps15
    go_wp2_with fail
    go_ret
    exact ⟨rfl, bel_new (bel_new (Below.refl _ _) _) _⟩
  | true =>
    cases c2 with
    | false =>
      go_enter Try.func15, Try.ntmps15
      go_wp2_with fail
      go_ret
      exact ⟨rfl, bel_new (bel_new (Below.refl _ _) _) _⟩
    | true =>
      cases c3 with
      | false =>
        go_enter Try.func15, Try.ntmps15
        go_wp2_with fail
        go_ret
        exact ⟨rfl, bel_new (bel_new (Below.refl _ _) _) _⟩
      | true =>
        go_enter Try.func15, Try.ntmps15
        go_wp2_with fail
        go_ret
        exact ⟨rfl, bel_new (bel_new (Below.refl _ _) _) _⟩
end Go.Proofs.Ytnkoiageoenfeaa

namespace Go.Proofs.Ytnkoiageoenfeaa
set_option maxRecDepth 100000
set_option linter.unusedVariables false
open Go.RowKit

/-- An operation behind a guard that does not hold is not carried out. -/
theorem seq_unmake14 {P : Program} {ops : Array Oper} {Q : Exit → Act → World → Prop} {S : World → Prop} {i : Nat} {r : List (Nat × Bool)} {a : Act} {w : World} {o : Oper} (ho : ops.toList[i]? = some o) (hw : Region.wanted o (yielded ops a.tmps) = false) (hS : S w)
    (h : wpSeq P ops Q S r (a.put o.dst undef) w) : wpSeq P ops Q S ((i, false) :: r) a w := by
  refine wpOp_step (o := o) (by rw [← Array.getElem?_toList]; exact ho) (fun K hK => ?_)
  rw [if_neg (by rw [hw]; exact Bool.false_ne_true)]
  exact hK _ _ ⟨S, fun _ h => h, hS, h⟩
theorem accr_ne14 {α : Type} {W : World} {enc : α → List Value} {k base q : Nat} {T T' : TypeId} {A : Option Addr} {cc : Nat} {l : List α} {vs : List Value} (h : AccR enc k W base T A cc l) (hb : Blk W q T' vs) (hne : T ≠ T') : ∀ x, blk A = some x → x ≠ q := by
  intro x hx e
  subst e
  rcases h.2 with ⟨hv, _⟩ | ⟨g', cap, cur, hv, _, hh, _⟩
  · injection hv with e1 _ _
    subst e1
    simp [blk] at hx
  · injection hv with e1 _ _
    subst e1
    simp [blk] at hx
    subst hx
    unfold Blk at hb
    rw [hb] at hh
    injection hh with hh
    injection hh with _ hh _
    exact hne hh.symm
theorem ky_inj {a b : Ky} (h : kyc a = kyc b) : a = b := by
  obtain ⟨a0, a1, a2, a3⟩ := a
  obtain ⟨b0, b1, b2, b3⟩ := b
  simp [kyc] at h
  obtain ⟨rfl, rfl, rfl, rfl⟩ := h
  rfl
/-- Two keys are compared. -/
theorem eq_ky (a b : Ky) (w : World) : (binOp .eql 23 (.agg #[.int .i64 a.tail, .int .i64 a.tun, .int .i64 a.head, .int .i64 a.lsp]) (.agg #[.int .i64 b.tail, .int .i64 b.tun, .int .i64 b.head, .int .i64 b.lsp])).run Try.prog w = .ok (.bool (decide (a = b))) w ∧
    (binOp .neq 23 (.agg #[.int .i64 a.tail, .int .i64 a.tun, .int .i64 a.head, .int .i64 a.lsp]) (.agg #[.int .i64 b.tail, .int .i64 b.tun, .int .i64 b.head, .int .i64 b.lsp])).run Try.prog w = .ok (.bool (!decide (a = b))) w :=
  eql_E (xs := kyc a) (ys := kyc b) (la := kyc a) (lb := kyc b) (m := 5) (D := 5) (by decide) (by kernel_rfl) (by rfl) (by rfl) (by rfl) (by rfl) w (decide (a = b)) (by rw [decide_eq_true_eq]; exact ⟨fun h => by rw [h], fun h => ky_inj h⟩)
/-- The place of one value of a slice, and its cells from then on. -/
theorem row_cells {α : Type} {enc : α → List Value} {k B n i : Nat} {w : World} {a : Option Addr} {l : List α} (hk : ∀ x, (enc x).length = k) (h : Row enc w B a n l) (hi : i < n) :
    ∃ b o x, a = some ⟨b, o, none⟩ ∧ l[i]? = some x ∧ b < B ∧ ∀ W, Below B w W → ∀ j v, (enc x)[j]? = some v → W.cell? ⟨b, o + i * k + j, none⟩ = some v := by
  obtain ⟨b, o, e, hb, hc⟩ := h.cells hk (by omega)
  have hi' : i < l.length := by rw [h.1]; exact hi
  refine ⟨b, o, l[i], e, List.getElem?_eq_getElem hi', hb, fun W hW j v hv => ?_⟩
  have hj : j < k := by
    have := (List.getElem?_eq_some_iff.1 hv).1
    rwa [hk] at this
  rw [hW.cell (p := ⟨b, o + i * k + j, none⟩) hb, hc i hi' j hj, hv]
theorem has_snoc {l : List Et} {i : Nat} {x : Et} (hx : l[i]? = some x) {k : Ky} (h : has14 (l.take i) k = false) (hk : x.k ≠ k) : has14 (l.take (i + 1)) k = false := by
  rw [has14_false] at h ⊢
  rw [List.take_add_one, hx]
  intro y hy
  rcases List.mem_append.1 hy with hy | hy
  · exact h y hy
  · simp at hy; rw [hy]; exact hk

set_option maxHeartbeats 1600000 in
theorem rhas14_calls (a : Option Addr) (n c : Nat) (l : List Et) (k : Ky) (w : World) (hr : Row ent w w.heap.size a n l) (hn : n ≤ 1073741824) : Calls Try.prog 35 #[.slice a n c, .agg #[.int .i64 k.tail, .int .i64 k.tun, .int .i64 k.head, .int .i64 k.lsp]] w (Yes14 (has14 l k) w) := by
  have HR := Lib.hid hr
  have HN := Lib.hid hn
  have hnl := hr.1
  unfold Yes14
  clear hr
  go_enter Try.func35, Try.ntmps35
  go_upto_region 1 with fail
  have HB := Lib.hid (show Blk (w.alloc (.cells #[.int .i64 k.tail, .int .i64 k.tun, .int .i64 k.head, .int .i64 k.lsp] 23)) w.heap.size 23 (kyc k) from Blk.new w _ (kyc k))
  have HL := Lib.hid (bel_new (Below.refl w.heap.size w) (.cells #[.int .i64 k.tail, .int .i64 k.tun, .int .i64 k.head, .int .i64 k.lsp] 23))
  generalize w.alloc _ = w1 at *
  go_wp2_with fail
  go_loopw [5] (fun t W => ∃ i : Nat, i ≤ n ∧ t = .int .i64 (i : Int) ∧ has14 (l.take i) k = false ∧ Below w1.heap.size w1 W) (fun t W => n - (intOf t).toNat)
  case atStart => exact ⟨0, by omega, rfl, rfl, Below.refl _ _⟩
  case round =>
    obtain ⟨i, hi, rfl, hno, hbl⟩ := hrel
    have HNO := Lib.hid hno
    have HBL := Lib.hid hbl
    clear hno hbl
    by_cases hin : i < n
    · have i1 : (i : Int) < (n : Int) := by omega
      obtain ⟨b, o, x, rfl, hx, hb, hc⟩ := row_cells ent_length HR.out hin
      have HX := Lib.hid hx
      have hcs : ∀ W, Below wr.heap.size wr W → (W.cell? ⟨b, o + i * 10, none⟩ = some (.int .i64 x.k.tail) ∧ W.cell? ⟨b, o + i * 10 + 1, none⟩ = some (.int .i64 x.k.tun) ∧ W.cell? ⟨b, o + i * 10 + 2, none⟩ = some (.int .i64 x.k.head) ∧ W.cell? ⟨b, o + i * 10 + 3, none⟩ = some (.int .i64 x.k.lsp)) ∧
          (W.cell? ⟨w.heap.size, 0, none⟩ = some (.int .i64 k.tail) ∧ W.cell? ⟨w.heap.size, 1, none⟩ = some (.int .i64 k.tun) ∧ W.cell? ⟨w.heap.size, 2, none⟩ = some (.int .i64 k.head) ∧ W.cell? ⟨w.heap.size, 3, none⟩ = some (.int .i64 k.lsp)) := by
        intro W hW
        have h1 : Below w1.heap.size w1 W := HBL.out.trans (hW.mono HBL.out.size)
        have h2 : Below w.heap.size w W := HL.out.trans (h1.mono HL.out.size)
        have h3 := HB.out.below h1
        exact ⟨⟨hc W h2 0 _ rfl, hc W h2 1 _ rfl, hc W h2 2 _ rfl, hc W h2 3 _ rfl⟩, h3.cell 0, h3.cell 1, h3.cell 2, h3.cell 3⟩
      have HCS := Lib.hid hcs
      have HEQ := Lib.hid (fun W => (eq_ky x.k k W).1)
      have HI := Lib.hid (And.intro hin hnl)
      obtain ⟨d, hd⟩ : ∃ d, decide (x.k = k) = d := ⟨_, rfl⟩
      rw [hd] at HEQ
      have HD := Lib.hid hd
      clear hx hc hcs hb hd hin hi hnl
      go_wp2_with fail
      refine region_seq (fun W => Below wr.heap.size wr W) [(0, true), (1, true), (2, true), (3, true), (4, true), (5, true), (6, true)] (by kernel_rfl) (by kernel_rfl) (by kernel_rfl) (by kernel_rfl) (fun _ _ _ _ _ h => h) (Below.refl _ _).drew ?_
      repeat first
        | refine seq_eqA (xs := kyc x.k) (ys := kyc k) (c := d) rfl (by rfl) rfl rfl rfl (by kernel_rfl) HEQ.out ?_
          simp only [Act.put, List.setIfInBounds_toArray, List.set_cons_zero, List.set_cons_succ]
        | refine seq_pure (v := ?_) rfl (by rfl) (fun W hW => ?_) ?_
          rotate_left
          · obtain ⟨⟨c0, c1, c2, c3⟩, k0, k1, k2, k3⟩ := HCS.out W hW
            clear hW
            go_simp
            with_reducible rfl
          simp only [Act.put, List.setIfInBounds_toArray, List.set_cons_zero, List.set_cons_succ]
      refine seq_done ?_
      cases d with
      | true =>
        go_wp2_with fail
        go_ret
        refine ⟨?_, HL.out.trans (HBL.out.drew.mono HL.out.size)⟩
        rw [has14_iff.2 ⟨x, List.mem_of_getElem? HX.out, of_decide_eq_true HD.out⟩]
        rfl
      | false =>
        go_wp2_with fail
        go_roundw
        case rel => exact ⟨i + 1, by have := HI.out.1; omega, by first | rfl | (simp; omega), has_snoc HX.out HNO.out (of_decide_eq_false HD.out), HBL.out.drew⟩
        case measure => have := HI.out.1; simp [intOf]; omega
    · have i1 : ¬ (i : Int) < (n : Int) := by omega
      have hall : has14 l k = false := by
        have := HNO.out
        rwa [List.take_of_length_le (by omega)] at this
      have HALL := Lib.hid hall
      clear hin hi hnl hall
      go_wp2_with fail
      go_ret
      exact ⟨by rw [HALL.out]; rfl, HL.out.trans (HBL.out.mono HL.out.size)⟩

theorem rworse14_calls (f g : Fam) (w : World) : Calls Try.prog 61 #[.agg #[.int .i64 f.k.tail, .int .i64 f.k.tun, .int .i64 f.k.head, .int .i64 f.k.lsp, .int .u64 (f.bw : Int), .int .i64 f.ho], .agg #[.int .i64 g.k.tail, .int .i64 g.k.tun, .int .i64 g.k.head, .int .i64 g.k.lsp, .int .u64 (g.bw : Int), .int .i64 g.ho]] w (Yes14 (worse14 f g) w) := by
  obtain ⟨⟨a0, a1, a2, a3⟩, fb, fh⟩ := f
  obtain ⟨⟨b0, b1, b2, b3⟩, gb, gh⟩ := g
  have hk := rbefore14_calls ⟨b0, b1, b2, b3⟩ ⟨a0, a1, a2, a3⟩
  unfold Yes14 worse14 at *
  simp only at hk ⊢
  by_cases h1 : fh = gh
  · subst h1
    have g1 : (fh != fh) = false := by simp
    rw [if_neg (by simp)]
    by_cases h2 : fb = gb
    · subst h2
      have g2 : ((fb : Int) != (fb : Int)) = false := by simp
      rw [if_neg (by simp)]
      have HK := Lib.hid hk
      clear hk
      go_enter Try.func61, Try.ntmps61
      go_wp2_with fail
      ((with_reducible refine (HK.out _).mono ?_))
      rintro e w2 ⟨rfl, hb⟩
      go_wp2_with fail
      go_ret
      exact ⟨rfl, (bel_new (bel_new (Below.refl _ _) _) _).trans (hb.mono (bel_new (bel_new (Below.refl _ _) _) _).size)⟩
    · have g2 : ((fb : Int) != (gb : Int)) = true := bne_iff_ne.2 (by omega)
      rw [if_pos h2]
      clear hk
      go_enter Try.func61, Try.ntmps61
      go_wp2_with fail
      go_ret
      exact ⟨by simp, bel_new (bel_new (Below.refl _ _) _) _⟩
  · have g1 : (fh != gh) = true := bne_iff_ne.2 h1
    rw [if_pos h1]
    clear hk
    go_enter Try.func61, Try.ntmps61
    go_wp2_with fail
    go_ret
    exact ⟨by simp, bel_new (bel_new (Below.refl _ _) _) _⟩
end Go.Proofs.Ytnkoiageoenfeaa

namespace Go.Proofs.Ytnkoiageoenfeaa
set_option maxRecDepth 100000
set_option linter.unusedVariables false
open Go.RowKit

theorem infoEnt14 : (Try.prog.info? 78).map (fun i => (i.zero, i.size, i.bytes)) = some (some (.agg #[.int .i64 0, .int .i64 0, .int .i64 0, .int .i64 0, .int .u64 0, .int .i64 0, .int .i64 0, .int .u32 0, .int .u32 0, .int .u32 0]), 10, 72) := by kernel_rfl
/-- Entries that a call gathers. -/
def AccEt (w : World) (base : Nat) (A : Option Addr) (c : Nat) (l : List Et) : Prop := AccR ent 10 w base 78 A c l
theorem accet_push {w : World} {base c : Nat} {A : Option Addr} {l : List Et} (h : AccEt w base A c l) (x : Et) (hb : base ≤ w.heap.size) (hl : l.length ≤ 1099511627776) :
    ∃ A' c' w', (Builtin.append_ #[30, 30] 30 #[.slice A l.length c, .slice (some ⟨w.heap.size, 0, none⟩) 1 1]).run Try.prog (w.alloc (.cells #[.int .i64 x.k.tail, .int .i64 x.k.tun, .int .i64 x.k.head, .int .i64 x.k.lsp, .int .u64 (x.w.bw : Int), .int .i64 x.w.su, .int .i64 x.w.ho, .int .u32 (x.w.an : Int), .int .u32 (x.w.al : Int), .int .u32 (x.w.no : Int)] 78)) = .ok (.slice A' (l.length + 1) c') w' ∧
      AccEt w' base A' c' (l ++ [x]) ∧ w.grownBy w' (blk A) :=
  accr_push ent_length ent_one (by omega) h x Try.underlying30 infoEnt14 rfl hb (by omega) (by omega)
theorem take_snoc14 {α : Type} {l : List α} {i : Nat} {x : α} (h : l[i]? = some x) : l.take (i + 1) = l.take i ++ [x] := by
  rw [List.take_add_one, h]; rfl
theorem takeWhile_cut {α : Type} {p : α → Bool} : ∀ (l : List α) (i : Nat), i ≤ l.length → (∀ k y, k < i → l[k]? = some y → p y = true) → (∀ y, l[i]? = some y → p y = false) → l.takeWhile p = l.take i ∧ l.dropWhile p = l.drop i
  | [], i, hi, _, _ => by simp
  | a :: t, 0, _, _, h => by
    have := h a rfl
    simp [this]
  | a :: t, i + 1, hi, h1, h2 => by
    have ha := h1 0 a (by omega) rfl
    obtain ⟨e1, e2⟩ := takeWhile_cut t i (by simpa using hi) (fun k y hk hy => h1 (k + 1) y (by omega) hy) (fun y hy => h2 y hy)
    simp [ha, e1, e2]
theorem wIns_cut {l : List Et} {x : Et} {i : Nat} (hi : i ≤ l.length) (h1 : ∀ k y, k < i → l[k]? = some y → kBef y.k x.k = true) (h2 : ∀ y, l[i]? = some y → kBef y.k x.k = false) : wIns l x = l.take i ++ x :: l.drop i := by
  obtain ⟨e1, e2⟩ := takeWhile_cut (p := fun y => kBef y.k x.k) l i hi h1 h2
  unfold wIns
  rw [e1, e2]

/-- What it answers. -/
def WithPost (w : World) (l : List Et) (x : Et) (e : Ending) (w' : World) : Prop := ∃ A c', e = .returned (.slice A (l.length + 1) c') ∧ AccEt w' w.heap.size A c' (wIns l x) ∧ Below w.heap.size w w'
set_option maxHeartbeats 6400000 in
theorem rwith14_calls (a : Option Addr) (n c : Nat) (l : List Et) (x : Et) (w : World) (hr : Row ent w w.heap.size a n l) (hn : n ≤ 1073741824) : Calls Try.prog 42 #[.slice a n c, .agg #[.int .i64 x.k.tail, .int .i64 x.k.tun, .int .i64 x.k.head, .int .i64 x.k.lsp, .int .u64 (x.w.bw : Int), .int .i64 x.w.su, .int .i64 x.w.ho, .int .u32 (x.w.an : Int), .int .u32 (x.w.al : Int), .int .u32 (x.w.no : Int)]] w (WithPost w l x) := by
  have HR := Lib.hid hr
  have HN := Lib.hid (And.intro hr.1 hn)
  unfold WithPost
  clear hr
  go_enter Try.func42, Try.ntmps42
  go_upto_block 0 with fail
  have X1 := Lib.hid (show Blk (w.alloc (.cells #[.int .i64 x.k.tail, .int .i64 x.k.tun, .int .i64 x.k.head, .int .i64 x.k.lsp, .int .u64 (x.w.bw : Int), .int .i64 x.w.su, .int .i64 x.w.ho, .int .u32 (x.w.an : Int), .int .u32 (x.w.al : Int), .int .u32 (x.w.no : Int)] 78)) w.heap.size 78 (ent x) from Blk.new w _ (ent x))
  have B1 := Lib.hid (bel_new (Below.refl w.heap.size w) (.cells #[.int .i64 x.k.tail, .int .i64 x.k.tun, .int .i64 x.k.head, .int .i64 x.k.lsp, .int .u64 (x.w.bw : Int), .int .i64 x.w.su, .int .i64 x.w.ho, .int .u32 (x.w.an : Int), .int .u32 (x.w.al : Int), .int .u32 (x.w.no : Int)] 78))
  generalize w.alloc _ = w1 at *
  go_cut [5, 6] from 7 to 29 (fun s t W => ∃ (i c1 : Nat) (A : Option Addr), s = .slice A i c1 ∧ t = .int .i64 (i : Int) ∧ i ≤ n ∧ AccEt W w1.heap.size A c1 (l.take i) ∧ (∀ k y, k < i → l[k]? = some y → kBef y.k x.k = true) ∧ (∀ y, l[i]? = some y → kBef y.k x.k = false) ∧ Below w1.heap.size w1 W)
  case first =>
    go_wp2_with fail
    go_loopw [5, 6] (fun s t W => ∃ (i c1 : Nat) (A : Option Addr), s = .slice A i c1 ∧ t = .int .i64 (i : Int) ∧ i ≤ n ∧ AccEt W w1.heap.size A c1 (l.take i) ∧ (∀ k y, k < i → l[k]? = some y → kBef y.k x.k = true) ∧ Below w1.heap.size w1 W) (fun s t W => n - (intOf t).toNat)
    case atStart => exact ⟨0, 0, none, rfl, rfl, Nat.zero_le _, AccR.nil _ _ _, fun k y hk => by omega, Below.refl _ _⟩
    case round =>
      obtain ⟨i, c1, A, rfl, rfl, hin, ha, hle, hb⟩ := hrel
      have HA := Lib.hid ha
      have HLE := Lib.hid hle
      have HB := Lib.hid hb
      clear ha hle hb
      have hkx : ∀ W, Below wr.heap.size wr W → W.cell? ⟨w.heap.size, 0, none⟩ = some (.int .i64 x.k.tail) ∧ W.cell? ⟨w.heap.size, 1, none⟩ = some (.int .i64 x.k.tun) ∧ W.cell? ⟨w.heap.size, 2, none⟩ = some (.int .i64 x.k.head) ∧ W.cell? ⟨w.heap.size, 3, none⟩ = some (.int .i64 x.k.lsp) := fun W hW => by
        have h3 := X1.out.below (HB.out.trans (hW.mono HB.out.size))
        exact ⟨h3.cell 0, h3.cell 1, h3.cell 2, h3.cell 3⟩
      have HKX := Lib.hid hkx
      clear hkx
      by_cases hlt : i < n
      · have i1 : (i : Int) < (n : Int) := by omega
        have g1 : decide ((i : Int) < (n : Int)) = true := decide_eq_true i1
        have g2 : decide (i < n) = true := decide_eq_true hlt
        obtain ⟨b, o, y, rfl, hy, hb', hc⟩ := row_cells ent_length HR.out hlt
        have HY := Lib.hid hy
        have hce : ∀ W, Below wr.heap.size wr W → ∀ j v, (ent y)[j]? = some v → W.cell? ⟨b, o + i * 10 + j, none⟩ = some v := fun W hW => hc W (B1.out.trans ((HB.out.trans (hW.mono HB.out.size)).mono B1.out.size))
        have hck : ∀ W, Below wr.heap.size wr W → W.cell? ⟨b, o + i * 10, none⟩ = some (.int .i64 y.k.tail) ∧ W.cell? ⟨b, o + i * 10 + 1, none⟩ = some (.int .i64 y.k.tun) ∧ W.cell? ⟨b, o + i * 10 + 2, none⟩ = some (.int .i64 y.k.head) ∧ W.cell? ⟨b, o + i * 10 + 3, none⟩ = some (.int .i64 y.k.lsp) := fun W hW => ⟨hce W hW 0 _ rfl, hce W hW 1 _ rfl, hce W hW 2 _ rfl, hce W hW 3 _ rfl⟩
        have HCE := Lib.hid hce
        have HCK := Lib.hid hck
        obtain ⟨d, hd⟩ : ∃ d, kBef y.k x.k = d := ⟨_, rfl⟩
        have hlc := fun W => rbefore14_calls y.k x.k W
        unfold Yes14 at hlc
        rw [hd] at hlc
        have HLC := Lib.hid hlc
        have HD := Lib.hid hd
        clear hy hb' hc hce hck hlc hd
        go_wp2_with fail
        refine region_seq (fun W => Below wr.heap.size wr W) [(0, true), (1, true), (2, true), (3, true), (4, true), (5, true), (6, true), (7, true), (8, true), (9, true), (10, true), (11, true), (12, false), (13, true)]
          (by kernel_rfl) (by kernel_rfl) (by kernel_rfl) (by kernel_rfl) (fun _ _ _ _ _ h => h) (Below.refl _ _).drew ?_
        repeat
          refine seq_pure (v := ?_) rfl (by rfl) (fun W hW => ?_) ?_
          rotate_left
          · obtain ⟨c0, c1, c2, c3⟩ := HCK.out W hW
            obtain ⟨k0, k1, k2, k3⟩ := HKX.out W hW
            clear hW
            go_simp
            with_reducible rfl
          simp only [Act.put, List.setIfInBounds_toArray, List.set_cons_zero, List.set_cons_succ]
        refine seq_make rfl (by rfl) (fun K hK => ?_)
        go_simp
        ((with_reducible refine (HLC.out wr.drew).mono ?_))
        rintro e w7 ⟨rfl, hb7⟩
        have C7 := Lib.hid (show Below wr.heap.size wr w7 from below_of_drew hb7)
        clear hb7
        go_simp
        refine hK _ _ (fun W => Below wr.heap.size wr W) (fun W h => h) C7.out ?_
        clear hK K
        repeat
          refine seq_pure (v := ?_) rfl (by rfl) (fun W hW => ?_) ?_
          rotate_left
          · clear hW
            go_simp
            with_reducible rfl
          simp only [Act.put, List.setIfInBounds_toArray, List.set_cons_zero, List.set_cons_succ]
        refine seq_done ?_
        cases d with
        | false =>
          go_wp2_with fail
          go_meet
          exact ⟨i, c1, A, rfl, rfl, hin, HA.out.bel C7.out, HLE.out, fun u hu => by have := HY.out.symm.trans hu; injection this with this; subst this; exact HD.out, HB.out.trans (C7.out.mono HB.out.size)⟩
        | true =>
          have y0 : w7.cell? ⟨b, o + i * 10, none⟩ = some (.int .i64 y.k.tail) := HCE.out w7 C7.out 0 _ rfl
          have y1 : w7.cell? ⟨b, o + i * 10 + 1, none⟩ = some (.int .i64 y.k.tun) := HCE.out w7 C7.out 1 _ rfl
          have y2 : w7.cell? ⟨b, o + i * 10 + 2, none⟩ = some (.int .i64 y.k.head) := HCE.out w7 C7.out 2 _ rfl
          have y3 : w7.cell? ⟨b, o + i * 10 + 3, none⟩ = some (.int .i64 y.k.lsp) := HCE.out w7 C7.out 3 _ rfl
          have y4 : w7.cell? ⟨b, o + i * 10 + 4, none⟩ = some (.int .u64 (y.w.bw : Int)) := HCE.out w7 C7.out 4 _ rfl
          have y5 : w7.cell? ⟨b, o + i * 10 + 5, none⟩ = some (.int .i64 y.w.su) := HCE.out w7 C7.out 5 _ rfl
          have y6 : w7.cell? ⟨b, o + i * 10 + 6, none⟩ = some (.int .i64 y.w.ho) := HCE.out w7 C7.out 6 _ rfl
          have y7 : w7.cell? ⟨b, o + i * 10 + 7, none⟩ = some (.int .u32 (y.w.an : Int)) := HCE.out w7 C7.out 7 _ rfl
          have y8 : w7.cell? ⟨b, o + i * 10 + 8, none⟩ = some (.int .u32 (y.w.al : Int)) := HCE.out w7 C7.out 8 _ rfl
          have y9 : w7.cell? ⟨b, o + i * 10 + 9, none⟩ = some (.int .u32 (y.w.no : Int)) := HCE.out w7 C7.out 9 _ rfl
          have hlen : (l.take i).length = i := by rw [List.length_take]; have := HN.out.1; omega
          have ha7 : AccEt w7 w1.heap.size A c1 (l.take i) := AccR.bel HA.out C7.out
          obtain ⟨A8, c8, w8, r8, a8, g8⟩ := accet_push ha7 y (Nat.le_trans HB.out.size C7.out.size) (by rw [hlen]; have := HN.out.2; omega)
          rw [hlen] at r8
          rw [← take_snoc14 HY.out] at a8
          have B8 := Lib.hid (show Below w1.heap.size w1 w8 from belr_acc (HB.out.trans (C7.out.mono HB.out.size)) ha7 g8)
          have A8' := Lib.hid a8
          have R8 := Lib.hid r8
          clear r8 a8 g8 hlen ha7
          go_wp2_with (at_builtin; refine step_append rfl rfl rfl rfl R8.out ?_)
          go_roundw
          case rel =>
            refine ⟨i + 1, c8, A8, rfl, rfl, by omega, A8'.out, fun k u hk hu => ?_, B8.out⟩
            by_cases hki : k = i
            · subst hki
              have := HY.out.symm.trans hu
              injection this with this
              subst this
              exact HD.out
            · exact HLE.out k u (by omega) hu
          case measure => simp [intOf]; omega
      · obtain rfl : i = n := by omega
        have i1 : ¬ (i : Int) < (i : Int) := by omega
        go_wp2_with fail
        refine region_seq (fun W => Below wr.heap.size wr W) [(0, true), (1, true), (2, true), (3, true), (4, true), (5, true), (6, true), (7, true), (8, true), (9, true), (10, true), (11, true), (12, false), (13, true)]
          (by kernel_rfl) (by kernel_rfl) (by kernel_rfl) (by kernel_rfl) (fun _ _ _ _ _ h => h) (Below.refl _ _).drew ?_
        repeat first
          | refine seq_pure (v := ?_) rfl (by rfl) (fun W hW => ?_) ?_
            rotate_left
            · clear hW
              go_simp
              with_reducible rfl
            simp only [Act.put, List.setIfInBounds_toArray, List.set_cons_zero, List.set_cons_succ]
          | refine seq_skip rfl (by rfl) ?_
            simp only [Act.put, List.setIfInBounds_toArray, List.set_cons_zero, List.set_cons_succ]
        refine seq_unmake14 rfl (by rfl) (Below.refl _ _).drew ?_
        simp only [Act.put, List.setIfInBounds_toArray, List.set_cons_zero, List.set_cons_succ]
        repeat
          refine seq_pure (v := ?_) rfl (by rfl) (fun W hW => ?_) ?_
          rotate_left
          · clear hW
            go_simp
            with_reducible rfl
          simp only [Act.put, List.setIfInBounds_toArray, List.set_cons_zero, List.set_cons_succ]
        refine seq_done ?_
        go_wp2_with fail
        go_meet
        exact ⟨i, c1, A, rfl, rfl, hin, HA.out.drew, HLE.out, fun u hu => (by rw [List.getElem?_eq_none (by have := HN.out.1; omega)] at hu; cases hu), HB.out.drew⟩
  case rest =>
    obtain ⟨i, c1, A, rfl, rfl, hin, ha, hle, hlt, hb⟩ := hcut
    have hL := wIns_cut (l := l) (x := x) (i := i) (by have := HN.out.1; omega) hle hlt
    have hlen : (l.take i).length = i := by rw [List.length_take]; have := HN.out.1; omega
    have htk : (wIns l x).take (i + 1) = l.take i ++ [x] := by
      rw [hL, List.take_append, hlen, List.take_of_length_le (by rw [hlen]; omega)]
      simp
    have hnx : ∀ k y, i ≤ k → l[k]? = some y → (wIns l x)[k + 1]? = some y := by
      intro k y hk hy
      rw [hL, List.getElem?_append_right (by rw [hlen]; omega), hlen, show k + 1 - i = (k - i) + 1 by omega, List.getElem?_cons_succ, List.getElem?_drop, show i + (k - i) = k by omega]
      exact hy
    have hLn : (wIns l x).length = n + 1 := by rw [wIns_length, HN.out.1]
    have HT := Lib.hid htk
    have HX := Lib.hid hnx
    have HLN := Lib.hid hLn
    have HB := Lib.hid hb
    have hx := X1.out.below hb
    have y0 : wc.cell? ⟨w.heap.size, 0, none⟩ = some (.int .i64 x.k.tail) := hx.cell 0
    have y1 : wc.cell? ⟨w.heap.size, 1, none⟩ = some (.int .i64 x.k.tun) := hx.cell 1
    have y2 : wc.cell? ⟨w.heap.size, 2, none⟩ = some (.int .i64 x.k.head) := hx.cell 2
    have y3 : wc.cell? ⟨w.heap.size, 3, none⟩ = some (.int .i64 x.k.lsp) := hx.cell 3
    have y4 : wc.cell? ⟨w.heap.size, 4, none⟩ = some (.int .u64 (x.w.bw : Int)) := hx.cell 4
    have y5 : wc.cell? ⟨w.heap.size, 5, none⟩ = some (.int .i64 x.w.su) := hx.cell 5
    have y6 : wc.cell? ⟨w.heap.size, 6, none⟩ = some (.int .i64 x.w.ho) := hx.cell 6
    have y7 : wc.cell? ⟨w.heap.size, 7, none⟩ = some (.int .u32 (x.w.an : Int)) := hx.cell 7
    have y8 : wc.cell? ⟨w.heap.size, 8, none⟩ = some (.int .u32 (x.w.al : Int)) := hx.cell 8
    have y9 : wc.cell? ⟨w.heap.size, 9, none⟩ = some (.int .u32 (x.w.no : Int)) := hx.cell 9
    obtain ⟨A8, c8, w8, r8, a8, g8⟩ := accet_push ha x hb.size (by rw [hlen]; have := HN.out.2; omega)
    rw [hlen] at r8
    rw [← htk] at a8
    have B8 := Lib.hid (show Below w1.heap.size w1 w8 from belr_acc hb ha g8)
    have A8' := Lib.hid a8
    have R8 := Lib.hid r8
    clear hL htk hnx hLn hb hx r8 a8 g8 hlen ha hle hlt
    go_wp2_with (at_builtin; refine step_append rfl rfl rfl rfl R8.out ?_)
    go_loopw [5, 6] (fun s t W => ∃ (k c1 : Nat) (A : Option Addr), s = .slice A (k + 1) c1 ∧ t = .int .i64 (k : Int) ∧ i ≤ k ∧ k ≤ n ∧ AccEt W w1.heap.size A c1 ((wIns l x).take (k + 1)) ∧ Below w1.heap.size w1 W) (fun s t W => n - (intOf t).toNat)
    case atStart => exact ⟨i, c8, A8, rfl, rfl, Nat.le_refl _, hin, A8'.out, B8.out⟩
    case round =>
      obtain ⟨k, ck, Ak, rfl, rfl, hik, hkn, ha, hb⟩ := hrel
      have HA := Lib.hid ha
      have HBk := Lib.hid hb
      clear ha hb
      by_cases hlt : k < n
      · obtain ⟨b, o, y, rfl, hy, hb', hc⟩ := row_cells ent_length HR.out hlt
        have hce := hc wr (B1.out.trans (HBk.out.mono B1.out.size))
        have z0 : wr.cell? ⟨b, o + k * 10, none⟩ = some (.int .i64 y.k.tail) := hce 0 _ rfl
        have z1 : wr.cell? ⟨b, o + k * 10 + 1, none⟩ = some (.int .i64 y.k.tun) := hce 1 _ rfl
        have z2 : wr.cell? ⟨b, o + k * 10 + 2, none⟩ = some (.int .i64 y.k.head) := hce 2 _ rfl
        have z3 : wr.cell? ⟨b, o + k * 10 + 3, none⟩ = some (.int .i64 y.k.lsp) := hce 3 _ rfl
        have z4 : wr.cell? ⟨b, o + k * 10 + 4, none⟩ = some (.int .u64 (y.w.bw : Int)) := hce 4 _ rfl
        have z5 : wr.cell? ⟨b, o + k * 10 + 5, none⟩ = some (.int .i64 y.w.su) := hce 5 _ rfl
        have z6 : wr.cell? ⟨b, o + k * 10 + 6, none⟩ = some (.int .i64 y.w.ho) := hce 6 _ rfl
        have z7 : wr.cell? ⟨b, o + k * 10 + 7, none⟩ = some (.int .u32 (y.w.an : Int)) := hce 7 _ rfl
        have z8 : wr.cell? ⟨b, o + k * 10 + 8, none⟩ = some (.int .u32 (y.w.al : Int)) := hce 8 _ rfl
        have z9 : wr.cell? ⟨b, o + k * 10 + 9, none⟩ = some (.int .u32 (y.w.no : Int)) := hce 9 _ rfl
        have i1 : (k : Int) < (n : Int) := by omega
        have hlen : ((wIns l x).take (k + 1)).length = k + 1 := by rw [List.length_take]; have := HLN.out; omega
        obtain ⟨A9, c9, w9, r9, a9, g9⟩ := accet_push HA.out y HBk.out.size (by rw [hlen]; have := HN.out.2; omega)
        rw [hlen] at r9
        rw [← take_snoc14 (HX.out k y hik hy)] at a9
        have B9 := Lib.hid (show Below w1.heap.size w1 w9 from belr_acc HBk.out HA.out g9)
        have A9' := Lib.hid a9
        have R9 := Lib.hid r9
        clear hy hb' hc hce hlen r9 a9 g9
        go_wp2_with (at_builtin; refine step_append rfl rfl rfl rfl R9.out ?_)
        go_roundw
        case rel => exact ⟨k + 1, c9, A9, rfl, rfl, by omega, by omega, A9'.out, B9.out⟩
        case measure => simp [intOf]; omega
      · obtain rfl : k = n := by omega
        have ht : (wIns l x).take (k + 1) = wIns l x := List.take_of_length_le (by rw [HLN.out]; exact Nat.le_refl _)
        have ha := HA.out
        rw [ht] at ha
        have HF2 := Lib.hid (show AccEt wr w.heap.size Ak ck (wIns l x) from AccR.lower ha B1.out.size)
        have i1 : ¬ (k : Int) < (k : Int) := by omega
        clear ht ha
        go_wp2_with fail
        go_ret
        exact ⟨Ak, ck, by rw [HN.out.1]; rfl, HF2.out, B1.out.trans (HBk.out.mono B1.out.size)⟩
end Go.Proofs.Ytnkoiageoenfeaa

namespace Go.Proofs.Ytnkoiageoenfeaa
set_option maxRecDepth 100000
set_option linter.unusedVariables false
open Go.RowKit

theorem infoFam14 : (Try.prog.info? 85).map (fun i => (i.zero, i.size, i.bytes)) = some (some (.agg #[.int .i64 0, .int .i64 0, .int .i64 0, .int .i64 0, .int .u64 0, .int .i64 0]), 6, 48) := by kernel_rfl
/-- Families that a call gathers. -/
def AccFm (w : World) (base : Nat) (A : Option Addr) (c : Nat) (l : List Fam) : Prop := AccR fmc 6 w base 85 A c l
theorem accfm_push {w : World} {base c : Nat} {A : Option Addr} {l : List Fam} (h : AccFm w base A c l) (x : Et) (hb : base ≤ w.heap.size) (hl : l.length ≤ 1099511627776) :
    ∃ A' c' w', (Builtin.append_ #[92, 92] 92 #[.slice A l.length c, .slice (some ⟨w.heap.size, 0, none⟩) 1 1]).run Try.prog (w.alloc (.cells #[.int .i64 x.k.tail, .int .i64 x.k.tun, .int .i64 x.k.head, .int .i64 x.k.lsp, .int .u64 (x.w.bw : Int), .int .i64 x.w.ho] 85)) = .ok (.slice A' (l.length + 1) c') w' ∧
      AccFm w' base A' c' (l ++ [⟨x.k, x.w.bw, x.w.ho⟩]) ∧ w.grownBy w' (blk A) :=
  accr_push fmc_length fmc_one (by omega) h ⟨x.k, x.w.bw, x.w.ho⟩ Try.underlying92 infoFam14 rfl hb (by omega) (by omega)
theorem fstep_length (fs : List Fam) (x : Et) : (fstep fs x).length ≤ fs.length + 1 := by
  unfold fstep
  split
  · rename_i f hf
    have : fs ≠ [] := by intro e; rw [e] at hf; cases hf
    have := List.length_pos_iff.2 this
    split
    · rw [List.length_append, List.length_dropLast]; simp only [List.length_cons, List.length_nil]; omega
    · simp
  · simp
theorem fams_length : ∀ (l : List Et), (fams l).length ≤ l.length := by
  intro l
  suffices h : ∀ (l : List Et) (fs : List Fam), (l.foldl fstep fs).length ≤ fs.length + l.length by simpa [fams] using h l []
  intro l
  induction l with
  | nil => intro fs; simp
  | cons x t ih =>
    intro fs
    have h1 := ih (fstep fs x)
    have h2 := fstep_length fs x
    simp only [List.foldl_cons, List.length_cons]
    omega
theorem fams_take {l : List Et} {i : Nat} {x : Et} (h : l[i]? = some x) : fams (l.take (i + 1)) = fstep (fams (l.take i)) x := by rw [take_snoc14 h, fams_snoc]

theorem accr_addr {α : Type} {enc : α → List Value} {k base c : Nat} {w : World} {T : TypeId} {A : Option Addr} {l : List α} (h : AccR enc k w base T A c l) (hl : 0 < l.length) : ∃ g, A = some ⟨g, 0, none⟩ ∧ base ≤ g ∧ g < w.heap.size := by
  rcases h.2 with ⟨_, h0⟩ | ⟨g, cap, cur, hv, hg, hh, _⟩
  · omega
  · injection hv with e1 _ _
    exact ⟨g, e1, hg, (Array.getElem?_eq_some_iff.1 hh).1⟩
theorem fstep_last {fs : List Fam} {f : Fam} {x : Et} : fstep (fs ++ [f]) x = if kKin f.k x.k = true then fs ++ [(⟨f.k, max f.bw x.w.bw, min f.ho x.w.ho⟩ : Fam)] else fs ++ [f] ++ [⟨x.k, x.w.bw, x.w.ho⟩] := by
  unfold fstep
  rw [List.getLast?_concat]
  simp only [List.dropLast_concat]
/-- What it answers. -/
def FamPost (w : World) (l : List Et) (e : Ending) (w' : World) : Prop := ∃ A c', e = .returned (.slice A (fams l).length c') ∧ AccFm w' w.heap.size A c' (fams l) ∧ Below w.heap.size w w'
set_option maxHeartbeats 6400000 in
theorem rfams14_calls (a : Option Addr) (n c : Nat) (l : List Et) (w : World) (hr : Row ent w w.heap.size a n l) (hn : n ≤ 1073741824) : Calls Try.prog 46 #[.slice a n c] w (FamPost w l) := by
  have HR := Lib.hid hr
  have HN := Lib.hid (And.intro hr.1 hn)
  unfold FamPost
  clear hr
  go_enter Try.func46, Try.ntmps46
  go_wp2_with fail
  go_loopw [3, 4] (fun s t W => ∃ (i m c1 : Nat) (A : Option Addr) (F : List Fam), F = fams (l.take i) ∧ F.length = m ∧ s = .slice A m c1 ∧ t = .int .i64 (i : Int) ∧ i ≤ n ∧ AccFm W w.heap.size A c1 F ∧ Below w.heap.size w W) (fun s t W => n - (intOf t).toNat)
  case atStart => exact ⟨0, 0, 0, none, [], rfl, rfl, rfl, rfl, Nat.zero_le _, AccR.nil _ _ _, Below.refl _ _⟩
  case round =>
    obtain ⟨i, m, c1, A, F, hF, hm, rfl, rfl, hin, ha, hb⟩ := hrel
    have HF := Lib.hid hF
    have HM := Lib.hid hm
    have hmn : m ≤ 1073741824 := by
      have := fams_length (l.take i)
      rw [← hF, hm, List.length_take] at this
      omega
    have HMN := Lib.hid hmn
    have HA := Lib.hid ha
    have HB := Lib.hid hb
    clear ha hb hF hm
    by_cases hlt : i < n
    · have i1 : (i : Int) < (n : Int) := by omega
      obtain ⟨b, o, x, rfl, hx, hb', hc⟩ := row_cells ent_length HR.out hlt
      have HX := Lib.hid hx
      have hce := hc wr HB.out
      have y0 : wr.cell? ⟨b, o + i * 10, none⟩ = some (.int .i64 x.k.tail) := hce 0 _ rfl
      have y1 : wr.cell? ⟨b, o + i * 10 + 1, none⟩ = some (.int .i64 x.k.tun) := hce 1 _ rfl
      have y2 : wr.cell? ⟨b, o + i * 10 + 2, none⟩ = some (.int .i64 x.k.head) := hce 2 _ rfl
      have y3 : wr.cell? ⟨b, o + i * 10 + 3, none⟩ = some (.int .i64 x.k.lsp) := hce 3 _ rfl
      have y4 : wr.cell? ⟨b, o + i * 10 + 4, none⟩ = some (.int .u64 (x.w.bw : Int)) := hce 4 _ rfl
      have y5 : wr.cell? ⟨b, o + i * 10 + 5, none⟩ = some (.int .i64 x.w.su) := hce 5 _ rfl
      have y6 : wr.cell? ⟨b, o + i * 10 + 6, none⟩ = some (.int .i64 x.w.ho) := hce 6 _ rfl
      have y7 : wr.cell? ⟨b, o + i * 10 + 7, none⟩ = some (.int .u32 (x.w.an : Int)) := hce 7 _ rfl
      have y8 : wr.cell? ⟨b, o + i * 10 + 8, none⟩ = some (.int .u32 (x.w.al : Int)) := hce 8 _ rfl
      have y9 : wr.cell? ⟨b, o + i * 10 + 9, none⟩ = some (.int .u32 (x.w.no : Int)) := hce 9 _ rfl
      have HI := Lib.hid (And.intro hlt hin)
      clear hx hb' hc hce hlt hin
      go_upto_region 6 with fail
      clear y0 y1 y2 y3 y4 y5 y6 y7 y8 y9
      have XB := Lib.hid (show Blk (wr.alloc (.cells #[.int .i64 x.k.tail, .int .i64 x.k.tun, .int .i64 x.k.head, .int .i64 x.k.lsp, .int .u64 (x.w.bw : Int), .int .i64 x.w.su, .int .i64 x.w.ho, .int .u32 (x.w.an : Int), .int .u32 (x.w.al : Int), .int .u32 (x.w.no : Int)] 78)) wr.heap.size 78 (ent x) from Blk.new wr _ (ent x))
      have HA2 := Lib.hid (AccR.alloc HA.out (.cells #[.int .i64 x.k.tail, .int .i64 x.k.tun, .int .i64 x.k.head, .int .i64 x.k.lsp, .int .u64 (x.w.bw : Int), .int .i64 x.w.su, .int .i64 x.w.ho, .int .u32 (x.w.an : Int), .int .u32 (x.w.al : Int), .int .u32 (x.w.no : Int)] 78))
      have HB2 := Lib.hid (bel_new HB.out (.cells #[.int .i64 x.k.tail, .int .i64 x.k.tun, .int .i64 x.k.head, .int .i64 x.k.lsp, .int .u64 (x.w.bw : Int), .int .i64 x.w.su, .int .i64 x.w.ho, .int .u32 (x.w.an : Int), .int .u32 (x.w.al : Int), .int .u32 (x.w.no : Int)] 78))
      generalize wr.alloc (.cells #[.int .i64 x.k.tail, .int .i64 x.k.tun, .int .i64 x.k.head, .int .i64 x.k.lsp, .int .u64 (x.w.bw : Int), .int .i64 x.w.su, .int .i64 x.w.ho, .int .u32 (x.w.an : Int), .int .u32 (x.w.al : Int), .int .u32 (x.w.no : Int)] 78) = w2 at *
      generalize wr.heap.size = q at *
      clear HA HB
      have hxk : ∀ W, Below w2.heap.size w2 W → (W.cell? ⟨q, 0, none⟩ = some (.int .i64 x.k.tail) ∧ W.cell? ⟨q, 1, none⟩ = some (.int .i64 x.k.tun) ∧ W.cell? ⟨q, 2, none⟩ = some (.int .i64 x.k.head) ∧ W.cell? ⟨q, 3, none⟩ = some (.int .i64 x.k.lsp) ∧ W.cell? ⟨q, 4, none⟩ = some (.int .u64 (x.w.bw : Int)) ∧ W.cell? ⟨q, 6, none⟩ = some (.int .i64 x.w.ho)) := fun W hW => by
        have h3 := XB.out.below hW
        exact ⟨h3.cell 0, h3.cell 1, h3.cell 2, h3.cell 3, h3.cell 4, h3.cell 6⟩
      have HXK := Lib.hid hxk
      clear hxk
      by_cases hm0 : m = 0
      · subst hm0
        obtain rfl : F = [] := List.eq_nil_of_length_eq_zero HM.out
        have e1 : IntKind.i64.wrap (((0 : Nat) : Int) - 1) = -1 := by rw [IntKind.wrap_i64] <;> omega
        go_wp2_with fail
        refine region_seq (fun W => Below w2.heap.size w2 W) [(0, true), (1, true), (2, true), (3, true), (4, true), (5, true), (6, true), (7, true), (8, true), (9, true), (10, false), (11, true), (12, true)] (by kernel_rfl) (by kernel_rfl) (by kernel_rfl) (by kernel_rfl) (fun _ _ _ _ _ h => h) (Below.refl _ _).drew ?_
        repeat first
          | refine seq_pure (v := ?_) rfl (by rfl) (fun W hW => ?_) ?_
            rotate_left
            · clear hW
              go_simp
              with_reducible rfl
            simp only [Act.put, List.setIfInBounds_toArray, List.set_cons_zero, List.set_cons_succ]
          | refine seq_skip rfl (by rfl) ?_
            simp only [Act.put, List.setIfInBounds_toArray, List.set_cons_zero, List.set_cons_succ]
        refine seq_unmake14 rfl (by rfl) (Below.refl _ _).drew ?_
        simp only [Act.put, List.setIfInBounds_toArray, List.set_cons_zero, List.set_cons_succ]
        repeat first
          | refine seq_pure (v := ?_) rfl (by rfl) (fun W hW => ?_) ?_
            rotate_left
            · clear hW
              go_simp
              with_reducible rfl
            simp only [Act.put, List.setIfInBounds_toArray, List.set_cons_zero, List.set_cons_succ]
          | refine seq_skip rfl (by rfl) ?_
            simp only [Act.put, List.setIfInBounds_toArray, List.set_cons_zero, List.set_cons_succ]
        refine seq_done ?_
        obtain ⟨x0, x1, x2, x3, x4, x6⟩ := HXK.out w2.drew (Below.refl _ _).drew
        have ha2 : AccFm w2.drew w.heap.size A c1 [] := AccR.drew HA2.out
        obtain ⟨A8, c8, w8, r8, a8, g8⟩ := accfm_push ha2 x (show w.heap.size ≤ w2.drew.heap.size from HB2.out.size) (by simp)
        have B8 := Lib.hid (show Below w.heap.size w w8 from belr_acc HB2.out.drew ha2 g8)
        have A8' := Lib.hid a8
        have R8 := Lib.hid (show (Builtin.append_ #[92, 92] 92 #[.slice A 0 c1, .slice (some ⟨w2.drew.heap.size, 0, none⟩) 1 1]).run Try.prog (w2.drew.alloc (.cells #[.int .i64 x.k.tail, .int .i64 x.k.tun, .int .i64 x.k.head, .int .i64 x.k.lsp, .int .u64 (x.w.bw : Int), .int .i64 x.w.ho] 85)) = .ok (.slice A8 1 c8) w8 from r8)
        clear r8 a8 g8 ha2 e1 hmn
        go_wp2_with (at_builtin; refine step_append rfl rfl rfl rfl R8.out ?_)
        go_roundw
        case rel => exact ⟨i + 1, 1, c8, A8, [⟨x.k, x.w.bw, x.w.ho⟩], by rw [fams_take HX.out, ← HF.out]; rfl, rfl, rfl, by first | rfl | (simp; omega), by have := HI.out.1; omega, A8'.out, B8.out⟩
        case measure => have := HI.out.1; simp [intOf]; omega
      · obtain ⟨fs, f, rfl⟩ : ∃ fs f, F = fs ++ [f] := by
          have hne : F ≠ [] := by intro e; have := HM.out; rw [e] at this; simp at this; omega
          exact ⟨F.dropLast, F.getLast hne, (List.dropLast_concat_getLast hne).symm⟩
        obtain ⟨k, hk⟩ : ∃ k, fs.length = k := ⟨_, rfl⟩
        have hkm : m = k + 1 := by have := HM.out; rw [List.length_append, hk] at this; simpa using this.symm
        obtain ⟨g, rfl, hg1, hg2⟩ := accr_addr HA2.out (by simp)
        have hgq : g ≠ q := by
          have h1 := accr_ne14 HA2.out XB.out (by decide) g rfl
          exact h1
        have e1 : IntKind.i64.wrap ((m : Int) - 1) = (k : Int) := by rw [IntKind.wrap_i64] <;> omega
        have e2 : decide ((k : Int) < 0) = false := decide_eq_false (by omega)
        have e3 : (k : Int) < (m : Int) := by omega
        have hfk : ∀ W, Below w2.heap.size w2 W → (W.cell? ⟨g, k * 6, none⟩ = some (.int .i64 f.k.tail) ∧ W.cell? ⟨g, k * 6 + 1, none⟩ = some (.int .i64 f.k.tun) ∧ W.cell? ⟨g, k * 6 + 2, none⟩ = some (.int .i64 f.k.head) ∧ W.cell? ⟨g, k * 6 + 3, none⟩ = some (.int .i64 f.k.lsp) ∧ W.cell? ⟨g, k * 6 + 4, none⟩ = some (.int .u64 (f.bw : Int)) ∧ W.cell? ⟨g, k * 6 + 5, none⟩ = some (.int .i64 f.ho)) := fun W hW => by
          obtain ⟨b2, o2, y, e, hy, _, hcc⟩ := row_cells (i := k) fmc_length (AccR.row (AccR.bel HA2.out hW)) (by simp; omega)
          injection e with e; injection e with eb eo
          subst eb; subst eo
          have : y = f := by
            rw [List.getElem?_append_right (by omega), hk] at hy
            simpa using hy.symm
          subst this
          have hc2 := hcc W (Below.refl _ _)
          simp only [Nat.zero_add] at hc2
          exact ⟨hc2 0 _ rfl, hc2 1 _ rfl, hc2 2 _ rfl, hc2 3 _ rfl, hc2 4 _ rfl, hc2 5 _ rfl⟩
        have HFK := Lib.hid hfk
        have HKM := Lib.hid (And.intro hk (And.intro hkm (And.intro hg1 hgq)))
        obtain ⟨d, hd⟩ : ∃ d, kKin f.k x.k = d := ⟨_, rfl⟩
        have hlc := fun W => rkin14_calls f.k x.k W
        unfold Yes14 at hlc
        rw [hd] at hlc
        have HLC := Lib.hid hlc
        have HD := Lib.hid hd
        clear hfk hk hkm hg1 hg2 hgq hlc hd hm0
        go_wp2_with fail
        refine region_seq (fun W => Below w2.heap.size w2 W) [(0, true), (1, true), (2, true), (3, true), (4, true), (5, true), (6, true), (7, true), (8, true), (9, true), (10, false), (11, true), (12, true)] (by kernel_rfl) (by kernel_rfl) (by kernel_rfl) (by kernel_rfl) (fun _ _ _ _ _ h => h) (Below.refl _ _).drew ?_
        repeat first
          | refine seq_pure (v := ?_) rfl (by rfl) (fun W hW => ?_) ?_
            rotate_left
            · obtain ⟨x0, x1, x2, x3, x4, x6⟩ := HXK.out W hW; obtain ⟨f0, f1, f2, f3, f4, f5⟩ := HFK.out W hW; clear hW
              go_simp
              with_reducible rfl
            simp only [Act.put, List.setIfInBounds_toArray, List.set_cons_zero, List.set_cons_succ]
          | refine seq_skip rfl (by rfl) ?_
            simp only [Act.put, List.setIfInBounds_toArray, List.set_cons_zero, List.set_cons_succ]
        refine seq_make rfl (by rfl) (fun K hK => ?_)
        go_simp
        ((with_reducible refine (HLC.out w2.drew).mono ?_))
        rintro e w3 ⟨rfl, hb7⟩
        have C3 := Lib.hid (show Below w2.heap.size w2 w3 from below_of_drew hb7)
        clear hb7
        go_simp
        refine hK _ _ (fun W => Below w2.heap.size w2 W) (fun W h => h) C3.out ?_
        clear hK K
        repeat first
          | refine seq_pure (v := ?_) rfl (by rfl) (fun W hW => ?_) ?_
            rotate_left
            · clear hW
              go_simp
              with_reducible rfl
            simp only [Act.put, List.setIfInBounds_toArray, List.set_cons_zero, List.set_cons_succ]
          | refine seq_skip rfl (by rfl) ?_
            simp only [Act.put, List.setIfInBounds_toArray, List.set_cons_zero, List.set_cons_succ]
        refine seq_done ?_
        have HA3 := Lib.hid (AccR.bel HA2.out C3.out)
        have HB3 := Lib.hid (HB2.out.trans (C3.out.mono HB2.out.size))
        cases d with
        | false =>
          obtain ⟨x0, x1, x2, x3, x4, x6⟩ := HXK.out w3 C3.out
          obtain ⟨A8, c8, w8, r8, a8, g8⟩ := accfm_push HA3.out x HB3.out.size (by have := HM.out; have := HMN.out; omega)
          rw [HM.out] at r8
          have B8 := Lib.hid (show Below w.heap.size w w8 from belr_acc HB3.out HA3.out g8)
          have A8' := Lib.hid a8
          have R8 := Lib.hid r8
          clear r8 a8 g8 e1 e2 e3
          go_wp2_with (at_builtin; refine step_append rfl rfl rfl rfl R8.out ?_)
          go_roundw
          case rel => exact ⟨i + 1, m + 1, c8, A8, fs ++ [f] ++ [⟨x.k, x.w.bw, x.w.ho⟩], by rw [fams_take HX.out, ← HF.out, fstep_last, if_neg (by rw [HD.out]; simp)], by rw [List.length_append, HM.out]; rfl, rfl, by first | rfl | (simp; omega), by have := HI.out.1; omega, A8'.out, B8.out⟩
          case measure => have := HI.out.1; simp [intOf]; omega
        | true =>
          have XB3 := Lib.hid (XB.out.below C3.out)
          have hx3 := HXK.out w3.drew C3.out.drew
          obtain ⟨_, _, _, _, f4, _⟩ := HFK.out w3.drew C3.out.drew
          have HX3 := Lib.hid hx3
          clear hx3
          go_wp2_with fail
          refine region_seq (fun W => W.cell? ⟨q, 0, none⟩ = some (.int .i64 x.k.tail) ∧ W.cell? ⟨q, 1, none⟩ = some (.int .i64 x.k.tun) ∧ W.cell? ⟨q, 2, none⟩ = some (.int .i64 x.k.head) ∧ W.cell? ⟨q, 3, none⟩ = some (.int .i64 x.k.lsp) ∧ W.cell? ⟨q, 4, none⟩ = some (.int .u64 (x.w.bw : Int)) ∧ W.cell? ⟨q, 6, none⟩ = some (.int .i64 x.w.ho)) [(0, true), (1, true), (2, true), (3, true), (4, true), (5, true), (7, true), (8, true), (9, true), (6, false), (10, true), (11, true), (12, true), (13, false)] (by kernel_rfl) (by kernel_rfl) (by kernel_rfl) (by kernel_rfl) (fun _ _ _ _ _ h => h) HX3.out ?_
          repeat first
            | refine seq_pure (v := ?_) rfl (by rfl) (fun W hW => ?_) ?_
              rotate_left
              · obtain ⟨x0, x1, x2, x3, x4, x6⟩ := hW; skip
                go_simp
                with_reducible rfl
              simp only [Act.put, List.setIfInBounds_toArray, List.set_cons_zero, List.set_cons_succ]
            | refine seq_skip rfl (by rfl) ?_
              simp only [Act.put, List.setIfInBounds_toArray, List.set_cons_zero, List.set_cons_succ]
          refine seq_make rfl (by rfl) (fun K hK => ?_)
          go_simp
          refine hK _ _ (fun W => W.cell? ⟨q, 0, none⟩ = some (.int .i64 x.k.tail) ∧ W.cell? ⟨q, 1, none⟩ = some (.int .i64 x.k.tun) ∧ W.cell? ⟨q, 2, none⟩ = some (.int .i64 x.k.head) ∧ W.cell? ⟨q, 3, none⟩ = some (.int .i64 x.k.lsp) ∧ W.cell? ⟨q, 4, none⟩ = some (.int .u64 (x.w.bw : Int)) ∧ W.cell? ⟨q, 6, none⟩ = some (.int .i64 x.w.ho)) (fun W h => h) HX3.out ?_
          clear hK K
          repeat first
            | refine seq_pure (v := ?_) rfl (by rfl) (fun W hW => ?_) ?_
              rotate_left
              · obtain ⟨x0, x1, x2, x3, x4, x6⟩ := hW; skip
                go_simp
                with_reducible rfl
              simp only [Act.put, List.setIfInBounds_toArray, List.set_cons_zero, List.set_cons_succ]
            | refine seq_skip rfl (by rfl) ?_
              simp only [Act.put, List.setIfInBounds_toArray, List.set_cons_zero, List.set_cons_succ]
          have fz := accr_free (AccR.drew HA3.out) (k * 6 + 4)
          refine seq_make rfl (by rfl) (fun K hK => ?_)
          go_simp
          rw [show (if f.bw < x.w.bw then (x.w.bw : Int) else (f.bw : Int)) = (((max f.bw x.w.bw : Nat) : Int)) by split <;> omega]
          have hset := accr_setCell (i := k) (j := 4) (x' := ⟨f.k, max f.bw x.w.bw, f.ho⟩) (u := .int .u64 (((max f.bw x.w.bw : Nat) : Int))) fmc_length HA3.out (by simp [HKM.out.1]) (by decide) (by rw [show (fs ++ [f])[k]'(by simp [HKM.out.1]) = f by simp [← HKM.out.1]]; rfl)
          rw [show (fs ++ [f]).set k ⟨f.k, max f.bw x.w.bw, f.ho⟩ = fs ++ [(⟨f.k, max f.bw x.w.bw, f.ho⟩ : Fam)] by rw [List.set_append_right _ _ (by rw [HKM.out.1]; exact Nat.le_refl _), HKM.out.1, Nat.sub_self]; rfl] at hset
          have hxs : ∀ W, W = w3.setCell ⟨g, k * 6 + 4, none⟩ (.int .u64 (((max f.bw x.w.bw : Nat) : Int))) → Blk W q 78 (ent x) := fun W e => by rw [e]; exact XB3.out.other (p := ⟨g, k * 6 + 4, none⟩) HKM.out.2.2.2 _
          have hbs := HB3.out.setCell (p := ⟨g, k * 6 + 4, none⟩) HKM.out.2.2.1 (.int .u64 (((max f.bw x.w.bw : Nat) : Int)))
          obtain ⟨w4, hw4⟩ : ∃ W, w3.setCell ⟨g, k * 6 + 4, none⟩ (.int .u64 (((max f.bw x.w.bw : Nat) : Int))) = W := ⟨_, rfl⟩
          rw [hw4] at hset hbs ⊢
          have XB4 := Lib.hid (hxs w4 hw4.symm)
          have HA4 := Lib.hid (AccR.drew hset)
          have HB4 := Lib.hid hbs.drew
          clear hset hxs hbs hw4
          have hx4 : w4.drew.cell? ⟨q, 0, none⟩ = some (.int .i64 x.k.tail) ∧ w4.drew.cell? ⟨q, 1, none⟩ = some (.int .i64 x.k.tun) ∧ w4.drew.cell? ⟨q, 2, none⟩ = some (.int .i64 x.k.head) ∧ w4.drew.cell? ⟨q, 3, none⟩ = some (.int .i64 x.k.lsp) ∧ w4.drew.cell? ⟨q, 4, none⟩ = some (.int .u64 (x.w.bw : Int)) ∧ w4.drew.cell? ⟨q, 6, none⟩ = some (.int .i64 x.w.ho) := ⟨(XB4.out.drew).cell 0, (XB4.out.drew).cell 1, (XB4.out.drew).cell 2, (XB4.out.drew).cell 3, (XB4.out.drew).cell 4, (XB4.out.drew).cell 6⟩
          have HXX4 := Lib.hid hx4
          refine hK _ _ (fun W => W.cell? ⟨q, 0, none⟩ = some (.int .i64 x.k.tail) ∧ W.cell? ⟨q, 1, none⟩ = some (.int .i64 x.k.tun) ∧ W.cell? ⟨q, 2, none⟩ = some (.int .i64 x.k.head) ∧ W.cell? ⟨q, 3, none⟩ = some (.int .i64 x.k.lsp) ∧ W.cell? ⟨q, 4, none⟩ = some (.int .u64 (x.w.bw : Int)) ∧ W.cell? ⟨q, 6, none⟩ = some (.int .i64 x.w.ho)) (fun W h => h) hx4 ?_
          clear hK K hx4
          refine seq_done ?_
          have XB5 := Lib.hid XB4.out.drew
          generalize w4.drew = w5 at *
          have HB5 := HB4
          have HA5 := HA4
          have f5 : w5.drew.cell? ⟨g, k * 6 + 5, none⟩ = some (.int .i64 f.ho) := by
            obtain ⟨b2, o2, y, e, hy, _, hcc⟩ := row_cells (i := k) fmc_length (AccR.row (AccR.drew HA5.out)) (by simp [HKM.out.1])
            injection e with e; injection e with eb eo
            subst eb; subst eo
            have : y = ⟨f.k, max f.bw x.w.bw, f.ho⟩ := by
              rw [List.getElem?_append_right (by rw [HKM.out.1]; exact Nat.le_refl _), HKM.out.1] at hy
              simpa using hy.symm
            subst this
            have hc2 := hcc w5.drew (Below.refl _ _)
            simp only [Nat.zero_add] at hc2
            exact hc2 5 _ rfl
          go_wp2_with fail
          refine region_seq (fun W => W.cell? ⟨q, 0, none⟩ = some (.int .i64 x.k.tail) ∧ W.cell? ⟨q, 1, none⟩ = some (.int .i64 x.k.tun) ∧ W.cell? ⟨q, 2, none⟩ = some (.int .i64 x.k.head) ∧ W.cell? ⟨q, 3, none⟩ = some (.int .i64 x.k.lsp) ∧ W.cell? ⟨q, 4, none⟩ = some (.int .u64 (x.w.bw : Int)) ∧ W.cell? ⟨q, 6, none⟩ = some (.int .i64 x.w.ho)) [(0, true), (1, true), (2, true), (3, true), (4, true), (5, true), (7, true), (8, true), (9, true), (6, false), (10, true), (11, true), (12, true), (13, false)] (by kernel_rfl) (by kernel_rfl) (by kernel_rfl) (by kernel_rfl) (fun _ _ _ _ _ h => h) HXX4.out ?_
          repeat first
            | refine seq_pure (v := ?_) rfl (by rfl) (fun W hW => ?_) ?_
              rotate_left
              · obtain ⟨x0, x1, x2, x3, x4, x6⟩ := hW; skip
                go_simp
                with_reducible rfl
              simp only [Act.put, List.setIfInBounds_toArray, List.set_cons_zero, List.set_cons_succ]
            | refine seq_skip rfl (by rfl) ?_
              simp only [Act.put, List.setIfInBounds_toArray, List.set_cons_zero, List.set_cons_succ]
          refine seq_make rfl (by rfl) (fun K hK => ?_)
          go_simp
          refine hK _ _ (fun W => W.cell? ⟨q, 0, none⟩ = some (.int .i64 x.k.tail) ∧ W.cell? ⟨q, 1, none⟩ = some (.int .i64 x.k.tun) ∧ W.cell? ⟨q, 2, none⟩ = some (.int .i64 x.k.head) ∧ W.cell? ⟨q, 3, none⟩ = some (.int .i64 x.k.lsp) ∧ W.cell? ⟨q, 4, none⟩ = some (.int .u64 (x.w.bw : Int)) ∧ W.cell? ⟨q, 6, none⟩ = some (.int .i64 x.w.ho)) (fun W h => h) HXX4.out ?_
          clear hK K
          repeat first
            | refine seq_pure (v := ?_) rfl (by rfl) (fun W hW => ?_) ?_
              rotate_left
              · obtain ⟨x0, x1, x2, x3, x4, x6⟩ := hW; skip
                go_simp
                with_reducible rfl
              simp only [Act.put, List.setIfInBounds_toArray, List.set_cons_zero, List.set_cons_succ]
            | refine seq_skip rfl (by rfl) ?_
              simp only [Act.put, List.setIfInBounds_toArray, List.set_cons_zero, List.set_cons_succ]
          have fz5 := accr_free (AccR.drew HA5.out) (k * 6 + 5)
          refine seq_make rfl (by rfl) (fun K hK => ?_)
          go_simp
          rw [show (if x.w.ho < f.ho then x.w.ho else f.ho) = (min f.ho x.w.ho) by split <;> omega]
          have hset := accr_setCell (i := k) (j := 5) (x' := ⟨f.k, max f.bw x.w.bw, min f.ho x.w.ho⟩) (u := .int .i64 (min f.ho x.w.ho)) fmc_length HA5.out (by simp [HKM.out.1]) (by decide) (by rw [show (fs ++ [(⟨f.k, max f.bw x.w.bw, f.ho⟩ : Fam)])[k]'(by simp [HKM.out.1]) = ⟨f.k, max f.bw x.w.bw, f.ho⟩ by simp [← HKM.out.1]]; rfl)
          rw [show (fs ++ [(⟨f.k, max f.bw x.w.bw, f.ho⟩ : Fam)]).set k ⟨f.k, max f.bw x.w.bw, min f.ho x.w.ho⟩ = fs ++ [(⟨f.k, max f.bw x.w.bw, min f.ho x.w.ho⟩ : Fam)] by rw [List.set_append_right _ _ (by rw [HKM.out.1]; exact Nat.le_refl _), HKM.out.1, Nat.sub_self]; rfl] at hset
          have hxs : ∀ W, W = w5.setCell ⟨g, k * 6 + 5, none⟩ (.int .i64 (min f.ho x.w.ho)) → Blk W q 78 (ent x) := fun W e => by rw [e]; exact XB5.out.other (p := ⟨g, k * 6 + 5, none⟩) HKM.out.2.2.2 _
          have hbs := HB5.out.setCell (p := ⟨g, k * 6 + 5, none⟩) HKM.out.2.2.1 (.int .i64 (min f.ho x.w.ho))
          obtain ⟨w6, hw4⟩ : ∃ W, w5.setCell ⟨g, k * 6 + 5, none⟩ (.int .i64 (min f.ho x.w.ho)) = W := ⟨_, rfl⟩
          rw [hw4] at hset hbs ⊢
          have XB6 := Lib.hid (hxs w6 hw4.symm)
          have HA6 := Lib.hid (AccR.drew hset)
          have HB6 := Lib.hid hbs.drew
          clear hset hxs hbs hw4
          have hx6 : w6.drew.cell? ⟨q, 0, none⟩ = some (.int .i64 x.k.tail) ∧ w6.drew.cell? ⟨q, 1, none⟩ = some (.int .i64 x.k.tun) ∧ w6.drew.cell? ⟨q, 2, none⟩ = some (.int .i64 x.k.head) ∧ w6.drew.cell? ⟨q, 3, none⟩ = some (.int .i64 x.k.lsp) ∧ w6.drew.cell? ⟨q, 4, none⟩ = some (.int .u64 (x.w.bw : Int)) ∧ w6.drew.cell? ⟨q, 6, none⟩ = some (.int .i64 x.w.ho) := ⟨(XB6.out.drew).cell 0, (XB6.out.drew).cell 1, (XB6.out.drew).cell 2, (XB6.out.drew).cell 3, (XB6.out.drew).cell 4, (XB6.out.drew).cell 6⟩
          have HXX6 := Lib.hid hx6
          refine hK _ _ (fun W => W.cell? ⟨q, 0, none⟩ = some (.int .i64 x.k.tail) ∧ W.cell? ⟨q, 1, none⟩ = some (.int .i64 x.k.tun) ∧ W.cell? ⟨q, 2, none⟩ = some (.int .i64 x.k.head) ∧ W.cell? ⟨q, 3, none⟩ = some (.int .i64 x.k.lsp) ∧ W.cell? ⟨q, 4, none⟩ = some (.int .u64 (x.w.bw : Int)) ∧ W.cell? ⟨q, 6, none⟩ = some (.int .i64 x.w.ho)) (fun W h => h) hx6 ?_
          clear hK K hx6
          refine seq_done ?_
          clear fz5 f5 e1 e2 e3 f4
          go_wp2_with fail
          go_roundw
          case rel => exact ⟨i + 1, m, c1, some ⟨g, 0, none⟩, fs ++ [(⟨f.k, max f.bw x.w.bw, min f.ho x.w.ho⟩ : Fam)], by rw [fams_take HX.out, ← HF.out, fstep_last, if_pos HD.out], by have := HM.out; simp at this ⊢; exact this, by first | rfl | simp, by first | rfl | (simp; omega), by have := HI.out.1; omega, HA6.out, HB6.out⟩
          case measure => have := HI.out.1; simp [intOf]; omega
    · obtain rfl : i = n := by omega
      have i1 : ¬ (i : Int) < (i : Int) := by omega
      have htk : l.take i = l := List.take_of_length_le (by rw [HN.out.1]; exact Nat.le_refl _)
      have HTK := Lib.hid htk
      clear htk hlt hin
      go_wp2_with fail
      go_ret
      refine ⟨A, c1, ?_, ?_, HB.out⟩
      · have := HF.out
        rw [HTK.out] at this
        rw [← this, HM.out]
        rfl
      · have := HF.out
        rw [HTK.out] at this
        rw [← this]
        exact HA.out
end Go.Proofs.Ytnkoiageoenfeaa

namespace Go.Proofs.Ytnkoiageoenfeaa
set_option maxRecDepth 100000
set_option linter.unusedVariables false
open Go.RowKit

theorem Blk.kept14 {w w' : World} {q r : Nat} {T : TypeId} {vs : List Value} (h : Blk w q T vs) (hg : w.grownBy w' (some r)) (hne : q ≠ r) : Blk w' q T vs :=
  h.same (hg.block q h.lt (by intro e; cases e; exact hne rfl))
theorem fsum_take {F : List Fam} {i : Nat} {f : Fam} (h : F[i]? = some f) : fsum (F.take (i + 1)) = fsum (F.take i) + f.bw := by rw [take_snoc14 h, fsum_snoc]
theorem fsum_take_le (F : List Fam) (i : Nat) : fsum (F.take i) ≤ fsum F := by
  have h := congrArg fsum (List.take_append_drop i F)
  simp only [fsum, List.map_append, List.sum_append] at h ⊢
  omega
theorem ledgOf_take {size : Nat} {F : List Fam} {i : Nat} {f : Fam} (h : F[i]? = some f) : ledgOf size (F.take (i + 1)) = lstep (ledgOf size (F.take i)) f := by
  rw [take_snoc14 h]
  unfold ledgOf
  rw [List.foldl_append]
  rfl
theorem cellsL14 : (Try.prog.info? 50).map (·.size) = some 9 := by kernel_rfl
/-- What it answers. -/
def led14 (size : Nat) (l : List Et) : Lg := if fsum (fams l) < 18446744073709551616 then ledgOf size (fams l) else lz
theorem led14_ok {size : Nat} {l : List Et} (h : ∀ f ∈ fams l, 0 ≤ f.ho ∧ f.ho ≤ 7) (hs : size < 18446744073709551616) : LgOk (led14 size l) := by
  unfold led14
  split
  · rename_i hb
    exact ledgOf_ok h hs hb
  · exact lz_ok
def LedP14 (size : Nat) (F : List Fam) (w : World) (e : Ending) (w' : World) : Prop := e = .returned (.tuple #[.agg (lgc (if fsum F < 18446744073709551616 then ledgOf size F else lz)).toArray, .bool (decide (fsum F < 18446744073709551616))]) ∧ Below w.heap.size w w'
def LedPost14 (size : Nat) (l : List Et) (w : World) (e : Ending) (w' : World) : Prop := e = .returned (.tuple #[.agg (lgc (led14 size l)).toArray, .bool (decide (fsum (fams l) < 18446744073709551616))]) ∧ Below w.heap.size w w'
set_option maxHeartbeats 6400000 in
theorem rledger14_calls (size : Nat) (hs : size < 18446744073709551616) (a : Option Addr) (n c : Nat) (l : List Et) (hsr : Srt14 l) (hrt : ∀ x ∈ l, wRight x.w = true) (hbw : ∀ x ∈ l, x.w.bw < 18446744073709551616) (w : World) (hr : Row ent w w.heap.size a n l) (hn : n ≤ 1073741824) : Calls Try.prog 23 #[.int .u64 (size : Int), .slice a n c] w (LedPost14 size l w) := by
  have hho := fams_ho hsr hrt
  have hfb : ∀ f ∈ fams l, f.bw < 18446744073709551616 := fun f hf => by
    obtain ⟨x, hx, _, h1⟩ := (fams_ok hsr).fms.from_ f hf
    rw [← h1]; exact hbw x hx
  have hfl := fams_length l
  have hln := hr.1
  have hk := fun W hW => rfams14_calls a n c l W (show Row ent W W.heap.size a n l from (hr.below hW).more hW.size) hn
  have hlok := led14_ok (size := size) hho hs
  show Calls _ _ _ w (LedP14 size (fams l) w)
  obtain ⟨F, hF⟩ : ∃ F, fams l = F := ⟨_, rfl⟩
  unfold FamPost at hk
  unfold led14 at hlok
  rw [hF] at hho hfb hfl hlok ⊢
  simp only [hF] at hk
  obtain ⟨M, hM⟩ : ∃ M, F.length = M := ⟨_, rfl⟩
  simp only [hM] at hk
  have HK := Lib.hid hk
  have HHO := Lib.hid hho
  have HFB := Lib.hid hfb
  have HM := Lib.hid (show F.length = M ∧ M ≤ 1073741824 from ⟨hM, by omega⟩)
  have HLOK := Lib.hid hlok
  have HS := Lib.hid hs
  have hMb : M ≤ 1073741824 := by omega
  clear hk hho hfb hbw hfl hln hM hF hr hsr hrt hlok
  go_enter Try.func23, Try.ntmps23
  go_upto_region 2 with fail
  obtain ⟨b0, b1, bl⟩ := alloc2 w [.int .u64 0, .int .u64 0, .int .u64 0, .int .u64 0, .int .u64 0, .int .u64 0, .int .u64 0, .int .u64 0, .int .u64 0] [.int .u64 (size : Int), .int .u64 0, .int .u64 0, .int .u64 0, .int .u64 0, .int .u64 0, .int .u64 0, .int .u64 0, .int .u64 0] 50 50
  have HRw1 := Lib.hid b0
  have HQ1 := Lib.hid (show Blk _ (w.heap.size + 1) 50 (lgc (ledgOf size (F.take 0))) from b1)
  have HL1 := Lib.hid bl
  clear b0 b1 bl
  generalize ((w.alloc (.cells #[.int .u64 0, .int .u64 0, .int .u64 0, .int .u64 0, .int .u64 0, .int .u64 0, .int .u64 0, .int .u64 0, .int .u64 0] 50)).alloc (.cells #[.int .u64 (size : Int), .int .u64 0, .int .u64 0, .int .u64 0, .int .u64 0, .int .u64 0, .int .u64 0, .int .u64 0, .int .u64 0] 50)) = w1 at *
  go_wp2_with fail
  ((with_reducible refine (HK.out w1 HL1.out).mono ?_))
  rintro e w2 ⟨A, cA, rfl, hacc, hb⟩
  have HQ2 := Lib.hid (HQ1.out.below hb)
  have HR2 := Lib.hid (HRw1.out.below hb)
  have HL2 := Lib.hid (HL1.out.trans (hb.mono HL1.out.size))
  have HA2 := Lib.hid (AccR.lower hacc HL1.out.size)
  clear hb hacc HQ1 HRw1 HL1 HK
  go_wp2_with fail
  go_loopw [8, 9] (fun s t W => ∃ i : Nat, i ≤ M ∧ fsum (F.take i) < 18446744073709551616 ∧ s = .int .u64 ((fsum (F.take i) : Nat) : Int) ∧ t = .int .i64 (i : Int) ∧ Blk W (w.heap.size + 1) 50 (lgc (ledgOf size (F.take i))) ∧ Blk W w.heap.size 50 [.int .u64 0, .int .u64 0, .int .u64 0, .int .u64 0, .int .u64 0, .int .u64 0, .int .u64 0, .int .u64 0, .int .u64 0] ∧ AccFm W w.heap.size A cA F ∧ Below w.heap.size w W) (fun s t W => M - (intOf t).toNat)
  case atStart => exact ⟨0, by omega, by rw [List.take_zero]; decide, by rw [List.take_zero]; rfl, rfl, HQ2.out, HR2.out, HA2.out, HL2.out⟩
  case round =>
    obtain ⟨i, hi, hfs, rfl, rfl, hq, hres, ha, hb⟩ := hrel
    have HFS := Lib.hid hfs
    have HQ := Lib.hid hq
    have HRS := Lib.hid hres
    have HA := Lib.hid ha
    have HB := Lib.hid hb
    clear hq hres ha hb hfs HQ2 HR2 HL2 HA2
    by_cases hlt : i < M
    · have i1 : (i : Int) < (M : Int) := by omega
      obtain ⟨g, rfl, hg1, hg2⟩ := accr_addr HA.out (by have := HM.out.1; omega)
      obtain ⟨b2, o2, f, e, hf, _, hcc⟩ := row_cells (i := i) fmc_length (AccR.row HA.out) (by have := HM.out.1; omega)
      injection e with e; injection e with eb eo
      subst eb; subst eo
      have hc2 := hcc wr (Below.refl _ _)
      simp only [Nat.zero_add] at hc2
      have f4 : wr.cell? ⟨g, i * 6 + 4, none⟩ = some (.int .u64 (f.bw : Int)) := hc2 4 _ rfl
      have hfm := List.mem_of_getElem? hf
      have hho := HHO.out f hfm
      have hgq : g ≠ w.heap.size + 1 := accr_ne14 HA.out HQ.out (by decide) g rfl
      have hst := fsum_take hf
      have hlt2 := ledgOf_take (size := size) hf
      have hab := radd13_calls (fsum (F.take i)) f.bw HFS.out (HFB.out f hfm) wr
      unfold aS at hab
      rw [← hst] at hab
      obtain ⟨h, hh⟩ := Int.eq_ofNat_of_zero_le hho.1
      have hh7 : h < 8 := by omega
      have f5 : wr.cell? ⟨g, i * 6 + 5, none⟩ = some (.int .i64 (h : Int)) := by rw [← hh]; exact hc2 5 _ rfl
      have hg0 : g ≠ w.heap.size := accr_ne14 HA.out HRS.out (by decide) g rfl
      have HI := Lib.hid (And.intro hlt (And.intro hgq hg0))
      have HST := Lib.hid hst
      have HLT := Lib.hid hlt2
      have HH := Lib.hid (And.intro hh hh7)
      obtain ⟨C, hC⟩ : ∃ C, fsum (F.take (i + 1)) = C := ⟨_, rfl⟩
      rw [hC] at hab
      have HC := Lib.hid hC
      have HFM := Lib.hid hfm
      have HFI := Lib.hid hf
      clear hcc hc2 hfm hho hgq hg0 hg1 hst hlt2 hh hC hf hlt hi hg2
      by_cases hok : C < 18446744073709551616
      · rw [if_pos hok, decide_eq_true hok] at hab
        have HAB := Lib.hid hab
        have HOK := Lib.hid hok
        clear hab hok
        obtain ⟨S, hS⟩ : ∃ S, fsum (F.take i) = S := ⟨_, rfl⟩
        have HS2 := Lib.hid hS
        have HF5 := Lib.hid (And.intro f4 f5)
        have hlen8 : (ledgOf size (F.take i)).held.length = 8 := (ledgOf_sum (size := size) (fs := F.take i) (fun x hx => HHO.out x (List.mem_of_mem_take hx))).2.1
        have hsum := (ledgOf_sum (size := size) (fs := F.take i) (fun x hx => HHO.out x (List.mem_of_mem_take hx))).1
        have hgs := getD_le_sum (ledgOf size (F.take i)).held h
        have hqc : wr.cell? ⟨w.heap.size + 1, 1 + h, none⟩ = some (.int .u64 (((ledgOf size (F.take i)).held.getD h 0 : Nat) : Int)) := by
          rw [HQ.out.cell]
          unfold lgc
          rw [Nat.add_comm, List.getElem?_cons_succ, List.getElem?_map, List.getD_eq_getElem?_getD, List.getElem?_eq_getElem (by rw [hlen8]; exact HH.out.2)]
          rfl
        obtain ⟨v, hv⟩ : ∃ v, (ledgOf size (F.take i)).held.getD h 0 = v := ⟨_, rfl⟩
        rw [hv] at hqc hgs
        have hwr : IntKind.u64.wrap ((v : Int) + (f.bw : Int)) = ((v + f.bw : Nat) : Int) := by
          have h1 := HST.out
          have h2 := HC.out
          have h3 := HOK.out
          rw [IntKind.wrap_u64]
          omega
        have hset : lgc (ledgOf size (F.take (i + 1))) = (lgc (ledgOf size (F.take i))).set (1 + h) (.int .u64 ((v + f.bw : Nat) : Int)) := by
          rw [HLT.out]
          unfold lstep
          rw [HH.out.1, Int.toNat_natCast, hv, lgc_set]
        have HV := Lib.hid hset
        have HQC := Lib.hid hqc
        have h8 : (h : Int) < 8 := by have := HH.out.2; omega
        have HWR := Lib.hid hwr
        clear hlen8 hsum hgs hqc hv hset hwr f4 f5
        rw [hS] at HAB
        have f4 := HF5.out.1
        go_wp2_with fail
        ((with_reducible refine HAB.out.mono ?_))
        rintro e w3 ⟨rfl, rfl⟩
        go_wp2_with fail
        refine region_seq (fun W => W.cell? ⟨g, i * 6 + 4, none⟩ = some (.int .u64 (f.bw : Int)) ∧ W.cell? ⟨g, i * 6 + 5, none⟩ = some (.int .i64 (h : Int))) [(0, true), (1, true), (2, true), (3, true), (4, true), (5, true), (6, true), (7, true), (8, true), (9, true), (10, true), (11, true), (13, true), (14, true), (15, true), (16, true), (17, true), (19, true), (12, false), (18, true), (20, true), (21, false)] (by kernel_rfl) (by kernel_rfl) (by kernel_rfl) (by kernel_rfl) (fun _ _ _ _ _ h => h) HF5.out ?_
        repeat first
          | refine seq_pure (v := ?_) rfl (by rfl) (fun W hW => ?_) ?_
            rotate_left
            · obtain ⟨g4, g5⟩ := hW; go_simp
              with_reducible rfl
            simp only [Act.put, List.setIfInBounds_toArray, List.set_cons_zero, List.set_cons_succ]
        have hqc : w3.drew.cell? ⟨w.heap.size + 1, 1 + h, none⟩ = some (.int .u64 (v : Int)) := HQC.out
        have fz := HQ.out.drew.free (1 + h)
        refine seq_make rfl (by rfl) (fun K hK => ?_)
        go_simp
        refine hK _ _ (fun W => W.cell? ⟨g, i * 6 + 4, none⟩ = some (.int .u64 (f.bw : Int)) ∧ W.cell? ⟨g, i * 6 + 5, none⟩ = some (.int .i64 (h : Int))) (fun W h => h) HF5.out ?_
        clear hK K
        have hwr := HWR.out
        repeat first
          | refine seq_pure (v := ?_) rfl (by rfl) (fun W hW => ?_) ?_
            rotate_left
            · obtain ⟨g4, g5⟩ := hW; go_simp
              with_reducible rfl
            simp only [Act.put, List.setIfInBounds_toArray, List.set_cons_zero, List.set_cons_succ]
        refine seq_make rfl (by rfl) (fun K hK => ?_)
        go_simp
        have hq2 := HQ.out.set (1 + h) (.int .u64 ((v : Int) + (f.bw : Int)))
        rw [← Int.natCast_add, ← HV.out] at hq2
        have hg2 : w3.grownBy (w3.setCell ⟨w.heap.size + 1, 1 + h, none⟩ (.int .u64 ((v : Int) + (f.bw : Int)))) (some (w.heap.size + 1)) := ⟨rfl, rfl, rfl, by simp [World.setCell], fun k _ hne => Below.heap_setCell _ _ _ _ (fun e => hne (by rw [e]))⟩
        have hr2 := HRS.out.other (p := ⟨w.heap.size + 1, 1 + h, none⟩) (show ¬ w.heap.size + 1 = w.heap.size by omega) (.int .u64 ((v : Int) + (f.bw : Int)))
        have ha2 := AccR.kept HA.out hg2 (fun y hy e => by simp [blk] at hy; subst hy; injection e with e; exact HI.out.2.1 e.symm)
        have hb2 := HB.out.setCell (p := ⟨w.heap.size + 1, 1 + h, none⟩) (show w.heap.size ≤ w.heap.size + 1 by omega) (.int .u64 ((v : Int) + (f.bw : Int)))
        have hc4 : ∀ W, W = w3.setCell ⟨w.heap.size + 1, 1 + h, none⟩ (.int .u64 ((v : Int) + (f.bw : Int))) → W.cell? ⟨g, i * 6 + 4, none⟩ = some (.int .u64 (f.bw : Int)) ∧ W.cell? ⟨g, i * 6 + 5, none⟩ = some (.int .i64 (h : Int)) := fun W e => by
          subst e
          rw [World.cell?_setCell_other, World.cell?_setCell_other]
          · exact HF5.out
          · intro e; injection e with e1 _ _; exact HI.out.2.1 e1.symm
          · intro e; injection e with e1 _ _; exact HI.out.2.1 e1.symm
        rw [← Int.natCast_add] at hg2 hr2 ha2 hb2 hc4 ⊢
        obtain ⟨w4, hw4⟩ : ∃ W, w3.setCell ⟨w.heap.size + 1, 1 + h, none⟩ (.int .u64 ((v + f.bw : Nat) : Int)) = W := ⟨_, rfl⟩
        have hc5 := hc4 w4 hw4.symm
        rw [hw4] at hq2 hr2 ha2 hb2 ⊢
        have HQ4 := Lib.hid hq2.drew
        have HR4 := Lib.hid hr2.drew
        have HA4 := Lib.hid (AccR.drew ha2)
        have HB4 := Lib.hid hb2.drew
        have HC5 := Lib.hid hc5
        clear hq2 hg2 hr2 ha2 hb2 hc4 hc5 hw4
        refine hK _ _ (fun W => W.cell? ⟨g, i * 6 + 4, none⟩ = some (.int .u64 (f.bw : Int)) ∧ W.cell? ⟨g, i * 6 + 5, none⟩ = some (.int .i64 (h : Int))) (fun W h => h) HC5.out ?_
        clear hK K hwr hqc fz
        refine seq_done ?_
        go_wp2_with fail
        go_roundw
        case rel => exact ⟨i + 1, by have := HI.out.1; omega, by rw [HC.out]; exact HOK.out, by rw [HC.out], by first | rfl | (simp; omega), HQ4.out, HR4.out, HA4.out, HB4.out⟩
        case measure => have := HI.out.1; simp [intOf]; omega
      · rw [if_neg hok, decide_eq_false hok] at hab
        have HAB := Lib.hid hab
        have HOK := Lib.hid hok
        clear hab hok f5
        have hz : (Try.prog.info? 50).map (·.size) = some ([.int .u64 0, .int .u64 0, .int .u64 0, .int .u64 0, .int .u64 0, .int .u64 0, .int .u64 0, .int .u64 0, .int .u64 0] : List Value).length := cellsL14
        have hz1 : ∀ u ∈ ([.int .u64 0, .int .u64 0, .int .u64 0, .int .u64 0, .int .u64 0, .int .u64 0, .int .u64 0, .int .u64 0, .int .u64 0] : List Value), u.oneCell' = true := lgc_one lz
        have HZ := Lib.hid (And.intro hz hz1)
        clear hz hz1
        go_wp2_with fail
        ((with_reducible refine HAB.out.mono ?_))
        rintro e w3 ⟨rfl, rfl⟩
        go_wp2_with ((with_reducible refine step_store (o := ⟨none, _, _, _, _, _⟩) (vs := [.int .u64 0, .int .u64 0, .int .u64 0, .int .u64 0, .int .u64 0, .int .u64 0, .int .u64 0, .int .u64 0, .int .u64 0]) (ty := 50) (x := .tmp 4) (y := .tmp 34) ?_ ?_ ?_ ?_ HRS.out HZ.out.1 rfl HZ.out.2 ?_); (rfl); (rfl); (rfl); (rfl); intro w4 hb4 hg4 hs4)
        refine bodyPost_ret (v := .tuple #[.agg ([.int .u64 0, .int .u64 0, .int .u64 0, .int .u64 0, .int .u64 0, .int .u64 0, .int .u64 0, .int .u64 0, .int .u64 0] : List Value).toArray, .bool false]) (results_two8 rfl _ rfl hb4 Try.underlying50 rfl HZ.out.1 rfl) rfl ?_
        have h1 : ¬ fsum F < 18446744073709551616 := by
          have h2 := fsum_take_le F (i + 1)
          have h3 := HC.out
          have h4 := HOK.out
          omega
        unfold LedP14
        rw [if_neg h1, decide_eq_false h1]
        exact ⟨rfl, bel_upd HB.out hg4 (Nat.le_refl _) (Nat.le_refl _)⟩
    · obtain rfl : i = M := by omega
      have i1 : ¬ (i : Int) < (i : Int) := by omega
      have htk : F.take i = F := List.take_of_length_le (by rw [HM.out.1]; exact Nat.le_refl _)
      have hq := HQ.out
      have hfs := HFS.out
      rw [htk] at hq hfs
      have hlk := HLOK.out
      rw [if_pos hfs] at hlk
      have HI9 := Lib.hid (show (Try.prog.info? 50).map (·.size) = some (lgc (ledgOf size F)).length by rw [lgc_length hlk]; exact cellsL14)
      have HN9 := Lib.hid (show ([.int .u64 0, .int .u64 0, .int .u64 0, .int .u64 0, .int .u64 0, .int .u64 0, .int .u64 0, .int .u64 0, .int .u64 0] : List Value).length = (lgc (ledgOf size F)).length by rw [lgc_length hlk]; rfl)
      have HO9 := Lib.hid (lgc_one (ledgOf size F))
      have HQ9 := Lib.hid hq
      have HF9 := Lib.hid hfs
      clear hq hfs hlk htk hlt hi
      go_wp2_with (first | ((with_reducible refine step_load (o := ⟨some 57, _, _, _, _, _⟩) (x := .tmp 6) ?_ ?_ ?_ HQ9.out Try.underlying50 ?_ HI9.out ?_); (rfl); (rfl); (rfl); (rfl)) | ((with_reducible refine step_store (o := ⟨none, _, _, _, _, _⟩) (vs := lgc (ledgOf size F)) (ty := 50) (x := .tmp 4) (y := .tmp 57) ?_ ?_ ?_ ?_ HRS.out HI9.out HN9.out HO9.out ?_); (rfl); (rfl); (rfl); (rfl); intro w4 hb4 hg4 hs4))
      refine bodyPost_ret (v := .tuple #[.agg (lgc (ledgOf size F)).toArray, .bool true]) (results_two8 rfl _ rfl hb4 Try.underlying50 rfl HI9.out rfl) rfl ?_
      unfold LedP14
      rw [if_pos HF9.out, decide_eq_true HF9.out]
      exact ⟨rfl, bel_upd HB.out hg4 (Nat.le_refl _) (Nat.le_refl _)⟩
/-- Is what entries hold not too much? -/
theorem rfits14_calls (size : Nat) (hs : size < 18446744073709551616) (a : Option Addr) (n c : Nat) (l : List Et) (hsr : Srt14 l) (hrt : ∀ x ∈ l, wRight x.w = true) (hbw : ∀ x ∈ l, x.w.bw < 18446744073709551616) (w : World) (hr : Row ent w w.heap.size a n l) (hn : n ≤ 1073741824) : Calls Try.prog 41 #[.int .u64 (size : Int), .slice a n c] w (Yes14 (fit14 size l) w) := by
  have hk := fun W hW => rledger14_calls size hs a n c l hsr hrt hbw W (show Row ent W W.heap.size a n l from (hr.below hW).more hW.size) hn
  have hho := fams_ho hsr hrt
  have hlo := led14_ok (size := size) hho hs
  have hrc := rright13_calls (led14 size l) hlo
  have hv : fit14 size l = (decide (fsum (fams l) < 18446744073709551616) && lRight (led14 size l)) := by
    unfold fit14 led14 lRight
    by_cases h : fsum (fams l) < 18446744073709551616
    · rw [if_pos h, decide_eq_true h, Bool.true_and, (ledgOf_sum hho).1, (ledgOf_sum hho).2.2]
    · rw [decide_eq_false h, Bool.false_and, decide_eq_false (by omega)]
  unfold Yes14
  unfold LedPost14 at hk
  obtain ⟨G, hG⟩ : ∃ G, led14 size l = G := ⟨_, rfl⟩
  obtain ⟨d, hd⟩ : ∃ d, decide (fsum (fams l) < 18446744073709551616) = d := ⟨_, rfl⟩
  rw [hd, hG] at hv
  simp only [hd, hG] at hk
  rw [hG] at hlo hrc
  rw [hv]
  have HK := Lib.hid (hk w (Below.refl _ _))
  have HRC := Lib.hid hrc
  have HI9 := Lib.hid (show (Try.prog.info? 50).map (·.size) = some (lgc G).length by rw [lgc_length hlo]; exact cellsL14)
  have HN9 := Lib.hid (show ([.int .u64 0, .int .u64 0, .int .u64 0, .int .u64 0, .int .u64 0, .int .u64 0, .int .u64 0, .int .u64 0, .int .u64 0] : List Value).length = (lgc G).length by rw [lgc_length hlo]; rfl)
  have HO9 := Lib.hid (lgc_one G)
  have HZ := Lib.hid (fun W : World => (show Blk (W.alloc (.cells #[.int .u64 0, .int .u64 0, .int .u64 0, .int .u64 0, .int .u64 0, .int .u64 0, .int .u64 0, .int .u64 0, .int .u64 0] 50)) W.heap.size 50 [.int .u64 0, .int .u64 0, .int .u64 0, .int .u64 0, .int .u64 0, .int .u64 0, .int .u64 0, .int .u64 0, .int .u64 0] from Blk.new W _ _))
  clear hk hho hlo hrc hv hG hd hr
  go_enter Try.func41, Try.ntmps41
  go_wp2_with fail
  ((with_reducible refine HK.out.mono ?_))
  rintro e w2 ⟨rfl, hb⟩
  have HL2 := Lib.hid hb
  clear hb
  go_upto_region 2 with ((with_reducible refine step_store (o := ⟨none, _, _, _, _, _⟩) (vs := lgc G) (ty := 50) (x := .tmp 5) (y := .tmp 11) ?_ ?_ ?_ ?_ (HZ.out _) HI9.out HN9.out HO9.out ?_); (rfl); (rfl); (rfl); (rfl); intro w3 hb3 hg3 hs3)
  have HQ3 := Lib.hid hb3
  have HL3 := Lib.hid (show Below w.heap.size w w3 from HL2.out.trans ((bel_upd (bel_new (Below.refl _ _) _) hg3 (Nat.le_refl _) (Nat.le_refl _)).mono HL2.out.size))
  clear hb3 hg3 hs3
  generalize w2.heap.size = q at *
  cases d with
  | false =>
    go_wp2_with fail
    go_ret
    exact ⟨rfl, HL3.out⟩
  | true =>
    go_wp2_with ((with_reducible refine step_load_want (o := ⟨some 15, _, _, _, _, _⟩) (x := .tmp 5) ?_ ?_ ?_ HQ3.out Try.underlying50 ?_ HI9.out ?_); (rfl); (rfl); (rfl); (rfl))
    ((with_reducible refine (HRC.out _).mono ?_))
    rintro e w4 ⟨rfl, hb⟩
    have HL4 := Lib.hid (HL3.out.trans (hb.mono HL3.out.size))
    clear hb
    go_wp2_with fail
    go_ret
    exact ⟨by cases lRight G <;> rfl, HL4.out⟩
end Go.Proofs.Ytnkoiageoenfeaa

namespace Go.Proofs.Ytnkoiageoenfeaa
set_option maxRecDepth 100000
set_option linter.unusedVariables false
open Go.RowKit

def zf14 : Fam := ⟨⟨0, 0, 0, 0⟩, 0, 0⟩
theorem sizeFam14 : (Try.prog.info? 85).map (·.size) = some 6 := by kernel_rfl
/-- What it answers. -/
def VicP14 (r : Option Fam) (w : World) (e : Ending) (w' : World) : Prop := e = .returned (.tuple #[.agg (fmc (r.getD zf14)).toArray, .bool r.isSome]) ∧ Below w.heap.size w w'
theorem vstep_none {k : Ky} {su : Int} {b : Option Fam} {f : Fam} (h : gives14 k su f = false) : vstep k su b f = b := by unfold vstep; rw [h]; simp
theorem vstep_some {k : Ky} {su : Int} {b : Option Fam} {f : Fam} (h : gives14 k su f = true) (h2 : beats14 b f = true) : vstep k su b f = some f := by unfold vstep; rw [h, h2]; simp
theorem vstep_stay {k : Ky} {su : Int} {b : Option Fam} {f : Fam} (h2 : beats14 b f = false) : vstep k su b f = b := by unfold vstep; rw [h2]; simp
set_option maxHeartbeats 6400000 in
theorem rvictim14_calls (a : Option Addr) (n c : Nat) (l : List Et) (k : Ky) (su : Int) (w : World) (hr : Row ent w w.heap.size a n l) (hn : n ≤ 1073741824) : Calls Try.prog 43 #[.slice a n c, .agg #[.int .i64 k.tail, .int .i64 k.tun, .int .i64 k.head, .int .i64 k.lsp], .int .i64 su] w (VicP14 (vict l k su) w) := by
  have hk := fun W hW => rfams14_calls a n c l W (show Row ent W W.heap.size a n l from (hr.below hW).more hW.size) hn
  have hfl := fams_length l
  have hln := hr.1
  unfold FamPost at hk
  unfold vict
  obtain ⟨F, hF⟩ : ∃ F, fams l = F := ⟨_, rfl⟩
  rw [hF] at hfl ⊢
  simp only [hF] at hk
  obtain ⟨M, hM⟩ : ∃ M, F.length = M := ⟨_, rfl⟩
  simp only [hM] at hk
  have HK := Lib.hid hk
  have HM := Lib.hid (show F.length = M ∧ M ≤ 1073741824 from ⟨hM, by omega⟩)
  have hMb : M ≤ 1073741824 := by omega
  have HZF := Lib.hid (fun f : Fam => (show (Try.prog.info? 85).map (·.size) = some (fmc f).length from sizeFam14))
  have HLN := Lib.hid (fun f g : Fam => (show (fmc f).length = (fmc g).length from rfl))
  have HON := Lib.hid fmc_one
  clear hk hfl hln hM hF hr hn
  go_enter Try.func43, Try.ntmps43
  go_upto_region 1 with fail
  obtain ⟨b0, b1, bl⟩ := alloc2 w [.int .i64 k.tail, .int .i64 k.tun, .int .i64 k.head, .int .i64 k.lsp] [.int .i64 0, .int .i64 0, .int .i64 0, .int .i64 0, .int .u64 0, .int .i64 0] 23 85
  have HK1 := Lib.hid (show Blk _ _ _ (kyc k) from b0)
  have HR1 := Lib.hid (show Blk _ _ _ (fmc zf14) from b1)
  have HL1 := Lib.hid bl
  clear b0 b1 bl
  generalize ((w.alloc (.cells #[.int .i64 k.tail, .int .i64 k.tun, .int .i64 k.head, .int .i64 k.lsp] 23)).alloc (.cells #[.int .i64 0, .int .i64 0, .int .i64 0, .int .i64 0, .int .u64 0, .int .i64 0] 85)) = w1 at *
  go_wp2_with fail
  ((with_reducible refine (HK.out w1 HL1.out).mono ?_))
  rintro e w2 ⟨A, cA, rfl, hacc, hb⟩
  have HK2 := Lib.hid (HK1.out.below hb)
  have HR2 := Lib.hid (HR1.out.below hb)
  have HL2 := Lib.hid (HL1.out.trans (hb.mono HL1.out.size))
  have HA2 := Lib.hid (AccR.lower hacc HL1.out.size)
  clear hb hacc HK1 HR1 HL1 HK
  go_upto_region 3 with fail
  have HQ3 := Lib.hid (show Blk (w2.alloc (.cells #[.int .i64 0, .int .i64 0, .int .i64 0, .int .i64 0, .int .u64 0, .int .i64 0] 85)) w2.heap.size 85 (fmc zf14) from Blk.new w2 _ (fmc zf14))
  have bz := bel_new (Below.refl w2.heap.size w2) (.cells #[.int .i64 0, .int .i64 0, .int .i64 0, .int .i64 0, .int .u64 0, .int .i64 0] 85)
  have HK3 := Lib.hid (HK2.out.below bz)
  have HR3 := Lib.hid (HR2.out.below bz)
  have HL3 := Lib.hid (HL2.out.trans (bz.mono HL2.out.size))
  have HA3 := Lib.hid (AccR.bel HA2.out bz)
  have hq := HR2.out.lt
  have hgA : ∀ g, blk A = some g → g < w2.heap.size := fun g hg => (AccR.ge HA2.out hg).2
  have hqw := HL2.out.size
  clear bz HK2 HR2 HL2 HA2
  generalize w2.alloc (.cells #[.int .i64 0, .int .i64 0, .int .i64 0, .int .i64 0, .int .u64 0, .int .i64 0] 85) = w3 at *
  generalize w2.heap.size = q at *
  have HQW := Lib.hid (show w.heap.size + 1 < q from hq)
  have HGA := Lib.hid (show ∀ g, blk A = some g → g ≠ q from fun g hg => Nat.ne_of_lt (hgA g hg))
  clear hq hqw hgA
  go_wp2_with fail
  go_loopw [10, 11] (fun s t W => ∃ (i : Nat) (bo : Option Fam), i ≤ M ∧ (F.take i).foldl (vstep k su) none = bo ∧ s = .bool bo.isSome ∧ t = .int .i64 (i : Int) ∧ AccFm W w.heap.size A cA F ∧ Blk W w.heap.size 23 (kyc k) ∧ Blk W q 85 (fmc (bo.getD zf14)) ∧ Blk W (w.heap.size + 1) 85 (fmc zf14) ∧ Below w.heap.size w W) (fun s t W => M - (intOf t).toNat)
  case atStart => exact ⟨0, none, by omega, rfl, rfl, rfl, HA3.out, HK3.out, HQ3.out, HR3.out, HL3.out⟩
  case round =>
    obtain ⟨i, bo, hi, hbo, rfl, rfl, ha, hkb, hqb, hrs, hb⟩ := hrel
    have HA := Lib.hid ha
    have HKB := Lib.hid hkb
    have HQB := Lib.hid hqb
    have HRS := Lib.hid hrs
    have HB := Lib.hid hb
    have HBO := Lib.hid hbo
    clear ha hkb hqb hrs hb hbo HA3 HK3 HQ3 HR3 HL3
    by_cases hlt : i < M
    · have i1 : (i : Int) < (M : Int) := by omega
      obtain ⟨g, rfl, hg1, hg2⟩ := accr_addr HA.out (by have := HM.out.1; omega)
      have hgq := HGA.out g rfl
      obtain ⟨b2, o2, f, e, hf, hbb, hcc⟩ := row_cells (i := i) fmc_length (AccR.row HA.out) (by have := HM.out.1; omega)
      injection e with e; injection e with eb eo
      subst eb; subst eo
      simp only [Nat.zero_add] at hcc
      obtain ⟨bf, hbf⟩ : ∃ bf, bo.getD zf14 = bf := ⟨_, rfl⟩
      have hqb := HQB.out
      rw [hbf] at hqb
      have hc : ∀ W, Below wr.heap.size wr W → (W.cell? ⟨g, i * 6, none⟩ = some (.int .i64 f.k.tail) ∧ W.cell? ⟨g, i * 6 + 1, none⟩ = some (.int .i64 f.k.tun) ∧ W.cell? ⟨g, i * 6 + 2, none⟩ = some (.int .i64 f.k.head) ∧ W.cell? ⟨g, i * 6 + 3, none⟩ = some (.int .i64 f.k.lsp) ∧ W.cell? ⟨g, i * 6 + 4, none⟩ = some (.int .u64 (f.bw : Int)) ∧ W.cell? ⟨g, i * 6 + 5, none⟩ = some (.int .i64 f.ho)) ∧ (W.cell? ⟨w.heap.size, 0, none⟩ = some (.int .i64 k.tail) ∧ W.cell? ⟨w.heap.size, 1, none⟩ = some (.int .i64 k.tun) ∧ W.cell? ⟨w.heap.size, 2, none⟩ = some (.int .i64 k.head) ∧ W.cell? ⟨w.heap.size, 3, none⟩ = some (.int .i64 k.lsp)) ∧ (W.cell? ⟨q, 0, none⟩ = some (.int .i64 bf.k.tail) ∧ W.cell? ⟨q, 1, none⟩ = some (.int .i64 bf.k.tun) ∧ W.cell? ⟨q, 2, none⟩ = some (.int .i64 bf.k.head) ∧ W.cell? ⟨q, 3, none⟩ = some (.int .i64 bf.k.lsp) ∧ W.cell? ⟨q, 4, none⟩ = some (.int .u64 (bf.bw : Int)) ∧ W.cell? ⟨q, 5, none⟩ = some (.int .i64 bf.ho)) := fun W hW => by
        have h1 := hcc W hW
        have h2 := HKB.out.below hW
        have h3 := hqb.below hW
        exact ⟨⟨h1 0 _ rfl, h1 1 _ rfl, h1 2 _ rfl, h1 3 _ rfl, h1 4 _ rfl, h1 5 _ rfl⟩, ⟨h2.cell 0, h2.cell 1, h2.cell 2, h2.cell 3⟩, h3.cell 0, h3.cell 1, h3.cell 2, h3.cell 3, h3.cell 4, h3.cell 5⟩
      have HC := Lib.hid hc
      have HFI := Lib.hid hf
      have HI := Lib.hid (And.intro hlt hgq)
      have HBF := Lib.hid hbf
      obtain ⟨d, hd⟩ : ∃ d, kKin f.k k = d := ⟨_, rfl⟩
      have hlc := fun W => rkin14_calls f.k k W
      have hwc := fun W => rworse14_calls f bf W
      unfold Yes14 at hlc hwc
      rw [hd] at hlc
      obtain ⟨v, hv⟩ : ∃ v, worse14 f bf = v := ⟨_, rfl⟩
      rw [hv] at hwc
      have HLC := Lib.hid hlc
      have HWC := Lib.hid hwc
      have HD := Lib.hid hd
      have HV := Lib.hid hv
      clear hcc hqb hc hf hbf hlc hwc hd hv hlt hi hg1 hg2 hgq hbb
      cases d with
      | true =>
        go_wp2_with fail
        refine region_seq (fun W => Below wr.heap.size wr W) [(0, true), (1, true), (2, true), (3, true), (4, true), (5, true), (6, false), (7, true), (8, true), (9, true), (10, true), (11, true), (12, true), (13, true), (14, true), (15, true), (16, true), (17, true), (18, true), (19, true), (20, true), (21, true), (22, true), (23, true), (24, true), (25, true), (26, false), (27, true), (28, true)] (by kernel_rfl) (by kernel_rfl) (by kernel_rfl) (by kernel_rfl) (fun _ _ _ _ _ h => h) (Below.refl _ _).drew ?_
        repeat first
          | refine seq_pure (v := ?_) rfl (by rfl) (fun W hW => ?_) ?_
            rotate_left
            · obtain ⟨⟨f0, f1, f2, f3, f4, f5⟩, ⟨k0, k1, k2, k3⟩, b0, b1, b2, b3, b4, b5⟩ := HC.out W hW
              clear hW
              go_simp
              with_reducible rfl
            simp only [Act.put, List.setIfInBounds_toArray, List.set_cons_zero, List.set_cons_succ]
          | refine seq_skip rfl (by rfl) ?_
            simp only [Act.put, List.setIfInBounds_toArray, List.set_cons_zero, List.set_cons_succ]
        refine seq_make rfl (by rfl) (fun K hK => ?_)
        go_simp
        ((with_reducible refine (HLC.out wr.drew).mono ?_))
        rintro e w4 ⟨rfl, hb7⟩
        have C4 := Lib.hid (show Below wr.heap.size wr w4 from below_of_drew hb7)
        clear hb7
        go_simp
        refine hK _ _ (fun W => Below wr.heap.size wr W) (fun W h => h) C4.out ?_
        clear hK K
        repeat first
          | refine seq_pure (v := ?_) rfl (by rfl) (fun W hW => ?_) ?_
            rotate_left
            · obtain ⟨⟨f0, f1, f2, f3, f4, f5⟩, ⟨k0, k1, k2, k3⟩, b0, b1, b2, b3, b4, b5⟩ := HC.out W hW
              clear hW
              go_simp
              with_reducible rfl
            simp only [Act.put, List.setIfInBounds_toArray, List.set_cons_zero, List.set_cons_succ]
          | refine seq_skip rfl (by rfl) ?_
            simp only [Act.put, List.setIfInBounds_toArray, List.set_cons_zero, List.set_cons_succ]
        refine seq_unmake14 rfl (by rfl) C4.out ?_
        simp only [Act.put, List.setIfInBounds_toArray, List.set_cons_zero, List.set_cons_succ]
        repeat first
          | refine seq_pure (v := ?_) rfl (by rfl) (fun W hW => ?_) ?_
            rotate_left
            · obtain ⟨⟨f0, f1, f2, f3, f4, f5⟩, ⟨k0, k1, k2, k3⟩, b0, b1, b2, b3, b4, b5⟩ := HC.out W hW
              clear hW
              go_simp
              with_reducible rfl
            simp only [Act.put, List.setIfInBounds_toArray, List.set_cons_zero, List.set_cons_succ]
          | refine seq_skip rfl (by rfl) ?_
            simp only [Act.put, List.setIfInBounds_toArray, List.set_cons_zero, List.set_cons_succ]
        refine seq_done ?_
        go_wp2_with fail
        go_roundw
        case rel => exact ⟨i + 1, bo, by have := HI.out.1; omega, by rw [take_snoc14 HFI.out, List.foldl_append, HBO.out]; exact vstep_none (by unfold gives14; rw [HD.out]; rfl), rfl, by first | rfl | (simp; omega), HA.out.bel C4.out, HKB.out.below C4.out, HQB.out.below C4.out, HRS.out.below C4.out, HB.out.trans (C4.out.mono HB.out.size)⟩
        case measure => have := HI.out.1; simp [intOf]; omega
      | false =>
        by_cases hgt : su < f.ho
        · have gd : decide (su < f.ho) = true := decide_eq_true hgt
          have HGT := Lib.hid hgt
          clear hgt
          cases bo with
          | none =>
            go_wp2_with fail
            refine region_seq (fun W => Below wr.heap.size wr W) [(0, true), (1, true), (2, true), (3, true), (4, true), (5, true), (6, false), (7, true), (8, true), (9, true), (10, true), (11, true), (12, true), (13, true), (14, true), (15, true), (16, true), (17, true), (18, true), (19, true), (20, true), (21, true), (22, true), (23, true), (24, true), (25, true), (26, false), (27, true), (28, true)] (by kernel_rfl) (by kernel_rfl) (by kernel_rfl) (by kernel_rfl) (fun _ _ _ _ _ h => h) (Below.refl _ _).drew ?_
            repeat first
              | refine seq_pure (v := ?_) rfl (by rfl) (fun W hW => ?_) ?_
                rotate_left
                · obtain ⟨⟨f0, f1, f2, f3, f4, f5⟩, ⟨k0, k1, k2, k3⟩, b0, b1, b2, b3, b4, b5⟩ := HC.out W hW
                  clear hW
                  go_simp
                  with_reducible rfl
                simp only [Act.put, List.setIfInBounds_toArray, List.set_cons_zero, List.set_cons_succ]
              | refine seq_skip rfl (by rfl) ?_
                simp only [Act.put, List.setIfInBounds_toArray, List.set_cons_zero, List.set_cons_succ]
            refine seq_make rfl (by rfl) (fun K hK => ?_)
            go_simp
            ((with_reducible refine (HLC.out wr.drew).mono ?_))
            rintro e w4 ⟨rfl, hb7⟩
            have C4 := Lib.hid (show Below wr.heap.size wr w4 from below_of_drew hb7)
            clear hb7
            go_simp
            refine hK _ _ (fun W => Below wr.heap.size wr W) (fun W h => h) C4.out ?_
            clear hK K
            repeat first
              | refine seq_pure (v := ?_) rfl (by rfl) (fun W hW => ?_) ?_
                rotate_left
                · obtain ⟨⟨f0, f1, f2, f3, f4, f5⟩, ⟨k0, k1, k2, k3⟩, b0, b1, b2, b3, b4, b5⟩ := HC.out W hW
                  clear hW
                  go_simp
                  with_reducible rfl
                simp only [Act.put, List.setIfInBounds_toArray, List.set_cons_zero, List.set_cons_succ]
              | refine seq_skip rfl (by rfl) ?_
                simp only [Act.put, List.setIfInBounds_toArray, List.set_cons_zero, List.set_cons_succ]
            refine seq_unmake14 rfl (by rfl) C4.out ?_
            simp only [Act.put, List.setIfInBounds_toArray, List.set_cons_zero, List.set_cons_succ]
            repeat first
              | refine seq_pure (v := ?_) rfl (by rfl) (fun W hW => ?_) ?_
                rotate_left
                · obtain ⟨⟨f0, f1, f2, f3, f4, f5⟩, ⟨k0, k1, k2, k3⟩, b0, b1, b2, b3, b4, b5⟩ := HC.out W hW
                  clear hW
                  go_simp
                  with_reducible rfl
                simp only [Act.put, List.setIfInBounds_toArray, List.set_cons_zero, List.set_cons_succ]
              | refine seq_skip rfl (by rfl) ?_
                simp only [Act.put, List.setIfInBounds_toArray, List.set_cons_zero, List.set_cons_succ]
            refine seq_done ?_
            obtain ⟨⟨f0, f1, f2, f3, f4, f5⟩, _, _⟩ := HC.out w4 C4.out
            have HQ4 := Lib.hid (HQB.out.below C4.out)
            go_wp2_with ((with_reducible refine step_store (o := ⟨none, _, _, _, _, _⟩) (vs := fmc f) (ty := 85) (x := .tmp 9) (y := .tmp 53) ?_ ?_ ?_ ?_ HQ4.out (HZF.out _) (HLN.out _ _) (HON.out f) ?_); (rfl); (rfl); (rfl); (rfl); intro w6 hb6 hg6 hs6)
            have HQ6 := Lib.hid hb6
            have HA6 := Lib.hid (AccR.kept (AccR.bel HA.out C4.out) hg6 (fun y hy e => by injection e with e; exact HGA.out y hy e.symm))
            have HKB6 := Lib.hid ((HKB.out.below C4.out).kept14 hg6 (by have := HQW.out; omega))
            have HRS6 := Lib.hid ((HRS.out.below C4.out).kept14 hg6 (by have := HQW.out; omega))
            have HB6 := Lib.hid (bel_upd (HB.out.trans (C4.out.mono HB.out.size)) hg6 (Nat.le_refl _) (by have := HQW.out; omega))
            clear hb6 hg6 hs6
            go_roundw
            case rel => exact ⟨i + 1, some f, by have := HI.out.1; omega, by rw [take_snoc14 HFI.out, List.foldl_append, HBO.out]; exact vstep_some (gives_iff.2 ⟨kKin_false.1 HD.out, HGT.out⟩) rfl, rfl, by first | rfl | (simp; omega), HA6.out, HKB6.out, HQ6.out, HRS6.out, HB6.out⟩
            case measure => have := HI.out.1; simp [intOf]; omega
          | some bg =>
            obtain rfl : bg = bf := HBF.out
            cases v with
            | false =>
              go_wp2_with fail
              refine region_seq (fun W => Below wr.heap.size wr W) [(0, true), (1, true), (2, true), (3, true), (4, true), (5, true), (6, false), (7, true), (8, true), (9, true), (10, true), (11, true), (12, true), (13, true), (14, true), (15, true), (16, true), (17, true), (18, true), (19, true), (20, true), (21, true), (22, true), (23, true), (24, true), (25, true), (26, false), (27, true), (28, true)] (by kernel_rfl) (by kernel_rfl) (by kernel_rfl) (by kernel_rfl) (fun _ _ _ _ _ h => h) (Below.refl _ _).drew ?_
              repeat first
                | refine seq_pure (v := ?_) rfl (by rfl) (fun W hW => ?_) ?_
                  rotate_left
                  · obtain ⟨⟨f0, f1, f2, f3, f4, f5⟩, ⟨k0, k1, k2, k3⟩, b0, b1, b2, b3, b4, b5⟩ := HC.out W hW
                    clear hW
                    go_simp
                    with_reducible rfl
                  simp only [Act.put, List.setIfInBounds_toArray, List.set_cons_zero, List.set_cons_succ]
                | refine seq_skip rfl (by rfl) ?_
                  simp only [Act.put, List.setIfInBounds_toArray, List.set_cons_zero, List.set_cons_succ]
              refine seq_make rfl (by rfl) (fun K hK => ?_)
              go_simp
              ((with_reducible refine (HLC.out wr.drew).mono ?_))
              rintro e w4 ⟨rfl, hb7⟩
              have C4 := Lib.hid (show Below wr.heap.size wr w4 from below_of_drew hb7)
              clear hb7
              go_simp
              refine hK _ _ (fun W => Below wr.heap.size wr W) (fun W h => h) C4.out ?_
              clear hK K
              repeat first
                | refine seq_pure (v := ?_) rfl (by rfl) (fun W hW => ?_) ?_
                  rotate_left
                  · obtain ⟨⟨f0, f1, f2, f3, f4, f5⟩, ⟨k0, k1, k2, k3⟩, b0, b1, b2, b3, b4, b5⟩ := HC.out W hW
                    clear hW
                    go_simp
                    with_reducible rfl
                  simp only [Act.put, List.setIfInBounds_toArray, List.set_cons_zero, List.set_cons_succ]
                | refine seq_skip rfl (by rfl) ?_
                  simp only [Act.put, List.setIfInBounds_toArray, List.set_cons_zero, List.set_cons_succ]
              refine seq_make rfl (by rfl) (fun K hK => ?_)
              go_simp
              ((with_reducible refine (HWC.out w4).mono ?_))
              rintro e w5 ⟨rfl, hb7⟩
              have C5 := Lib.hid (show Below wr.heap.size wr w5 from C4.out.trans (hb7.mono C4.out.size))
              clear hb7
              go_simp
              refine hK _ _ (fun W => Below wr.heap.size wr W) (fun W h => h) C5.out ?_
              clear hK K
              repeat first
                | refine seq_pure (v := ?_) rfl (by rfl) (fun W hW => ?_) ?_
                  rotate_left
                  · obtain ⟨⟨f0, f1, f2, f3, f4, f5⟩, ⟨k0, k1, k2, k3⟩, b0, b1, b2, b3, b4, b5⟩ := HC.out W hW
                    clear hW
                    go_simp
                    with_reducible rfl
                  simp only [Act.put, List.setIfInBounds_toArray, List.set_cons_zero, List.set_cons_succ]
                | refine seq_skip rfl (by rfl) ?_
                  simp only [Act.put, List.setIfInBounds_toArray, List.set_cons_zero, List.set_cons_succ]
              refine seq_done ?_
              go_wp2_with fail
              go_roundw
              case rel => exact ⟨i + 1, some bg, by have := HI.out.1; omega, by rw [take_snoc14 HFI.out, List.foldl_append, HBO.out]; exact vstep_stay HV.out, rfl, by first | rfl | (simp; omega), HA.out.bel C5.out, HKB.out.below C5.out, HQB.out.below C5.out, HRS.out.below C5.out, HB.out.trans (C5.out.mono HB.out.size)⟩
              case measure => have := HI.out.1; simp [intOf]; omega
            | true =>
              go_wp2_with fail
              refine region_seq (fun W => Below wr.heap.size wr W) [(0, true), (1, true), (2, true), (3, true), (4, true), (5, true), (6, false), (7, true), (8, true), (9, true), (10, true), (11, true), (12, true), (13, true), (14, true), (15, true), (16, true), (17, true), (18, true), (19, true), (20, true), (21, true), (22, true), (23, true), (24, true), (25, true), (26, false), (27, true), (28, true)] (by kernel_rfl) (by kernel_rfl) (by kernel_rfl) (by kernel_rfl) (fun _ _ _ _ _ h => h) (Below.refl _ _).drew ?_
              repeat first
                | refine seq_pure (v := ?_) rfl (by rfl) (fun W hW => ?_) ?_
                  rotate_left
                  · obtain ⟨⟨f0, f1, f2, f3, f4, f5⟩, ⟨k0, k1, k2, k3⟩, b0, b1, b2, b3, b4, b5⟩ := HC.out W hW
                    clear hW
                    go_simp
                    with_reducible rfl
                  simp only [Act.put, List.setIfInBounds_toArray, List.set_cons_zero, List.set_cons_succ]
                | refine seq_skip rfl (by rfl) ?_
                  simp only [Act.put, List.setIfInBounds_toArray, List.set_cons_zero, List.set_cons_succ]
              refine seq_make rfl (by rfl) (fun K hK => ?_)
              go_simp
              ((with_reducible refine (HLC.out wr.drew).mono ?_))
              rintro e w4 ⟨rfl, hb7⟩
              have C4 := Lib.hid (show Below wr.heap.size wr w4 from below_of_drew hb7)
              clear hb7
              go_simp
              refine hK _ _ (fun W => Below wr.heap.size wr W) (fun W h => h) C4.out ?_
              clear hK K
              repeat first
                | refine seq_pure (v := ?_) rfl (by rfl) (fun W hW => ?_) ?_
                  rotate_left
                  · obtain ⟨⟨f0, f1, f2, f3, f4, f5⟩, ⟨k0, k1, k2, k3⟩, b0, b1, b2, b3, b4, b5⟩ := HC.out W hW
                    clear hW
                    go_simp
                    with_reducible rfl
                  simp only [Act.put, List.setIfInBounds_toArray, List.set_cons_zero, List.set_cons_succ]
                | refine seq_skip rfl (by rfl) ?_
                  simp only [Act.put, List.setIfInBounds_toArray, List.set_cons_zero, List.set_cons_succ]
              refine seq_make rfl (by rfl) (fun K hK => ?_)
              go_simp
              ((with_reducible refine (HWC.out w4).mono ?_))
              rintro e w5 ⟨rfl, hb7⟩
              have C5 := Lib.hid (show Below wr.heap.size wr w5 from C4.out.trans (hb7.mono C4.out.size))
              clear hb7
              go_simp
              refine hK _ _ (fun W => Below wr.heap.size wr W) (fun W h => h) C5.out ?_
              clear hK K
              repeat first
                | refine seq_pure (v := ?_) rfl (by rfl) (fun W hW => ?_) ?_
                  rotate_left
                  · obtain ⟨⟨f0, f1, f2, f3, f4, f5⟩, ⟨k0, k1, k2, k3⟩, b0, b1, b2, b3, b4, b5⟩ := HC.out W hW
                    clear hW
                    go_simp
                    with_reducible rfl
                  simp only [Act.put, List.setIfInBounds_toArray, List.set_cons_zero, List.set_cons_succ]
                | refine seq_skip rfl (by rfl) ?_
                  simp only [Act.put, List.setIfInBounds_toArray, List.set_cons_zero, List.set_cons_succ]
              refine seq_done ?_
              obtain ⟨⟨f0, f1, f2, f3, f4, f5⟩, _, _⟩ := HC.out w5 C5.out
              have HQ4 := Lib.hid (HQB.out.below C5.out)
              go_wp2_with ((with_reducible refine step_store (o := ⟨none, _, _, _, _, _⟩) (vs := fmc f) (ty := 85) (x := .tmp 9) (y := .tmp 53) ?_ ?_ ?_ ?_ HQ4.out (HZF.out _) (HLN.out _ _) (HON.out f) ?_); (rfl); (rfl); (rfl); (rfl); intro w6 hb6 hg6 hs6)
              have HQ6 := Lib.hid hb6
              have HA6 := Lib.hid (AccR.kept (AccR.bel HA.out C5.out) hg6 (fun y hy e => by injection e with e; exact HGA.out y hy e.symm))
              have HKB6 := Lib.hid ((HKB.out.below C5.out).kept14 hg6 (by have := HQW.out; omega))
              have HRS6 := Lib.hid ((HRS.out.below C5.out).kept14 hg6 (by have := HQW.out; omega))
              have HB6 := Lib.hid (bel_upd (HB.out.trans (C5.out.mono HB.out.size)) hg6 (Nat.le_refl _) (by have := HQW.out; omega))
              clear hb6 hg6 hs6
              go_roundw
              case rel => exact ⟨i + 1, some f, by have := HI.out.1; omega, by rw [take_snoc14 HFI.out, List.foldl_append, HBO.out]; exact vstep_some (gives_iff.2 ⟨kKin_false.1 HD.out, HGT.out⟩) HV.out, rfl, by first | rfl | (simp; omega), HA6.out, HKB6.out, HQ6.out, HRS6.out, HB6.out⟩
              case measure => have := HI.out.1; simp [intOf]; omega
        · have gd : decide (su < f.ho) = false := decide_eq_false hgt
          have HGT := Lib.hid hgt
          clear hgt
          go_wp2_with fail
          refine region_seq (fun W => Below wr.heap.size wr W) [(0, true), (1, true), (2, true), (3, true), (4, true), (5, true), (6, false), (7, true), (8, true), (9, true), (10, true), (11, true), (12, true), (13, true), (14, true), (15, true), (16, true), (17, true), (18, true), (19, true), (20, true), (21, true), (22, true), (23, true), (24, true), (25, true), (26, false), (27, true), (28, true)] (by kernel_rfl) (by kernel_rfl) (by kernel_rfl) (by kernel_rfl) (fun _ _ _ _ _ h => h) (Below.refl _ _).drew ?_
          repeat first
            | refine seq_pure (v := ?_) rfl (by rfl) (fun W hW => ?_) ?_
              rotate_left
              · obtain ⟨⟨f0, f1, f2, f3, f4, f5⟩, ⟨k0, k1, k2, k3⟩, b0, b1, b2, b3, b4, b5⟩ := HC.out W hW
                clear hW
                go_simp
                with_reducible rfl
              simp only [Act.put, List.setIfInBounds_toArray, List.set_cons_zero, List.set_cons_succ]
            | refine seq_skip rfl (by rfl) ?_
              simp only [Act.put, List.setIfInBounds_toArray, List.set_cons_zero, List.set_cons_succ]
          refine seq_make rfl (by rfl) (fun K hK => ?_)
          go_simp
          ((with_reducible refine (HLC.out wr.drew).mono ?_))
          rintro e w4 ⟨rfl, hb7⟩
          have C4 := Lib.hid (show Below wr.heap.size wr w4 from below_of_drew hb7)
          clear hb7
          go_simp
          refine hK _ _ (fun W => Below wr.heap.size wr W) (fun W h => h) C4.out ?_
          clear hK K
          repeat first
            | refine seq_pure (v := ?_) rfl (by rfl) (fun W hW => ?_) ?_
              rotate_left
              · obtain ⟨⟨f0, f1, f2, f3, f4, f5⟩, ⟨k0, k1, k2, k3⟩, b0, b1, b2, b3, b4, b5⟩ := HC.out W hW
                clear hW
                go_simp
                with_reducible rfl
              simp only [Act.put, List.setIfInBounds_toArray, List.set_cons_zero, List.set_cons_succ]
            | refine seq_skip rfl (by rfl) ?_
              simp only [Act.put, List.setIfInBounds_toArray, List.set_cons_zero, List.set_cons_succ]
          refine seq_unmake14 rfl (by rfl) C4.out ?_
          simp only [Act.put, List.setIfInBounds_toArray, List.set_cons_zero, List.set_cons_succ]
          repeat first
            | refine seq_pure (v := ?_) rfl (by rfl) (fun W hW => ?_) ?_
              rotate_left
              · obtain ⟨⟨f0, f1, f2, f3, f4, f5⟩, ⟨k0, k1, k2, k3⟩, b0, b1, b2, b3, b4, b5⟩ := HC.out W hW
                clear hW
                go_simp
                with_reducible rfl
              simp only [Act.put, List.setIfInBounds_toArray, List.set_cons_zero, List.set_cons_succ]
            | refine seq_skip rfl (by rfl) ?_
              simp only [Act.put, List.setIfInBounds_toArray, List.set_cons_zero, List.set_cons_succ]
          refine seq_done ?_
          go_wp2_with fail
          go_roundw
          case rel => exact ⟨i + 1, bo, by have := HI.out.1; omega, by rw [take_snoc14 HFI.out, List.foldl_append, HBO.out]; exact vstep_none (by unfold gives14; rw [decide_eq_false (by have := HGT.out; omega), Bool.and_false]), rfl, by first | rfl | (simp; omega), HA.out.bel C4.out, HKB.out.below C4.out, HQB.out.below C4.out, HRS.out.below C4.out, HB.out.trans (C4.out.mono HB.out.size)⟩
          case measure => have := HI.out.1; simp [intOf]; omega
    · obtain rfl : i = M := by omega
      have i1 : ¬ (i : Int) < (i : Int) := by omega
      have htk : F.take i = F := List.take_of_length_le (by rw [HM.out.1]; exact Nat.le_refl _)
      have hbo := HBO.out
      rw [htk] at hbo
      have HBO2 := Lib.hid hbo
      clear hbo htk hlt hi
      go_wp2_with (first | ((with_reducible refine step_load (o := ⟨some 54, _, _, _, _, _⟩) (x := .tmp 9) ?_ ?_ ?_ HQB.out Try.underlying85 ?_ (HZF.out _) ?_); (rfl); (rfl); (rfl); (rfl)) | ((with_reducible refine step_store (o := ⟨none, _, _, _, _, _⟩) (vs := fmc (bo.getD zf14)) (ty := 85) (x := .tmp 6) (y := .tmp 54) ?_ ?_ ?_ ?_ HRS.out (HZF.out _) (HLN.out _ _) (HON.out _) ?_); (rfl); (rfl); (rfl); (rfl); intro w6 hb6 hg6 hs6))
      refine bodyPost_ret (v := .tuple #[.agg (fmc (bo.getD zf14)).toArray, .bool bo.isSome]) (results_two8 rfl _ rfl hb6 Try.underlying85 rfl (HZF.out _) rfl) rfl ?_
      unfold VicP14
      rw [HBO2.out]
      exact ⟨rfl, bel_upd HB.out hg6 (Nat.le_refl _) (by omega)⟩
end Go.Proofs.Ytnkoiageoenfeaa

namespace Go.Proofs.Ytnkoiageoenfeaa
set_option maxRecDepth 100000
set_option linter.unusedVariables false
open Go.RowKit

/-- What it answers. -/
def DropP14 (a : Option Addr) (n c : Nat) (l : List Et) (k : Ky) (w : World) (e : Ending) (w' : World) : Prop := Below w.heap.size w w' ∧
  ((has14 l k = false ∧ e = .returned (.tuple #[.slice a n c, .int .i64 8])) ∨ (has14 l k = true ∧ ∃ A c', e = .returned (.tuple #[.slice A (l.filter fun x => decide (x.k ≠ k)).length c', .int .i64 0]) ∧ AccEt w' w.heap.size A c' (l.filter fun x => decide (x.k ≠ k))))
set_option maxHeartbeats 6400000 in
theorem rdrop14_calls (a : Option Addr) (n c : Nat) (l : List Et) (k : Ky) (w : World) (hr : Row ent w w.heap.size a n l) (hn : n ≤ 1073741824) : Calls Try.prog 17 #[.slice a n c, .agg #[.int .i64 k.tail, .int .i64 k.tun, .int .i64 k.head, .int .i64 k.lsp]] w (DropP14 a n c l k w) := by
  have HR := Lib.hid hr
  have HN := Lib.hid (And.intro hr.1 hn)
  have hk := fun W hW => rhas14_calls a n c l k W (show Row ent W W.heap.size a n l from (hr.below hW).more hW.size) hn
  unfold Yes14 at hk
  obtain ⟨d, hd⟩ : ∃ d, has14 l k = d := ⟨_, rfl⟩
  simp only [hd] at hk
  have HK := Lib.hid hk
  have HD := Lib.hid hd
  clear hr hk hd
  go_enter Try.func17, Try.ntmps17
  go_upto_region 1 with fail
  have HB := Lib.hid (show Blk (w.alloc (.cells #[.int .i64 k.tail, .int .i64 k.tun, .int .i64 k.head, .int .i64 k.lsp] 23)) w.heap.size 23 (kyc k) from Blk.new w _ (kyc k))
  have HL := Lib.hid (bel_new (Below.refl w.heap.size w) (.cells #[.int .i64 k.tail, .int .i64 k.tun, .int .i64 k.head, .int .i64 k.lsp] 23))
  generalize w.alloc _ = w1 at *
  have k0 : w1.cell? ⟨w.heap.size, 0, none⟩ = some (.int .i64 k.tail) := HB.out.cell 0
  have k1 : w1.cell? ⟨w.heap.size, 1, none⟩ = some (.int .i64 k.tun) := HB.out.cell 1
  have k2 : w1.cell? ⟨w.heap.size, 2, none⟩ = some (.int .i64 k.head) := HB.out.cell 2
  have k3 : w1.cell? ⟨w.heap.size, 3, none⟩ = some (.int .i64 k.lsp) := HB.out.cell 3
  go_wp2_with fail
  ((with_reducible refine (HK.out w1 HL.out).mono ?_))
  rintro e w2 ⟨rfl, hb⟩
  have HB2 := Lib.hid (HB.out.below hb)
  have HL2 := Lib.hid (HL.out.trans (hb.mono HL.out.size))
  clear hb HB HL k0 k1 k2 k3
  cases d with
  | false =>
    go_wp2_with fail
    refine bodyPost_ret (v := .tuple #[.slice a n c, .int .i64 8]) (by simp [results, Try.results17, go_sem]) rfl ?_
    exact ⟨HL2.out, .inl ⟨HD.out, rfl⟩⟩
  | true =>
    go_wp2_with fail
    go_loopw [6, 7] (fun s t W => ∃ (i m c1 : Nat) (A : Option Addr) (G : List Et), G = (l.take i).filter (fun x => decide (x.k ≠ k)) ∧ G.length = m ∧ s = .slice A m c1 ∧ t = .int .i64 (i : Int) ∧ i ≤ n ∧ AccEt W w.heap.size A c1 G ∧ Blk W w.heap.size 23 (kyc k) ∧ Below w.heap.size w W) (fun s t W => n - (intOf t).toNat)
    case atStart => exact ⟨0, 0, 0, none, [], rfl, rfl, rfl, rfl, Nat.zero_le _, AccR.nil _ _ _, HB2.out, HL2.out⟩
    case round =>
      obtain ⟨i, m, c1, A, G, hG, hm, rfl, rfl, hin, ha, hkb, hb⟩ := hrel
      have HG := Lib.hid hG
      have hmn : m ≤ 1073741824 := by
        have h1 := List.length_filter_le (fun x : Et => decide (x.k ≠ k)) (l.take i)
        rw [← hG, hm, List.length_take] at h1
        omega
      have HM := Lib.hid (And.intro hm hmn)
      have HA := Lib.hid ha
      have HKB := Lib.hid hkb
      have HBL := Lib.hid hb
      clear ha hkb hb hG hm HB2 HL2
      by_cases hin2 : i < n
      · have i1 : (i : Int) < (n : Int) := by omega
        obtain ⟨b, o, x, rfl, hx, hb, hc⟩ := row_cells ent_length HR.out hin2
        have HX := Lib.hid hx
        have hce : ∀ W, Below wr.heap.size wr W → ∀ j v, (ent x)[j]? = some v → W.cell? ⟨b, o + i * 10 + j, none⟩ = some v := fun W hW => hc W (HBL.out.trans (hW.mono HBL.out.size))
        have hcs : ∀ W, Below wr.heap.size wr W → (W.cell? ⟨b, o + i * 10, none⟩ = some (.int .i64 x.k.tail) ∧ W.cell? ⟨b, o + i * 10 + 1, none⟩ = some (.int .i64 x.k.tun) ∧ W.cell? ⟨b, o + i * 10 + 2, none⟩ = some (.int .i64 x.k.head) ∧ W.cell? ⟨b, o + i * 10 + 3, none⟩ = some (.int .i64 x.k.lsp)) ∧ (W.cell? ⟨w.heap.size, 0, none⟩ = some (.int .i64 k.tail) ∧ W.cell? ⟨w.heap.size, 1, none⟩ = some (.int .i64 k.tun) ∧ W.cell? ⟨w.heap.size, 2, none⟩ = some (.int .i64 k.head) ∧ W.cell? ⟨w.heap.size, 3, none⟩ = some (.int .i64 k.lsp)) := by
          intro W hW
          have h3 := HKB.out.below hW
          exact ⟨⟨hce W hW 0 _ rfl, hce W hW 1 _ rfl, hce W hW 2 _ rfl, hce W hW 3 _ rfl⟩, h3.cell 0, h3.cell 1, h3.cell 2, h3.cell 3⟩
        have HCS := Lib.hid hcs
        have HCE := Lib.hid hce
        obtain ⟨q, hq⟩ : ∃ q, (!decide (x.k = k)) = q := ⟨_, rfl⟩
        have HEQ := Lib.hid (fun W => (eq_ky x.k k W).2)
        rw [hq] at HEQ
        have hft : (l.take (i + 1)).filter (fun x => decide (x.k ≠ k)) = G ++ (if q = true then [x] else []) := by
          rw [take_snoc14 hx, List.filter_append, ← HG.out, ← hq]
          by_cases hxk : x.k = k <;> simp [hxk]
        have HFT := Lib.hid hft
        have HI := Lib.hid (And.intro hin2 HN.out.1)
        clear hx hc hcs hce hb hq hft hin2 hin
        go_wp2_with fail
        refine region_seq (fun W => Below wr.heap.size wr W) [(0, true), (1, true), (2, true), (3, true), (4, true), (5, true), (6, true)] (by kernel_rfl) (by kernel_rfl) (by kernel_rfl) (by kernel_rfl) (fun _ _ _ _ _ h => h) (Below.refl _ _).drew ?_
        repeat first
          | refine seq_neA (xs := kyc x.k) (ys := kyc k) (c := q) rfl (by rfl) rfl rfl rfl (by kernel_rfl) HEQ.out ?_
            simp only [Act.put, List.setIfInBounds_toArray, List.set_cons_zero, List.set_cons_succ]
          | refine seq_pure (v := ?_) rfl (by rfl) (fun W hW => ?_) ?_
            rotate_left
            · obtain ⟨⟨c0, c1, c2, c3⟩, k0, k1, k2, k3⟩ := HCS.out W hW
              clear hW
              go_simp
              with_reducible rfl
            simp only [Act.put, List.setIfInBounds_toArray, List.set_cons_zero, List.set_cons_succ]
        refine seq_done ?_
        cases q with
        | false =>
          go_wp2_with fail
          go_roundw
          case rel => exact ⟨i + 1, m, c1, A, G, by rw [HFT.out]; simp, HM.out.1, rfl, by first | rfl | (simp; omega), by have := HI.out.1; omega, AccR.drew HA.out, HKB.out.drew, HBL.out.drew⟩
          case measure => have := HI.out.1; simp [intOf]; omega
        | true =>
          have y0 : wr.drew.cell? ⟨b, o + i * 10, none⟩ = some (.int .i64 x.k.tail) := HCE.out wr.drew (Below.refl _ _).drew 0 _ rfl
          have y1 : wr.drew.cell? ⟨b, o + i * 10 + 1, none⟩ = some (.int .i64 x.k.tun) := HCE.out wr.drew (Below.refl _ _).drew 1 _ rfl
          have y2 : wr.drew.cell? ⟨b, o + i * 10 + 2, none⟩ = some (.int .i64 x.k.head) := HCE.out wr.drew (Below.refl _ _).drew 2 _ rfl
          have y3 : wr.drew.cell? ⟨b, o + i * 10 + 3, none⟩ = some (.int .i64 x.k.lsp) := HCE.out wr.drew (Below.refl _ _).drew 3 _ rfl
          have y4 : wr.drew.cell? ⟨b, o + i * 10 + 4, none⟩ = some (.int .u64 (x.w.bw : Int)) := HCE.out wr.drew (Below.refl _ _).drew 4 _ rfl
          have y5 : wr.drew.cell? ⟨b, o + i * 10 + 5, none⟩ = some (.int .i64 x.w.su) := HCE.out wr.drew (Below.refl _ _).drew 5 _ rfl
          have y6 : wr.drew.cell? ⟨b, o + i * 10 + 6, none⟩ = some (.int .i64 x.w.ho) := HCE.out wr.drew (Below.refl _ _).drew 6 _ rfl
          have y7 : wr.drew.cell? ⟨b, o + i * 10 + 7, none⟩ = some (.int .u32 (x.w.an : Int)) := HCE.out wr.drew (Below.refl _ _).drew 7 _ rfl
          have y8 : wr.drew.cell? ⟨b, o + i * 10 + 8, none⟩ = some (.int .u32 (x.w.al : Int)) := HCE.out wr.drew (Below.refl _ _).drew 8 _ rfl
          have y9 : wr.drew.cell? ⟨b, o + i * 10 + 9, none⟩ = some (.int .u32 (x.w.no : Int)) := HCE.out wr.drew (Below.refl _ _).drew 9 _ rfl
          have ha7 : AccEt wr.drew w.heap.size A c1 G := AccR.drew HA.out
          obtain ⟨A8, c8, w8, r8, a8, g8⟩ := accet_push ha7 x (show w.heap.size ≤ wr.drew.heap.size from HBL.out.size) (by have := HM.out; omega)
          rw [HM.out.1] at r8
          have B8 := Lib.hid (show Below w.heap.size w w8 from belr_acc HBL.out.drew ha7 g8)
          have A8' := Lib.hid a8
          have K8 := Lib.hid (show Blk w8 w.heap.size 23 (kyc k) from HKB.out.drew.same (g8.block _ HKB.out.drew.lt (fun e => accr_ne14 ha7 HKB.out.drew (by decide) w.heap.size e.symm rfl)))
          have R8 := Lib.hid r8
          clear r8 a8 g8 ha7
          go_wp2_with (at_builtin; refine step_append rfl rfl rfl rfl R8.out ?_)
          go_roundw
          case rel => exact ⟨i + 1, m + 1, c8, A8, G ++ [x], by rw [HFT.out]; simp, by rw [List.length_append, HM.out.1]; rfl, rfl, by first | rfl | (simp; omega), by have := HI.out.1; omega, A8'.out, K8.out, B8.out⟩
          case measure => have := HI.out.1; simp [intOf]; omega
      · obtain rfl : i = n := by omega
        have i1 : ¬ (i : Int) < (i : Int) := by omega
        have htk : l.take i = l := List.take_of_length_le (by rw [HN.out.1]; exact Nat.le_refl _)
        have hg := HG.out
        rw [htk] at hg
        have HG2 := Lib.hid hg
        clear hg htk hin hin2
        go_wp2_with fail
        refine bodyPost_ret (v := .tuple #[.slice A m c1, .int .i64 0]) (by simp [results, Try.results17, go_sem]) rfl ?_
        exact ⟨HBL.out, .inr ⟨HD.out, A, c1, by rw [← HG2.out, HM.out.1], by rw [← HG2.out]; exact HA.out⟩⟩
end Go.Proofs.Ytnkoiageoenfeaa

namespace Go.Proofs.Ytnkoiageoenfeaa
set_option maxRecDepth 100000
set_option linter.unusedVariables false
open Go.RowKit

theorem infoKy14 : (Try.prog.info? 23).map (fun i => (i.zero, i.size, i.bytes)) = some (some (.agg #[.int .i64 0, .int .i64 0, .int .i64 0, .int .i64 0]), 4, 32) := by kernel_rfl
/-- Keys that a call gathers. -/
def AccKy (w : World) (base : Nat) (A : Option Addr) (c : Nat) (l : List Ky) : Prop := AccR kyc 4 w base 23 A c l
theorem accky_push {w : World} {base c : Nat} {A : Option Addr} {l : List Ky} (h : AccKy w base A c l) (k : Ky) (hb : base ≤ w.heap.size) (hl : l.length ≤ 1099511627776) :
    ∃ A' c' w', (Builtin.append_ #[40, 40] 40 #[.slice A l.length c, .slice (some ⟨w.heap.size, 0, none⟩) 1 1]).run Try.prog (w.alloc (.cells #[.int .i64 k.tail, .int .i64 k.tun, .int .i64 k.head, .int .i64 k.lsp] 23)) = .ok (.slice A' (l.length + 1) c') w' ∧
      AccKy w' base A' c' (l ++ [k]) ∧ w.grownBy w' (blk A) :=
  accr_push kyc_length kyc_one (by omega) h k Try.underlying40 infoKy14 rfl hb (by omega) (by omega)
/-- A slice's length. -/
def sLen : Value → Nat
  | .slice _ m _ => m
  | _ => 0
/-- What it answers. -/
def AdmP14 (a : Option Addr) (n c : Nat) (r : List Et × List Ky × Int) (w : World) (e : Ending) (w' : World) : Prop := Below w.heap.size w w' ∧
  ((r.2.2 ≠ 0 ∧ e = .returned (.tuple #[.slice a n c, .slice none 0 0, .int .i64 r.2.2])) ∨
   (r.2.2 = 0 ∧ ∃ A c' B d', e = .returned (.tuple #[.slice A r.1.length c', .slice B r.2.1.length d', .int .i64 0]) ∧ AccEt w' w.heap.size A c' r.1 ∧ AccKy w' w.heap.size B d' r.2.1))
/-- An entry's numbers are of 64 bits and of 32. -/
def EtOk (x : Et) : Prop := wRight x.w = true ∧ x.w.bw < 18446744073709551616
set_option maxHeartbeats 6400000 in
theorem radmit14_calls (size : Nat) (hs : size < 18446744073709551616) (a : Option Addr) (n c : Nat) (l : List Et) (x : Et) (hsr : Srt14 l) (hok : ∀ y ∈ l, EtOk y) (hxb : x.w.bw < 18446744073709551616) (w : World) (hr : Row ent w w.heap.size a n l) (hn : n ≤ 1073741824) :
    Calls Try.prog 20 #[.int .u64 (size : Int), .slice a n c, .agg #[.int .i64 x.k.tail, .int .i64 x.k.tun, .int .i64 x.k.head, .int .i64 x.k.lsp], .agg #[.int .u64 (x.w.bw : Int), .int .i64 x.w.su, .int .i64 x.w.ho, .int .u32 (x.w.an : Int), .int .u32 (x.w.al : Int), .int .u32 (x.w.no : Int)]] w (AdmP14 a n c (aAdmit size l x.k x.w) w) := by
  have HR := Lib.hid hr
  have HN := Lib.hid (And.intro hr.1 hn)
  have HSR := Lib.hid hsr
  have HOK := Lib.hid hok
  have HXB := Lib.hid hxb
  have HS := Lib.hid hs
  have hrc := fun W => rright12_calls x.w W
  unfold Yes12 at hrc
  have hhc := fun W hW => rhas14_calls a n c l x.k W (show Row ent W W.heap.size a n l from (hr.below hW).more hW.size) hn
  unfold Yes14 at hhc
  obtain ⟨rt, hrt⟩ : ∃ rt, wRight x.w = rt := ⟨_, rfl⟩
  obtain ⟨hd, hhd⟩ : ∃ hd, has14 l x.k = hd := ⟨_, rfl⟩
  simp only [hrt] at hrc
  simp only [hhd] at hhc
  have HRC := Lib.hid hrc
  have HHC := Lib.hid hhc
  have HRT := Lib.hid hrt
  have HHD := Lib.hid hhd
  obtain ⟨R, hR⟩ : ∃ R, aAdmit size l x.k x.w = R := ⟨_, rfl⟩
  rw [hR]
  have HRR := Lib.hid hR
  clear hr hsr hok hxb hs hrc hhc hrt hhd hR
  go_enter Try.func20, Try.ntmps20
  go_upto_region 1 with fail
  obtain ⟨b0, b1, bl⟩ := alloc2 w [.int .i64 x.k.tail, .int .i64 x.k.tun, .int .i64 x.k.head, .int .i64 x.k.lsp] [.int .u64 (x.w.bw : Int), .int .i64 x.w.su, .int .i64 x.w.ho, .int .u32 (x.w.an : Int), .int .u32 (x.w.al : Int), .int .u32 (x.w.no : Int)] 23 33
  have HK1 := Lib.hid (show Blk _ _ _ (kyc x.k) from b0)
  have HW1 := Lib.hid (show Blk _ _ _ (wnc x.w) from b1)
  have HL1 := Lib.hid bl
  clear b0 b1 bl
  generalize ((w.alloc (.cells #[.int .i64 x.k.tail, .int .i64 x.k.tun, .int .i64 x.k.head, .int .i64 x.k.lsp] 23)).alloc (.cells #[.int .u64 (x.w.bw : Int), .int .i64 x.w.su, .int .i64 x.w.ho, .int .u32 (x.w.an : Int), .int .u32 (x.w.al : Int), .int .u32 (x.w.no : Int)] 33)) = w1 at *
  have k0 : w1.cell? ⟨w.heap.size, 0, none⟩ = some (.int .i64 x.k.tail) := HK1.out.cell 0
  have k1 : w1.cell? ⟨w.heap.size, 1, none⟩ = some (.int .i64 x.k.tun) := HK1.out.cell 1
  have k2 : w1.cell? ⟨w.heap.size, 2, none⟩ = some (.int .i64 x.k.head) := HK1.out.cell 2
  have k3 : w1.cell? ⟨w.heap.size, 3, none⟩ = some (.int .i64 x.k.lsp) := HK1.out.cell 3
  have v0 : w1.cell? ⟨w.heap.size + 1, 0, none⟩ = some (.int .u64 (x.w.bw : Int)) := HW1.out.cell 0
  have v1 : w1.cell? ⟨w.heap.size + 1, 1, none⟩ = some (.int .i64 x.w.su) := HW1.out.cell 1
  have v2 : w1.cell? ⟨w.heap.size + 1, 2, none⟩ = some (.int .i64 x.w.ho) := HW1.out.cell 2
  have v3 : w1.cell? ⟨w.heap.size + 1, 3, none⟩ = some (.int .u32 (x.w.an : Int)) := HW1.out.cell 3
  have v4 : w1.cell? ⟨w.heap.size + 1, 4, none⟩ = some (.int .u32 (x.w.al : Int)) := HW1.out.cell 4
  have v5 : w1.cell? ⟨w.heap.size + 1, 5, none⟩ = some (.int .u32 (x.w.no : Int)) := HW1.out.cell 5
  go_wp2_with fail
  ((with_reducible refine (HRC.out w1).mono ?_))
  rintro e w2 ⟨rfl, hb⟩
  have HK2 := Lib.hid (HK1.out.below hb)
  have HW2 := Lib.hid (HW1.out.below hb)
  have HL2 := Lib.hid (HL1.out.trans (hb.mono HL1.out.size))
  clear hb HK1 HW1 HL1
  clear k0 k1 k2 k3 v0 v1 v2 v3 v4 v5
  cases rt with
  | false =>
    go_wp2_with fail
    refine bodyPost_ret (v := .tuple #[.slice a n c, .slice none 0 0, .int .i64 2]) (by simp [results, Try.results20, go_sem]) rfl ?_
    have h9 : R = (l, [], 2) := by rw [← HRR.out]; unfold aAdmit; rw [if_pos HRT.out]
    rw [h9]
    exact ⟨HL2.out, .inl ⟨by simp, rfl⟩⟩
  | true =>
    have k0 : w2.cell? ⟨w.heap.size, 0, none⟩ = some (.int .i64 x.k.tail) := HK2.out.cell 0
    have k1 : w2.cell? ⟨w.heap.size, 1, none⟩ = some (.int .i64 x.k.tun) := HK2.out.cell 1
    have k2 : w2.cell? ⟨w.heap.size, 2, none⟩ = some (.int .i64 x.k.head) := HK2.out.cell 2
    have k3 : w2.cell? ⟨w.heap.size, 3, none⟩ = some (.int .i64 x.k.lsp) := HK2.out.cell 3
    have v0 : w2.cell? ⟨w.heap.size + 1, 0, none⟩ = some (.int .u64 (x.w.bw : Int)) := HW2.out.cell 0
    have v1 : w2.cell? ⟨w.heap.size + 1, 1, none⟩ = some (.int .i64 x.w.su) := HW2.out.cell 1
    have v2 : w2.cell? ⟨w.heap.size + 1, 2, none⟩ = some (.int .i64 x.w.ho) := HW2.out.cell 2
    have v3 : w2.cell? ⟨w.heap.size + 1, 3, none⟩ = some (.int .u32 (x.w.an : Int)) := HW2.out.cell 3
    have v4 : w2.cell? ⟨w.heap.size + 1, 4, none⟩ = some (.int .u32 (x.w.al : Int)) := HW2.out.cell 4
    have v5 : w2.cell? ⟨w.heap.size + 1, 5, none⟩ = some (.int .u32 (x.w.no : Int)) := HW2.out.cell 5
    go_wp2_with fail
    ((with_reducible refine (HHC.out w2 HL2.out).mono ?_))
    rintro e w3 ⟨rfl, hb⟩
    have HK3 := Lib.hid (HK2.out.below hb)
    have HW3 := Lib.hid (HW2.out.below hb)
    have HL3 := Lib.hid (HL2.out.trans (hb.mono HL2.out.size))
    clear hb HK2 HW2 HL2
    clear k0 k1 k2 k3 v0 v1 v2 v3 v4 v5
    cases hd with
    | true =>
      go_wp2_with fail
      refine bodyPost_ret (v := .tuple #[.slice a n c, .slice none 0 0, .int .i64 9]) (by simp [results, Try.results20, go_sem]) rfl ?_
      have h9 : R = (l, [], 9) := by rw [← HRR.out]; unfold aAdmit; rw [if_neg (by rw [HRT.out]; simp), if_pos HHD.out]
      rw [h9]
      exact ⟨HL3.out, .inl ⟨by simp, rfl⟩⟩
    | false =>
      by_cases h64 : 64 ≤ n
      · have g64 : (64 : Int) ≤ (n : Int) := by omega
        have H64 := Lib.hid h64
        clear h64
        go_wp2_with fail
        refine bodyPost_ret (v := .tuple #[.slice a n c, .slice none 0 0, .int .i64 7]) (by simp [results, Try.results20, go_sem]) rfl ?_
        have h9 : R = (l, [], 7) := by rw [← HRR.out]; unfold aAdmit; rw [if_neg (by rw [HRT.out]; simp), if_neg (by rw [HHD.out]; simp), if_pos (by rw [HN.out.1]; exact H64.out)]
        rw [h9]
        exact ⟨HL3.out, .inl ⟨by simp, rfl⟩⟩
      · have g64 : ¬ (64 : Int) ≤ (n : Int) := by omega
        have H64 := Lib.hid h64
        clear h64
        have HZ := Lib.hid (fun W : World => (show Blk (W.alloc (.cells #[.int .i64 0, .int .i64 0, .int .i64 0, .int .i64 0, .int .u64 0, .int .i64 0] 85)) W.heap.size 85 [.int .i64 0, .int .i64 0, .int .i64 0, .int .i64 0, .int .u64 0, .int .i64 0] from Blk.new W _ _))
        have HFI := Lib.hid (fun f : Fam => (show (Try.prog.info? 85).map (·.size) = some (fmc f).length from sizeFam14))
        have HFN := Lib.hid (fun f : Fam => (show ([.int .i64 0, .int .i64 0, .int .i64 0, .int .i64 0, .int .u64 0, .int .i64 0] : List Value).length = (fmc f).length from rfl))
        have HFO := Lib.hid fmc_one
        have HX9 := Lib.hid (show R = (match aLoop n size l x with | none => (l, [], 14) | some now => (wIns now x, gone14 l now, 0)) by
          rw [← HRR.out]
          unfold aAdmit
          rw [if_neg (by rw [HRT.out]; simp), if_neg (by rw [HHD.out]; simp), if_neg (by rw [HN.out.1]; exact H64.out), HN.out.1]
          rfl)
        go_wp2_with fail
        go_loopw [11] (fun t W => ∃ (m cA : Nat) (A : Option Addr) (now : List Et) (f : Nat), t = .slice A m cA ∧ Row ent W W.heap.size A m now ∧ now.Sublist l ∧ m ≤ f ∧ aLoop f size now x = aLoop n size l x ∧ Blk W w.heap.size 23 (kyc x.k) ∧ Blk W (w.heap.size + 1) 33 (wnc x.w) ∧ Below w.heap.size w W) (fun t W => sLen t)
        case atStart => exact ⟨n, c, a, l, n, rfl, (HR.out.below HL3.out).more HL3.out.size, List.Sublist.refl _, Nat.le_refl _, rfl, HK3.out, HW3.out, HL3.out⟩
        case round =>
          obtain ⟨m, cA, A, now, f, rfl, hrow, hsub, hmf, hal, hkb, hwb, hb⟩ := hrel
          have HRW := Lib.hid hrow
          have HSB := Lib.hid hsub
          have HMF := Lib.hid hmf
          have HAL := Lib.hid hal
          have HKB := Lib.hid hkb
          have HWB := Lib.hid hwb
          have HBL := Lib.hid hb
          have hmn : m ≤ 63 := by
            have h1 := hsub.length_le
            rw [hrow.1, HN.out.1] at h1
            have h2 := H64.out
            omega
          have HMN := Lib.hid hmn
          have hno := has_sub hsub HHD.out
          have hsn : Srt14 now := List.Pairwise.sublist hsub HSR.out
          have hwc := rwith14_calls A m cA now x wr hrow (by omega)
          have hfc := fun A2 c2 W (hW : Row ent W W.heap.size A2 (m + 1) (wIns now x)) => rfits14_calls size HS.out A2 (m + 1) c2 (wIns now x) (srt_wIns hsn hno) (fun y hy => by
            rcases mem_wIns.1 hy with hy | rfl
            · exact (HOK.out y (hsub.subset hy)).1
            · exact HRT.out) (fun y hy => by
            rcases mem_wIns.1 hy with hy | rfl
            · exact (HOK.out y (hsub.subset hy)).2
            · exact HXB.out) W hW (by omega)
          have hvc := fun W hW => rvictim14_calls A m cA now x.k x.w.su W (show Row ent W W.heap.size A m now from (hrow.below hW).more hW.size) (by omega)
          unfold WithPost at hwc
          unfold Yes14 at hfc
          unfold VicP14 at hvc
          obtain ⟨d, hd⟩ : ∃ d, fit14 size (wIns now x) = d := ⟨_, rfl⟩
          obtain ⟨vo, hvo⟩ : ∃ vo, vict now x.k x.w.su = vo := ⟨_, rfl⟩
          have hml : now.length = m := hrow.1
          rw [hml] at hwc
          simp only [hd] at hfc
          simp only [hvo] at hvc
          have HWC := Lib.hid hwc
          have HFC := Lib.hid hfc
          have HVC := Lib.hid hvc
          have HD := Lib.hid hd
          have HVO := Lib.hid hvo
          have HSN := Lib.hid (And.intro hsn (And.intro hno hml))
          clear hrow hsub hmf hal hkb hwb hb hmn hno hsn hwc hfc hvc hd hvo hml
          have k0 : wr.cell? ⟨w.heap.size, 0, none⟩ = some (.int .i64 x.k.tail) := HKB.out.cell 0
          have k1 : wr.cell? ⟨w.heap.size, 1, none⟩ = some (.int .i64 x.k.tun) := HKB.out.cell 1
          have k2 : wr.cell? ⟨w.heap.size, 2, none⟩ = some (.int .i64 x.k.head) := HKB.out.cell 2
          have k3 : wr.cell? ⟨w.heap.size, 3, none⟩ = some (.int .i64 x.k.lsp) := HKB.out.cell 3
          have v0 : wr.cell? ⟨w.heap.size + 1, 0, none⟩ = some (.int .u64 (x.w.bw : Int)) := HWB.out.cell 0
          have v1 : wr.cell? ⟨w.heap.size + 1, 1, none⟩ = some (.int .i64 x.w.su) := HWB.out.cell 1
          have v2 : wr.cell? ⟨w.heap.size + 1, 2, none⟩ = some (.int .i64 x.w.ho) := HWB.out.cell 2
          have v3 : wr.cell? ⟨w.heap.size + 1, 3, none⟩ = some (.int .u32 (x.w.an : Int)) := HWB.out.cell 3
          have v4 : wr.cell? ⟨w.heap.size + 1, 4, none⟩ = some (.int .u32 (x.w.al : Int)) := HWB.out.cell 4
          have v5 : wr.cell? ⟨w.heap.size + 1, 5, none⟩ = some (.int .u32 (x.w.no : Int)) := HWB.out.cell 5
          go_wp2_with fail
          ((with_reducible refine HWC.out.mono ?_))
          rintro e w4 ⟨A2, c2, rfl, hacc, hb⟩
          have HFC4 := Lib.hid (HFC.out A2 c2 w4 (by
            have := AccR.row hacc
            rwa [wIns_length, HSN.out.2.2] at this))
          have HK4 := Lib.hid (HKB.out.below hb)
          have HW4 := Lib.hid (HWB.out.below hb)
          have HB4 := Lib.hid hb
          clear hb hacc k0 k1 k2 k3 v0 v1 v2 v3 v4 v5
          go_wp2_with fail
          ((with_reducible refine HFC4.out.mono ?_))
          rintro e w5 ⟨rfl, hb⟩
          have HK5 := Lib.hid (HK4.out.below hb)
          have HW5 := Lib.hid (HW4.out.below hb)
          have HB5 := Lib.hid (show Below wr.heap.size wr w5 from HB4.out.trans (hb.mono HB4.out.size))
          clear hb HK4 HW4 HB4
          cases d with
          | true =>
            have hall : aLoop f size now x = some now := by
              cases f with
              | zero => unfold aLoop; rw [if_pos HD.out]
              | succ q => unfold aLoop; rw [if_pos HD.out]
            have HX8 := Lib.hid (show R = (wIns now x, gone14 l now, 0) by
              have h8 := HX9.out
              rw [← HAL.out, hall] at h8
              exact h8)
            clear hall
            have HRW5 := Lib.hid (show Row ent w5 w5.heap.size A m now from (HRW.out.below HB5.out).more HB5.out.size)
            have HL5 := Lib.hid (HBL.out.trans (HB5.out.mono HBL.out.size))
            go_wp2_with fail
            go_loopw [16, 17] (fun s t W => ∃ (i mg cg : Nat) (B : Option Addr) (K : List Ky), K = gone14 (l.take i) now ∧ K.length = mg ∧ s = .slice B mg cg ∧ t = .int .i64 (i : Int) ∧ i ≤ n ∧ AccKy W w5.heap.size B cg K ∧ Below w5.heap.size w5 W) (fun s t W => n - (intOf t).toNat)
            case atStart => exact ⟨0, 0, 0, none, [], rfl, rfl, rfl, rfl, Nat.zero_le _, AccR.nil _ _ _, Below.refl _ _⟩
            case round =>
              obtain ⟨i, mg, cg, B, K, hK, hmg, rfl, rfl, hin, ha, hb⟩ := hrel
              have HKK := Lib.hid hK
              have hmgn : mg ≤ 1073741824 := by
                have h1 := List.length_filter_le (fun y : Et => !has14 now y.k) (l.take i)
                have h2 : K.length = ((l.take i).filter (fun y : Et => !has14 now y.k)).length := by rw [hK]; unfold gone14; rw [List.length_map]
                rw [← h2, hmg, List.length_take] at h1
                omega
              have HMG := Lib.hid (And.intro hmg hmgn)
              have HAK := Lib.hid ha
              have HBK := Lib.hid hb
              clear hK hmg hmgn ha hb
              by_cases hin2 : i < n
              · have i1 : (i : Int) < (n : Int) := by omega
                obtain ⟨b, o, y, rfl, hy, hbb, hc⟩ := row_cells ent_length HR.out hin2
                have HY := Lib.hid hy
                have HCE := Lib.hid (show ∀ W, Below wr.heap.size wr W → ∀ j v, (ent y)[j]? = some v → W.cell? ⟨b, o + i * 10 + j, none⟩ = some v from fun W hW => hc W (HL5.out.trans ((HBK.out.trans (hW.mono HBK.out.size)).mono HL5.out.size)))
                have hhc2 := rhas14_calls A m cA now y.k wr ((HRW5.out.below HBK.out).more HBK.out.size) (by have := HMN.out; omega)
                unfold Yes14 at hhc2
                obtain ⟨hq, hhq⟩ : ∃ hq, has14 now y.k = hq := ⟨_, rfl⟩
                simp only [hhq] at hhc2
                have HHC2 := Lib.hid hhc2
                have hgn : gone14 (l.take (i + 1)) now = K ++ (if hq = true then [] else [y.k]) := by
                  rw [HKK.out, take_snoc14 hy]
                  unfold gone14
                  rw [List.filter_append, List.map_append]
                  cases hq with
                  | true => simp [hhq]
                  | false => simp [hhq]
                have HGN := Lib.hid hgn
                have HI := Lib.hid hin2
                clear hy hbb hc hhc2 hhq hgn hin2 hin
                have y0 : wr.cell? ⟨b, o + i * 10, none⟩ = some (.int .i64 y.k.tail) := HCE.out wr (Below.refl _ _) 0 _ rfl
                have y1 : wr.cell? ⟨b, o + i * 10 + 1, none⟩ = some (.int .i64 y.k.tun) := HCE.out wr (Below.refl _ _) 1 _ rfl
                have y2 : wr.cell? ⟨b, o + i * 10 + 2, none⟩ = some (.int .i64 y.k.head) := HCE.out wr (Below.refl _ _) 2 _ rfl
                have y3 : wr.cell? ⟨b, o + i * 10 + 3, none⟩ = some (.int .i64 y.k.lsp) := HCE.out wr (Below.refl _ _) 3 _ rfl
                go_wp2_with fail
                ((with_reducible refine HHC2.out.mono ?_))
                rintro e w8 ⟨rfl, hb8⟩
                have HB8 := Lib.hid (show Below w5.heap.size w5 w8 from HBK.out.trans (hb8.mono HBK.out.size))
                have HA8 := Lib.hid (AccR.bel HAK.out hb8)
                have HC8 := Lib.hid hb8
                clear hb8 y0 y1 y2 y3
                cases hq with
                | true =>
                  go_wp2_with fail
                  go_roundw
                  case rel => exact ⟨i + 1, mg, cg, B, K, by rw [HGN.out]; simp, HMG.out.1, rfl, by first | rfl | (simp; omega), by have := HI.out; omega, HA8.out, HB8.out⟩
                  case measure => have := HI.out; simp [intOf]; omega
                | false =>
                  have y0 : w8.cell? ⟨b, o + i * 10, none⟩ = some (.int .i64 y.k.tail) := HCE.out w8 HC8.out 0 _ rfl
                  have y1 : w8.cell? ⟨b, o + i * 10 + 1, none⟩ = some (.int .i64 y.k.tun) := HCE.out w8 HC8.out 1 _ rfl
                  have y2 : w8.cell? ⟨b, o + i * 10 + 2, none⟩ = some (.int .i64 y.k.head) := HCE.out w8 HC8.out 2 _ rfl
                  have y3 : w8.cell? ⟨b, o + i * 10 + 3, none⟩ = some (.int .i64 y.k.lsp) := HCE.out w8 HC8.out 3 _ rfl
                  obtain ⟨A9, c9, w9, r9, a9, g9⟩ := accky_push HA8.out y.k HB8.out.size (by have := HMG.out; omega)
                  rw [HMG.out.1] at r9
                  have B9 := Lib.hid (show Below w5.heap.size w5 w9 from belr_acc HB8.out HA8.out g9)
                  have A9' := Lib.hid a9
                  have R9 := Lib.hid r9
                  clear r9 a9 g9
                  go_wp2_with (at_builtin; refine step_append rfl rfl rfl rfl R9.out ?_)
                  go_roundw
                  case rel => exact ⟨i + 1, mg + 1, c9, A9, K ++ [y.k], by rw [HGN.out]; simp, by rw [List.length_append, HMG.out.1]; rfl, rfl, by first | rfl | (simp; omega), by have := HI.out; omega, A9'.out, B9.out⟩
                  case measure => have := HI.out; simp [intOf]; omega
              · obtain rfl : i = n := by omega
                have i1 : ¬ (i : Int) < (i : Int) := by omega
                have htk : l.take i = l := List.take_of_length_le (by rw [HN.out.1]; exact Nat.le_refl _)
                have hk := HKK.out
                rw [htk] at hk
                have HKK2 := Lib.hid hk
                have hwc2 := rwith14_calls A m cA now x wr ((HRW5.out.below HBK.out).more HBK.out.size) (by have := HMN.out; omega)
                unfold WithPost at hwc2
                rw [HSN.out.2.2] at hwc2
                have HWC2 := Lib.hid hwc2
                clear hk htk hin hin2 hwc2
                have k0 : wr.cell? ⟨w.heap.size, 0, none⟩ = some (.int .i64 x.k.tail) := (HK5.out.below HBK.out).cell 0
                have k1 : wr.cell? ⟨w.heap.size, 1, none⟩ = some (.int .i64 x.k.tun) := (HK5.out.below HBK.out).cell 1
                have k2 : wr.cell? ⟨w.heap.size, 2, none⟩ = some (.int .i64 x.k.head) := (HK5.out.below HBK.out).cell 2
                have k3 : wr.cell? ⟨w.heap.size, 3, none⟩ = some (.int .i64 x.k.lsp) := (HK5.out.below HBK.out).cell 3
                have v0 : wr.cell? ⟨w.heap.size + 1, 0, none⟩ = some (.int .u64 (x.w.bw : Int)) := (HW5.out.below HBK.out).cell 0
                have v1 : wr.cell? ⟨w.heap.size + 1, 1, none⟩ = some (.int .i64 x.w.su) := (HW5.out.below HBK.out).cell 1
                have v2 : wr.cell? ⟨w.heap.size + 1, 2, none⟩ = some (.int .i64 x.w.ho) := (HW5.out.below HBK.out).cell 2
                have v3 : wr.cell? ⟨w.heap.size + 1, 3, none⟩ = some (.int .u32 (x.w.an : Int)) := (HW5.out.below HBK.out).cell 3
                have v4 : wr.cell? ⟨w.heap.size + 1, 4, none⟩ = some (.int .u32 (x.w.al : Int)) := (HW5.out.below HBK.out).cell 4
                have v5 : wr.cell? ⟨w.heap.size + 1, 5, none⟩ = some (.int .u32 (x.w.no : Int)) := (HW5.out.below HBK.out).cell 5
                go_wp2_with fail
                ((with_reducible refine HWC2.out.mono ?_))
                rintro e w9 ⟨A9, c9, rfl, hacc9, hb9⟩
                have HA9 := Lib.hid hacc9
                have HB9 := Lib.hid hb9
                clear hacc9 hb9 k0 k1 k2 k3 v0 v1 v2 v3 v4 v5
                go_wp2_with fail
                refine bodyPost_ret (v := .tuple #[.slice A9 (m + 1) c9, .slice B mg cg, .int .i64 0]) (by simp [results, Try.results20, go_sem]) rfl ?_
                rw [HX8.out]
                refine ⟨HL5.out.trans ((HBK.out.trans (HB9.out.mono HBK.out.size)).mono HL5.out.size), .inr ⟨rfl, A9, c9, B, cg, ?_, AccR.lower HA9.out (Nat.le_trans HL5.out.size HBK.out.size), ?_⟩⟩
                · simp only [wIns_length, HSN.out.2.2, ← HKK2.out, HMG.out.1]
                · rw [← HKK2.out]
                  exact AccR.lower (AccR.bel HAK.out HB9.out) HL5.out.size
          | false =>
            have k0 : w5.cell? ⟨w.heap.size, 0, none⟩ = some (.int .i64 x.k.tail) := HK5.out.cell 0
            have k1 : w5.cell? ⟨w.heap.size, 1, none⟩ = some (.int .i64 x.k.tun) := HK5.out.cell 1
            have k2 : w5.cell? ⟨w.heap.size, 2, none⟩ = some (.int .i64 x.k.head) := HK5.out.cell 2
            have k3 : w5.cell? ⟨w.heap.size, 3, none⟩ = some (.int .i64 x.k.lsp) := HK5.out.cell 3
            have v0 : w5.cell? ⟨w.heap.size + 1, 0, none⟩ = some (.int .u64 (x.w.bw : Int)) := HW5.out.cell 0
            have v1 : w5.cell? ⟨w.heap.size + 1, 1, none⟩ = some (.int .i64 x.w.su) := HW5.out.cell 1
            have v2 : w5.cell? ⟨w.heap.size + 1, 2, none⟩ = some (.int .i64 x.w.ho) := HW5.out.cell 2
            have v3 : w5.cell? ⟨w.heap.size + 1, 3, none⟩ = some (.int .u32 (x.w.an : Int)) := HW5.out.cell 3
            have v4 : w5.cell? ⟨w.heap.size + 1, 4, none⟩ = some (.int .u32 (x.w.al : Int)) := HW5.out.cell 4
            have v5 : w5.cell? ⟨w.heap.size + 1, 5, none⟩ = some (.int .u32 (x.w.no : Int)) := HW5.out.cell 5
            go_wp2_with fail
            ((with_reducible refine (HVC.out w5 HB5.out).mono ?_))
            rintro e w6 ⟨rfl, hb⟩
            have HK6 := Lib.hid (HK5.out.below hb)
            have HW6 := Lib.hid (HW5.out.below hb)
            have HB6 := Lib.hid (show Below wr.heap.size wr w6 from HB5.out.trans (hb.mono HB5.out.size))
            clear hb HK5 HW5 HB5 k0 k1 k2 k3 v0 v1 v2 v3 v4 v5
            go_upto_region 10 with ((with_reducible refine step_store (o := ⟨none, _, _, _, _, _⟩) (vs := fmc (vo.getD zf14)) (ty := 85) (x := .tmp 12) (y := .tmp 48) ?_ ?_ ?_ ?_ (HZ.out _) (HFI.out _) (HFN.out _) (HFO.out _) ?_); (rfl); (rfl); (rfl); (rfl); intro w7 hb7 hg7 hs7)
            have HQ7 := Lib.hid hb7
            have hq7 : Below w6.heap.size w6 w7 := bel_upd (bel_new (Below.refl _ _) _) hg7 (Nat.le_refl _) (Nat.le_refl _)
            have HK7 := Lib.hid (HK6.out.below hq7)
            have HW7 := Lib.hid (HW6.out.below hq7)
            have HB7 := Lib.hid (show Below wr.heap.size wr w7 from HB6.out.trans (hq7.mono HB6.out.size))
            clear hb7 hg7 hs7 hq7 HK6 HW6 HB6
            generalize w6.heap.size = q at *
            cases vo with
            | none =>
              have hall : aLoop f size now x = none := by
                cases f with
                | zero => unfold aLoop; rw [if_neg (by rw [HD.out]; simp)]
                | succ q => unfold aLoop; rw [if_neg (by rw [HD.out]; simp), HVO.out]
              have HX8 := Lib.hid (show R = (l, [], 14) by
                have h8 := HX9.out
                rw [← HAL.out, hall] at h8
                exact h8)
              clear hall
              go_wp2_with fail
              refine bodyPost_ret (v := .tuple #[.slice a n c, .slice none 0 0, .int .i64 14]) (by simp [results, Try.results20, go_sem]) rfl ?_
              rw [HX8.out]
              exact ⟨HBL.out.trans (HB7.out.mono HBL.out.size), .inl ⟨by simp, rfl⟩⟩
            | some fm =>
              have HQ7 := Lib.hid (show Blk w7 q 85 (fmc fm) from HQ7.out)
              simp only [Option.isSome_some, Option.getD_some]
              have HRW7 := Lib.hid (show Row ent w7 w7.heap.size A m now from (HRW.out.below HB7.out).more HB7.out.size)
              have HL7 := Lib.hid (HBL.out.trans (HB7.out.mono HBL.out.size))
              clear HRW HB7 HKB HWB HWC HFC HFC4 HVC HBL
              generalize wr = wo at *
              have hm63 : m ≤ 63 := HMN.out
              go_wp2_with fail
              go_loopw [14, 15] (fun s t W => ∃ (i mg cg : Nat) (B : Option Addr) (G : List Et), G = keeps fm (now.take i) ∧ G.length = mg ∧ s = .slice B mg cg ∧ t = .int .i64 (i : Int) ∧ i ≤ m ∧ AccEt W w7.heap.size B cg G ∧ Below w7.heap.size w7 W) (fun s t W => m - (intOf t).toNat)
              case atStart => exact ⟨0, 0, 0, none, [], rfl, rfl, rfl, rfl, Nat.zero_le _, AccR.nil _ _ _, Below.refl _ _⟩
              case round =>
                obtain ⟨i, mg, cg, B, G, hG, hmg, rfl, rfl, hin, ha, hb⟩ := hrel
                have HKK := Lib.hid hG
                have hmgn : mg ≤ 1073741824 := by
                  have h1 := List.length_filter_le (fun y : Et => !kKin y.k fm.k) (now.take i)
                  rw [hG] at hmg
                  unfold keeps at hmg
                  rw [hmg, List.length_take] at h1
                  have := HMN.out
                  omega
                have HMG := Lib.hid (And.intro hmg hmgn)
                have HAK := Lib.hid ha
                have HBK := Lib.hid hb
                clear hG hmg hmgn ha hb
                by_cases hin2 : i < m
                · have i1 : (i : Int) < (m : Int) := by omega
                  obtain ⟨b, o, y, rfl, hy, hbb, hc⟩ := row_cells ent_length HRW7.out hin2
                  have HY := Lib.hid hy
                  have HCE := Lib.hid (show ∀ W, Below wr.heap.size wr W → ∀ j v, (ent y)[j]? = some v → W.cell? ⟨b, o + i * 10 + j, none⟩ = some v from fun W hW => hc W (HBK.out.trans (hW.mono HBK.out.size)))
                  have HCK := Lib.hid (show ∀ W, Below wr.heap.size wr W → (W.cell? ⟨b, o + i * 10, none⟩ = some (.int .i64 y.k.tail) ∧ W.cell? ⟨b, o + i * 10 + 1, none⟩ = some (.int .i64 y.k.tun) ∧ W.cell? ⟨b, o + i * 10 + 2, none⟩ = some (.int .i64 y.k.head) ∧ W.cell? ⟨b, o + i * 10 + 3, none⟩ = some (.int .i64 y.k.lsp)) ∧ (W.cell? ⟨q, 0, none⟩ = some (.int .i64 fm.k.tail) ∧ W.cell? ⟨q, 1, none⟩ = some (.int .i64 fm.k.tun) ∧ W.cell? ⟨q, 2, none⟩ = some (.int .i64 fm.k.head) ∧ W.cell? ⟨q, 3, none⟩ = some (.int .i64 fm.k.lsp)) from fun W hW => by
                    have h3 := HQ7.out.below (HBK.out.trans (hW.mono HBK.out.size))
                    exact ⟨⟨HCE.out W hW 0 _ rfl, HCE.out W hW 1 _ rfl, HCE.out W hW 2 _ rfl, HCE.out W hW 3 _ rfl⟩, h3.cell 0, h3.cell 1, h3.cell 2, h3.cell 3⟩)
                  obtain ⟨hq, hhq⟩ : ∃ hq, kKin y.k fm.k = hq := ⟨_, rfl⟩
                  have hlc := fun W => rkin14_calls y.k fm.k W
                  unfold Yes14 at hlc
                  rw [hhq] at hlc
                  have HLC := Lib.hid hlc
                  have hgn : keeps fm (now.take (i + 1)) = G ++ (if hq = true then [] else [y]) := by
                    rw [HKK.out, take_snoc14 hy]
                    unfold keeps
                    rw [List.filter_append]
                    cases hq with
                    | true => simp [hhq]
                    | false => simp [hhq]
                  have HGN := Lib.hid hgn
                  have HI := Lib.hid hin2
                  clear hy hbb hc hlc hhq hgn hin2 hin
                  go_wp2_with fail
                  refine region_seq (fun W => Below wr.heap.size wr W) [(0, true), (1, true), (2, true), (3, true), (4, true), (5, true), (6, true), (7, false), (8, true)] (by kernel_rfl) (by kernel_rfl) (by kernel_rfl) (by kernel_rfl) (fun _ _ _ _ _ h => h) (Below.refl _ _).drew ?_
                  repeat
                    refine seq_pure (v := ?_) rfl (by rfl) (fun W hW => ?_) ?_
                    rotate_left
                    · obtain ⟨⟨c0, c1, c2, c3⟩, k0, k1, k2, k3⟩ := HCK.out W hW
                      clear hW
                      go_simp
                      with_reducible rfl
                    simp only [Act.put, List.setIfInBounds_toArray, List.set_cons_zero, List.set_cons_succ]
                  refine seq_make rfl (by rfl) (fun K hK => ?_)
                  go_simp
                  ((with_reducible refine (HLC.out wr.drew).mono ?_))
                  rintro e w8 ⟨rfl, hb8⟩
                  have HC8 := Lib.hid (show Below wr.heap.size wr w8 from below_of_drew hb8)
                  clear hb8
                  go_simp
                  refine hK _ _ (fun W => Below wr.heap.size wr W) (fun W h => h) HC8.out ?_
                  clear hK K
                  repeat
                    refine seq_pure (v := ?_) rfl (by rfl) (fun W hW => ?_) ?_
                    rotate_left
                    · clear hW
                      go_simp
                      with_reducible rfl
                    simp only [Act.put, List.setIfInBounds_toArray, List.set_cons_zero, List.set_cons_succ]
                  refine seq_done ?_
                  have HB8 := Lib.hid (show Below w7.heap.size w7 w8 from HBK.out.trans (HC8.out.mono HBK.out.size))
                  have HA8 := Lib.hid (AccR.bel HAK.out HC8.out)
                  cases hq with
                  | true =>
                    simp only [Bool.not_true]
                    go_wp2_with fail
                    go_roundw
                    case rel => exact ⟨i + 1, mg, cg, B, G, by rw [HGN.out]; simp, HMG.out.1, rfl, by first | rfl | (simp; omega), by have := HI.out; omega, HA8.out, HB8.out⟩
                    case measure => have := HI.out; simp [intOf]; omega
                  | false =>
                    simp only [Bool.not_false]
                    have y0 : w8.cell? ⟨b, o + i * 10, none⟩ = some (.int .i64 y.k.tail) := HCE.out w8 HC8.out 0 _ rfl
                    have y1 : w8.cell? ⟨b, o + i * 10 + 1, none⟩ = some (.int .i64 y.k.tun) := HCE.out w8 HC8.out 1 _ rfl
                    have y2 : w8.cell? ⟨b, o + i * 10 + 2, none⟩ = some (.int .i64 y.k.head) := HCE.out w8 HC8.out 2 _ rfl
                    have y3 : w8.cell? ⟨b, o + i * 10 + 3, none⟩ = some (.int .i64 y.k.lsp) := HCE.out w8 HC8.out 3 _ rfl
                    have y4 : w8.cell? ⟨b, o + i * 10 + 4, none⟩ = some (.int .u64 (y.w.bw : Int)) := HCE.out w8 HC8.out 4 _ rfl
                    have y5 : w8.cell? ⟨b, o + i * 10 + 5, none⟩ = some (.int .i64 y.w.su) := HCE.out w8 HC8.out 5 _ rfl
                    have y6 : w8.cell? ⟨b, o + i * 10 + 6, none⟩ = some (.int .i64 y.w.ho) := HCE.out w8 HC8.out 6 _ rfl
                    have y7 : w8.cell? ⟨b, o + i * 10 + 7, none⟩ = some (.int .u32 (y.w.an : Int)) := HCE.out w8 HC8.out 7 _ rfl
                    have y8 : w8.cell? ⟨b, o + i * 10 + 8, none⟩ = some (.int .u32 (y.w.al : Int)) := HCE.out w8 HC8.out 8 _ rfl
                    have y9 : w8.cell? ⟨b, o + i * 10 + 9, none⟩ = some (.int .u32 (y.w.no : Int)) := HCE.out w8 HC8.out 9 _ rfl
                    obtain ⟨A9, c9, w9, r9, a9, g9⟩ := accet_push HA8.out y HB8.out.size (by have := HMG.out; omega)
                    rw [HMG.out.1] at r9
                    have B9 := Lib.hid (show Below w7.heap.size w7 w9 from belr_acc HB8.out HA8.out g9)
                    have A9' := Lib.hid a9
                    have R9 := Lib.hid r9
                    clear r9 a9 g9
                    go_wp2_with (at_builtin; refine step_append rfl rfl rfl rfl R9.out ?_)
                    go_roundw
                    case rel => exact ⟨i + 1, mg + 1, c9, A9, G ++ [y], by rw [HGN.out]; simp, by rw [List.length_append, HMG.out.1]; rfl, rfl, by first | rfl | (simp; omega), by have := HI.out; omega, A9'.out, B9.out⟩
                    case measure => have := HI.out; simp [intOf]; omega
                · obtain rfl : i = m := by omega
                  have i1 : ¬ (i : Int) < (i : Int) := by omega
                  have htk : now.take i = now := List.take_of_length_le (by rw [HSN.out.2.2]; exact Nat.le_refl _)
                  have hk := HKK.out
                  rw [htk] at hk
                  have hlt := keeps_less HSN.out.1 (vict_some HVO.out).2
                  have hpos : f ≠ 0 := by
                    intro e
                    have h1 := HMF.out
                    have h2 := HSN.out.2.2
                    omega
                  have hst : aLoop (f - 1) size G x = aLoop n size l x := by
                    rw [← HAL.out, hk]
                    cases f with
                    | zero => exact absurd rfl hpos
                    | succ f' =>
                      conv => rhs; unfold aLoop
                      rw [if_neg (by rw [HD.out]; simp), HVO.out]
                      rfl
                  have hmgm : mg < i := by
                    rw [← HMG.out.1, hk, ← HSN.out.2.2]; exact hlt
                  have hrow2 := AccR.row HAK.out
                  rw [HMG.out.1] at hrow2
                  have HFIN := Lib.hid (show mg < i ∧ mg ≤ f - 1 ∧ aLoop (f - 1) size G x = aLoop n size l x ∧ G.Sublist l ∧ Row ent wr wr.heap.size B mg G from ⟨hmgm, by have := HMF.out; omega, hst, by rw [hk]; exact List.Sublist.trans List.filter_sublist HSB.out, hrow2⟩)
                  clear htk hk hlt hpos hst hmgm hrow2 hin hin2
                  go_wp2_with fail
                  go_roundw
                  case rel => exact ⟨mg, cg, B, G, f - 1, rfl, HFIN.out.2.2.2.2, HFIN.out.2.2.2.1, HFIN.out.2.1, HFIN.out.2.2.1, HK7.out.below HBK.out, HW7.out.below HBK.out, HL7.out.trans (HBK.out.mono HL7.out.size)⟩
                  case measure => have := HFIN.out.1; simp [sLen]; omega
end Go.Proofs.Ytnkoiageoenfeaa
