/-
  Keys, entries and families in memory; the document's Before, Kin, Has, worse. Condition: none beside what is said.
  The document's Has, worse, with (viaductref14). Condition: fewer than a thousand million entries.
  The document's with (viaductref14): an entry in its place. Condition: fewer than a thousand million entries.
  The document's Families (viaductref14). Condition: fewer than a thousand million entries.
  The document's Ledger and fits (viaductref14). Condition: fewer than a thousand million entries, in order, of which each may be wanted; numbers of 64 bits.
  The document's victim (viaductref14): who is driven out next. Condition: fewer than a thousand million entries.
  The document's Drop (viaductref14). Condition: fewer than a thousand million entries.
  The document's Admit (viaductref14). Condition: entries in order, of which each may be wanted; numbers of 64 bits.
-/
import Derived.Test.YtogijfebfffobaaAdmMO
import Derived.Test.YtogijfebfffobaaBase
import Derived.Deep.CutBlock
import Derived.Laws.OwnMore
import Derived.Test.YtogijfebfffobaaLedgMK
import Derived.Test.YtogijfebfffobaaGroupMC
namespace Go.Proofs.Ytogijfebfffobaa
set_option maxRecDepth 100000
set_option linter.unusedVariables false
open Go.RowKit

def kyc (k : Ky) : List Value := [.int .i64 k.tail, .int .i64 k.tun, .int .i64 k.head, .int .i64 k.lsp]
def ent (x : Et) : List Value := [.int .i64 x.k.tail, .int .i64 x.k.tun, .int .i64 x.k.head, .int .i64 x.k.lsp, .int .u64 (x.w.bw : Int), .int .i64 x.w.su, .int .i64 x.w.ho, .int .u32 (x.w.an : Int), .int .u32 (x.w.al : Int), .int .u32 (x.w.no : Int)]
def fmc (f : Fam) : List Value := [.int .i64 f.k.tail, .int .i64 f.k.tun, .int .i64 f.k.head, .int .i64 f.k.lsp, .int .u64 (f.bw : Int), .int .i64 f.ho]
theorem kyc_length (k : Ky) : (kyc k).length = 4 := rfl
theorem ent_length (x : Et) : (ent x).length = 10 := rfl
theorem fmc_length (f : Fam) : (fmc f).length = 6 := rfl
theorem kyc_one (k : Ky) : ∀ u ∈ kyc k, u.oneCell' = true := by intro u hu; simp [kyc] at hu; rcases hu with rfl | rfl | rfl | rfl <;> rfl
theorem ent_one (x : Et) : ∀ u ∈ ent x, u.oneCell' = true := by intro u hu; simp [ent] at hu; rcases hu with rfl | rfl | rfl | rfl | rfl | rfl | rfl | rfl | rfl | rfl <;> rfl
theorem fmc_one (f : Fam) : ∀ u ∈ fmc f, u.oneCell' = true := by intro u hu; simp [fmc] at hu; rcases hu with rfl | rfl | rfl | rfl | rfl | rfl <;> rfl

/-- One cell of one value of such a slice is set. -/
theorem flat_set {α : Type} {enc : α → List Value} {k : Nat} (hk : ∀ x, (enc x).length = k) {l : List α} {i j : Nat} (hi : i < l.length) (hj : j < k) {x' : α} {u : Value} (h : enc x' = (enc l[i]).set j u) : (l.set i x').flatMap enc = (l.flatMap enc).set (i * k + j) u := by
  refine List.ext_getElem? fun q => ?_
  by_cases hq : q < l.length * k
  · have hk0 : 0 < k := by omega
    have hd : q / k < l.length := Nat.div_lt_of_lt_mul (by rw [Nat.mul_comm]; exact hq)
    have hm := Nat.mod_lt q hk0
    have e1 : q / k * k + q % k = q := by rw [Nat.mul_comm]; exact Nat.div_add_mod q k
    have h1 := flat_get hk (l.set i x') (q / k) (by simpa using hd) (q % k) hm
    have h2 := flat_get hk l (q / k) hd (q % k) hm
    rw [e1] at h1 h2
    rw [h1, List.getElem?_set]
    by_cases hqi : q / k = i
    · have e2 : (l.set i x')[q / k]'(by simpa using hd) = x' := by simp [hqi]
      rw [e2, h, List.getElem?_set]
      by_cases hqj : q % k = j
      · have e3 : i * k + j = q := by rw [← hqi, ← hqj]; exact e1
        rw [if_pos hqj.symm, if_pos e3, hk, flat_length hk, if_pos hj, if_pos (by omega)]
      · have e3 : ¬ i * k + j = q := fun e => hqj (by rw [← e, Nat.mul_comm, Nat.mul_add_mod]; exact Nat.mod_eq_of_lt hj)
        rw [if_neg (fun e => hqj e.symm), if_neg e3, h2]
        simp only [hqi]
    · have e2 : (l.set i x')[q / k]'(by simpa using hd) = l[q / k] := by simp [Ne.symm hqi]
      have e3 : ¬ i * k + j = q := fun e => hqi (by rw [← e, Nat.mul_comm, Nat.mul_add_div hk0]; simp [Nat.div_eq_of_lt hj])
      rw [e2, if_neg e3, h2]
  · rw [List.getElem?_eq_none (by rw [flat_length hk, List.length_set]; omega), List.getElem?_eq_none (by rw [List.length_set, flat_length hk]; omega)]
theorem accr_setCell {α : Type} {enc : α → List Value} {k base c g : Nat} {w : World} {T : TypeId} {l : List α} (hk : ∀ x, (enc x).length = k) (h : AccR enc k w base T (some ⟨g, 0, none⟩) c l) {i j : Nat} (hi : i < l.length) (hj : j < k) {x' : α} {u : Value} (hx : enc x' = (enc l[i]).set j u) :
    AccR enc k (w.setCell ⟨g, i * k + j, none⟩ u) base T (some ⟨g, 0, none⟩) c (l.set i x') := by
  have := (World.ownsRow.stored h (i * k + j) u).1
  unfold AccR
  rw [flat_set hk hi hj hx, List.length_set]
  exact this
theorem accr_free {α : Type} {enc : α → List Value} {k base c g : Nat} {w : World} {T : TypeId} {l : List α} (h : AccR enc k w base T (some ⟨g, 0, none⟩) c l) (j : Nat) : w.frozen? ⟨g, j, none⟩ = false := World.ownsRow.frozenAt h j

/-- A yes or no, and memory is only more. -/
def Yes14 (b : Bool) (w : World) (e : Ending) (w' : World) : Prop := e = .returned (.bool b) ∧ Below w.heap.size w w'
theorem rbefore14_calls (a b : Ky) (w : World) : Calls Try.prog 31 #[.agg #[.int .i64 a.tail, .int .i64 a.tun, .int .i64 a.head, .int .i64 a.lsp], .agg #[.int .i64 b.tail, .int .i64 b.tun, .int .i64 b.head, .int .i64 b.lsp]] w (Yes14 (kBef a b) w) := by
  obtain ⟨a0, a1, a2, a3⟩ := a
  obtain ⟨b0, b1, b2, b3⟩ := b
  unfold Yes14 kBef
  simp only
  by_cases h1 : a2 = b2
  · subst h1
    have g1 : (a2 != a2) = false := by simp
    rw [if_neg (by simp)]
    by_cases h2 : a1 = b1
    · subst h2
      have g2 : (a1 != a1) = false := by simp
      rw [if_neg (by simp)]
      by_cases h3 : a0 = b0
      · subst h3
        have g3 : (a0 != a0) = false := by simp
        rw [if_neg (by simp)]
        go_enter Try.func31, Try.ntmps31
        go_wp2_with fail
        go_ret
        exact ⟨rfl, bel_new (bel_new (Below.refl _ _) _) _⟩
      · have g3 : (a0 != b0) = true := bne_iff_ne.2 h3
        rw [if_pos h3]
        go_enter Try.func31, Try.ntmps31
        go_wp2_with fail
        go_ret
        exact ⟨rfl, bel_new (bel_new (Below.refl _ _) _) _⟩
    · have g2 : (a1 != b1) = true := bne_iff_ne.2 h2
      rw [if_pos h2]
      go_enter Try.func31, Try.ntmps31
      go_wp2_with fail
      go_ret
      exact ⟨rfl, bel_new (bel_new (Below.refl _ _) _) _⟩
  · have g1 : (a2 != b2) = true := bne_iff_ne.2 h1
    rw [if_pos h1]
    go_enter Try.func31, Try.ntmps31
    go_wp2_with fail
    go_ret
    exact ⟨rfl, bel_new (bel_new (Below.refl _ _) _) _⟩
end Go.Proofs.Ytogijfebfffobaa

namespace Go.Proofs.Ytogijfebfffobaa
set_option maxRecDepth 100000
set_option linter.unusedVariables false
open Go.RowKit

/-- An operation behind a guard that does not hold is not carried out. -/
theorem seq_unmake14 {P : Program} {ops : Array Oper} {Q : Exit → Act → World → Prop} {S : World → Prop} {i : Nat} {r : List (Nat × Bool)} {a : Act} {w : World} {o : Oper} (ho : ops.toList[i]? = some o) (hw : Region.wanted o (yielded ops a.tmps) = false) (hS : S w)
    (h : wpSeq P ops Q S r (a.put o.dst undef) w) : wpSeq P ops Q S ((i, false) :: r) a w := by
  refine wpOp_step (o := o) (by rw [← Array.getElem?_toList]; exact ho) (fun K hK => ?_)
  rw [if_neg (by rw [hw]; exact Bool.false_ne_true)]
  exact hK _ _ ⟨S, fun _ h => h, hS, h⟩
theorem accr_ne14 {α : Type} {W : World} {enc : α → List Value} {k base q : Nat} {T T' : TypeId} {A : Option Addr} {cc : Nat} {l : List α} {vs : List Value} (h : AccR enc k W base T A cc l) (hb : Blk W q T' vs) (hne : T ≠ T') : ∀ x, blk A = some x → x ≠ q := by
  intro x hx e
  subst e
  rcases h.2 with ⟨hv, _⟩ | ⟨g', cap, cur, hv, _, hh, _⟩
  · injection hv with e1 _ _
    subst e1
    simp [blk] at hx
  · injection hv with e1 _ _
    subst e1
    simp [blk] at hx
    subst hx
    unfold Blk at hb
    rw [hb] at hh
    injection hh with hh
    injection hh with _ hh _
    exact hne hh.symm
theorem ky_inj {a b : Ky} (h : kyc a = kyc b) : a = b := by
  obtain ⟨a0, a1, a2, a3⟩ := a
  obtain ⟨b0, b1, b2, b3⟩ := b
  simp [kyc] at h
  obtain ⟨rfl, rfl, rfl, rfl⟩ := h
  rfl
/-- Two keys are compared. -/
theorem eq_ky (a b : Ky) (w : World) : (binOp .eql 30 (.agg #[.int .i64 a.tail, .int .i64 a.tun, .int .i64 a.head, .int .i64 a.lsp]) (.agg #[.int .i64 b.tail, .int .i64 b.tun, .int .i64 b.head, .int .i64 b.lsp])).run Try.prog w = .ok (.bool (decide (a = b))) w ∧
    (binOp .neq 30 (.agg #[.int .i64 a.tail, .int .i64 a.tun, .int .i64 a.head, .int .i64 a.lsp]) (.agg #[.int .i64 b.tail, .int .i64 b.tun, .int .i64 b.head, .int .i64 b.lsp])).run Try.prog w = .ok (.bool (!decide (a = b))) w :=
  eql_E (xs := kyc a) (ys := kyc b) (la := kyc a) (lb := kyc b) (m := 5) (D := 5) (by decide) (by kernel_rfl) (by rfl) (by rfl) (by rfl) (by rfl) w (decide (a = b)) (by rw [decide_eq_true_eq]; exact ⟨fun h => by rw [h], fun h => ky_inj h⟩)
/-- The place of one value of a slice, and its cells from then on. -/
theorem row_cells {α : Type} {enc : α → List Value} {k B n i : Nat} {w : World} {a : Option Addr} {l : List α} (hk : ∀ x, (enc x).length = k) (h : Row enc w B a n l) (hi : i < n) :
    ∃ b o x, a = some ⟨b, o, none⟩ ∧ l[i]? = some x ∧ b < B ∧ ∀ W, Below B w W → ∀ j v, (enc x)[j]? = some v → W.cell? ⟨b, o + i * k + j, none⟩ = some v := by
  obtain ⟨b, o, e, hb, hc⟩ := h.cells hk (by omega)
  have hi' : i < l.length := by rw [h.1]; exact hi
  refine ⟨b, o, l[i], e, List.getElem?_eq_getElem hi', hb, fun W hW j v hv => ?_⟩
  have hj : j < k := by
    have := (List.getElem?_eq_some_iff.1 hv).1
    rwa [hk] at this
  rw [hW.cell (p := ⟨b, o + i * k + j, none⟩) hb, hc i hi' j hj, hv]
theorem has_snoc {l : List Et} {i : Nat} {x : Et} (hx : l[i]? = some x) {k : Ky} (h : has14 (l.take i) k = false) (hk : x.k ≠ k) : has14 (l.take (i + 1)) k = false := by
  rw [has14_false] at h ⊢
  rw [List.take_add_one, hx]
  intro y hy
  rcases List.mem_append.1 hy with hy | hy
  · exact h y hy
  · simp at hy; rw [hy]; exact hk

end Go.Proofs.Ytogijfebfffobaa

namespace Go.Proofs.Ytogijfebfffobaa
set_option maxRecDepth 100000
set_option linter.unusedVariables false
open Go.RowKit

theorem take_snoc14 {α : Type} {l : List α} {i : Nat} {x : α} (h : l[i]? = some x) : l.take (i + 1) = l.take i ++ [x] := by
  rw [List.take_add_one, h]; rfl
theorem takeWhile_cut {α : Type} {p : α → Bool} : ∀ (l : List α) (i : Nat), i ≤ l.length → (∀ k y, k < i → l[k]? = some y → p y = true) → (∀ y, l[i]? = some y → p y = false) → l.takeWhile p = l.take i ∧ l.dropWhile p = l.drop i
  | [], i, hi, _, _ => by simp
  | a :: t, 0, _, _, h => by
    have := h a rfl
    simp [this]
  | a :: t, i + 1, hi, h1, h2 => by
    have ha := h1 0 a (by omega) rfl
    obtain ⟨e1, e2⟩ := takeWhile_cut t i (by simpa using hi) (fun k y hk hy => h1 (k + 1) y (by omega) hy) (fun y hy => h2 y hy)
    simp [ha, e1, e2]
theorem wIns_cut {l : List Et} {x : Et} {i : Nat} (hi : i ≤ l.length) (h1 : ∀ k y, k < i → l[k]? = some y → kBef y.k x.k = true) (h2 : ∀ y, l[i]? = some y → kBef y.k x.k = false) : wIns l x = l.take i ++ x :: l.drop i := by
  obtain ⟨e1, e2⟩ := takeWhile_cut (p := fun y => kBef y.k x.k) l i hi h1 h2
  unfold wIns
  rw [e1, e2]

end Go.Proofs.Ytogijfebfffobaa

namespace Go.Proofs.Ytogijfebfffobaa
set_option maxRecDepth 100000
set_option linter.unusedVariables false
open Go.RowKit

theorem fstep_length (fs : List Fam) (x : Et) : (fstep fs x).length ≤ fs.length + 1 := by
  unfold fstep
  split
  · rename_i f hf
    have : fs ≠ [] := by intro e; rw [e] at hf; cases hf
    have := List.length_pos_iff.2 this
    split
    · rw [List.length_append, List.length_dropLast]; simp only [List.length_cons, List.length_nil]; omega
    · simp
  · simp
theorem fams_length : ∀ (l : List Et), (fams l).length ≤ l.length := by
  intro l
  suffices h : ∀ (l : List Et) (fs : List Fam), (l.foldl fstep fs).length ≤ fs.length + l.length by simpa [fams] using h l []
  intro l
  induction l with
  | nil => intro fs; simp
  | cons x t ih =>
    intro fs
    have h1 := ih (fstep fs x)
    have h2 := fstep_length fs x
    simp only [List.foldl_cons, List.length_cons]
    omega
theorem fams_take {l : List Et} {i : Nat} {x : Et} (h : l[i]? = some x) : fams (l.take (i + 1)) = fstep (fams (l.take i)) x := by rw [take_snoc14 h, fams_snoc]

theorem accr_addr {α : Type} {enc : α → List Value} {k base c : Nat} {w : World} {T : TypeId} {A : Option Addr} {l : List α} (h : AccR enc k w base T A c l) (hl : 0 < l.length) : ∃ g, A = some ⟨g, 0, none⟩ ∧ base ≤ g ∧ g < w.heap.size := by
  rcases h.2 with ⟨_, h0⟩ | ⟨g, cap, cur, hv, hg, hh, _⟩
  · omega
  · injection hv with e1 _ _
    exact ⟨g, e1, hg, (Array.getElem?_eq_some_iff.1 hh).1⟩
theorem fstep_last {fs : List Fam} {f : Fam} {x : Et} : fstep (fs ++ [f]) x = if kKin f.k x.k = true then fs ++ [(⟨f.k, max f.bw x.w.bw, min f.ho x.w.ho⟩ : Fam)] else fs ++ [f] ++ [⟨x.k, x.w.bw, x.w.ho⟩] := by
  unfold fstep
  rw [List.getLast?_concat]
  simp only [List.dropLast_concat]
end Go.Proofs.Ytogijfebfffobaa

namespace Go.Proofs.Ytogijfebfffobaa
set_option maxRecDepth 100000
set_option linter.unusedVariables false
open Go.RowKit

theorem Blk.kept14 {w w' : World} {q r : Nat} {T : TypeId} {vs : List Value} (h : Blk w q T vs) (hg : w.grownBy w' (some r)) (hne : q ≠ r) : Blk w' q T vs :=
  h.same (hg.block q h.lt (by intro e; cases e; exact hne rfl))
theorem fsum_take {F : List Fam} {i : Nat} {f : Fam} (h : F[i]? = some f) : fsum (F.take (i + 1)) = fsum (F.take i) + f.bw := by rw [take_snoc14 h, fsum_snoc]
theorem fsum_take_le (F : List Fam) (i : Nat) : fsum (F.take i) ≤ fsum F := by
  have h := congrArg fsum (List.take_append_drop i F)
  simp only [fsum, List.map_append, List.sum_append] at h ⊢
  omega
theorem ledgOf_take {size : Nat} {F : List Fam} {i : Nat} {f : Fam} (h : F[i]? = some f) : ledgOf size (F.take (i + 1)) = lstep (ledgOf size (F.take i)) f := by
  rw [take_snoc14 h]
  unfold ledgOf
  rw [List.foldl_append]
  rfl
/-- What it answers. -/
def led14 (size : Nat) (l : List Et) : Lg := if fsum (fams l) < 18446744073709551616 then ledgOf size (fams l) else lz
theorem led14_ok {size : Nat} {l : List Et} (h : ∀ f ∈ fams l, 0 ≤ f.ho ∧ f.ho ≤ 7) (hs : size < 18446744073709551616) : LgOk (led14 size l) := by
  unfold led14
  split
  · rename_i hb
    exact ledgOf_ok h hs hb
  · exact lz_ok
def LedP14 (size : Nat) (F : List Fam) (w : World) (e : Ending) (w' : World) : Prop := e = .returned (.tuple #[.agg (lgc (if fsum F < 18446744073709551616 then ledgOf size F else lz)).toArray, .bool (decide (fsum F < 18446744073709551616))]) ∧ Below w.heap.size w w'
def LedPost14 (size : Nat) (l : List Et) (w : World) (e : Ending) (w' : World) : Prop := e = .returned (.tuple #[.agg (lgc (led14 size l)).toArray, .bool (decide (fsum (fams l) < 18446744073709551616))]) ∧ Below w.heap.size w w'
end Go.Proofs.Ytogijfebfffobaa

namespace Go.Proofs.Ytogijfebfffobaa
set_option maxRecDepth 100000
set_option linter.unusedVariables false
open Go.RowKit

def zf14 : Fam := ⟨⟨0, 0, 0, 0⟩, 0, 0⟩
/-- What it answers. -/
def VicP14 (r : Option Fam) (w : World) (e : Ending) (w' : World) : Prop := e = .returned (.tuple #[.agg (fmc (r.getD zf14)).toArray, .bool r.isSome]) ∧ Below w.heap.size w w'
theorem vstep_none {k : Ky} {su : Int} {b : Option Fam} {f : Fam} (h : gives14 k su f = false) : vstep k su b f = b := by unfold vstep; rw [h]; simp
theorem vstep_some {k : Ky} {su : Int} {b : Option Fam} {f : Fam} (h : gives14 k su f = true) (h2 : beats14 b f = true) : vstep k su b f = some f := by unfold vstep; rw [h, h2]; simp
theorem vstep_stay {k : Ky} {su : Int} {b : Option Fam} {f : Fam} (h2 : beats14 b f = false) : vstep k su b f = b := by unfold vstep; rw [h2]; simp
end Go.Proofs.Ytogijfebfffobaa

namespace Go.Proofs.Ytogijfebfffobaa
set_option maxRecDepth 100000
set_option linter.unusedVariables false
open Go.RowKit

end Go.Proofs.Ytogijfebfffobaa

namespace Go.Proofs.Ytogijfebfffobaa
set_option maxRecDepth 100000
set_option linter.unusedVariables false
open Go.RowKit

theorem infoKy14 : (Try.prog.info? 30).map (fun i => (i.zero, i.size, i.bytes)) = some (some (.agg #[.int .i64 0, .int .i64 0, .int .i64 0, .int .i64 0]), 4, 32) := by kernel_rfl
/-- Keys that a call gathers. -/
def AccKy (w : World) (base : Nat) (A : Option Addr) (c : Nat) (l : List Ky) : Prop := AccR kyc 4 w base 30 A c l
theorem accky_push {w : World} {base c : Nat} {A : Option Addr} {l : List Ky} (h : AccKy w base A c l) (k : Ky) (hb : base ≤ w.heap.size) (hl : l.length ≤ 1099511627776) :
    ∃ A' c' w', (Builtin.append_ #[62, 62] 62 #[.slice A l.length c, .slice (some ⟨w.heap.size, 0, none⟩) 1 1]).run Try.prog (w.alloc (.cells #[.int .i64 k.tail, .int .i64 k.tun, .int .i64 k.head, .int .i64 k.lsp] 30)) = .ok (.slice A' (l.length + 1) c') w' ∧
      AccKy w' base A' c' (l ++ [k]) ∧ w.grownBy w' (blk A) :=
  accr_push kyc_length kyc_one (by omega) h k Try.underlying62 infoKy14 rfl hb (by omega) (by omega)
/-- A slice's length. -/
def sLen : Value → Nat
  | .slice _ m _ => m
  | _ => 0
/-- An entry's numbers are of 64 bits and of 32. -/
def EtOk (x : Et) : Prop := wRight x.w = true ∧ x.w.bw < 18446744073709551616
end Go.Proofs.Ytogijfebfffobaa
