/-
  Contracts of the document's answer for layer 4 (viaductref04): Ints, Left, Out, Take, Drop. Conditions: its lists have at most 2^20 members.
-/
import Derived.Test.YtclhpmmdcapboaaPoolCountsW
namespace Go.Proofs.Ytclhpmmdcapboaa
open Go.RowKit
set_option linter.unusedVariables false

/-! ### which labels are out -/

/-- The labels from 'low' on at which 'true' stands. -/
def outOf (low : Int) : List Bool → List Int
  | [] => []
  | b :: bs => (if b then [low] else []) ++ outOf (low + 1) bs

theorem outOf_append : ∀ (bs : List Bool) (low : Int) (cs : List Bool), outOf low (bs ++ cs) = outOf low bs ++ outOf (low + bs.length) cs
  | [], low, cs => by simp [outOf]
  | b :: bs, low, cs => by
    have := outOf_append bs (low + 1) cs
    simp only [List.cons_append, outOf, this, List.append_assoc, List.length_cons]
    congr 3
    omega

theorem outOf_snoc (bs : List Bool) (low : Int) (b : Bool) : outOf low (bs ++ [b]) = outOf low bs ++ (if b then [low + bs.length] else []) := by
  rw [outOf_append]; simp [outOf]

theorem outOf_mem : ∀ {bs : List Bool} {low x : Int}, x ∈ outOf low bs → low ≤ x ∧ x < low + bs.length
  | b :: bs, low, x, h => by
    simp only [outOf, List.mem_append] at h
    rcases h with h | h
    · cases b <;> simp at h
      subst h; simp; omega
    · have := outOf_mem h
      simp; omega

theorem take_snoc {α : Type} {l : List α} {i : Nat} {x : α} (h : l[i]? = some x) : l.take (i + 1) = l.take i ++ [x] := by
  rw [List.take_add_one, h]; rfl

theorem outOf_step {bs : List Bool} {low : Int} {i : Nat} {b : Bool} (h : bs[i]? = some b) : outOf low (bs.take (i + 1)) = outOf low (bs.take i) ++ (if b then [low + (i : Int)] else []) := by
  have hi : i < bs.length := by
    rcases Nat.lt_or_ge i bs.length with h1 | h1
    · exact h1
    · rw [List.getElem?_eq_none h1] at h; cases h
  rw [take_snoc h, outOf_snoc]
  simp [Nat.min_eq_left (Nat.le_of_lt hi)]

/-- What is out when 'l' comes back. -/
def drp (low l : Int) : List Bool → List Bool
  | [] => []
  | b :: bs => (b && !(low == l)) :: drp (low + 1) l bs

theorem drp_length : ∀ (bs : List Bool) (low l : Int), (drp low l bs).length = bs.length
  | [], _, _ => rfl
  | b :: bs, low, l => by simp [drp, drp_length bs]

theorem drp_append : ∀ (bs : List Bool) (low l : Int) (cs : List Bool), drp low l (bs ++ cs) = drp low l bs ++ drp (low + bs.length) l cs
  | [], low, l, cs => by simp [drp]
  | b :: bs, low, l, cs => by
    have := drp_append bs (low + 1) l cs
    simp only [List.cons_append, drp, this, List.length_cons]
    congr 3
    omega

theorem drp_step {bs : List Bool} {low l : Int} {i : Nat} {b : Bool} (h : bs[i]? = some b) : drp low l (bs.take (i + 1)) = drp low l (bs.take i) ++ [b && !(low + (i : Int) == l)] := by
  have hi : i < bs.length := by
    rcases Nat.lt_or_ge i bs.length with h1 | h1
    · exact h1
    · rw [List.getElem?_eq_none h1] at h; cases h
  rw [take_snoc h, drp_append]
  simp [drp, Nat.min_eq_left (Nat.le_of_lt hi)]

theorem outOf_drp : ∀ (bs : List Bool) (low l : Int), outOf low (drp low l bs) = (outOf low bs).filter (fun y => !(y == l))
  | [], _, _ => rfl
  | b :: bs, low, l => by
    simp only [drp, outOf, outOf_drp bs (low + 1) l, List.filter_append]
    congr 1
    cases b <;> by_cases h : low = l <;> simp [h]

/-- The labels that were given. -/
def gv (low : Int) (k : Nat) : List Int := (List.range k).map fun i : Nat => low + (i : Int)
theorem gv_length (low : Int) (k : Nat) : (gv low k).length = k := by simp [gv]
theorem gv_get {low : Int} {k i : Nat} (h : i < k) : (gv low k)[i]? = some (low + (i : Int)) := by simp [gv, h]
theorem gv_snoc (low : Int) (k : Nat) : gv low (k + 1) = gv low k ++ [low + (k : Int)] := by simp [gv, List.range_succ]

/-! ### what the reference's pool reads as -/

def eb (b : Bool) : List Value := [.bool b]
theorem eb_length (b : Bool) : (eb b).length = 1 := rfl
theorem eb_one (b : Bool) : ∀ u ∈ eb b, u.oneCell' = true := by intro u hu; simp [eb] at hu; subst hu; rfl
theorem infoBool : (Try.prog.info? 4).map (fun i => (i.zero, i.size, i.bytes)) = some (some (.bool false), 1, 1) := by kernel_rfl

/-- Truth values that a call itself gathers. -/
def AccB (w : World) (base : Nat) (A : Option Addr) (c : Nat) (l : List Bool) : Prop := AccR eb 1 w base 4 A c l

theorem accb_push {w : World} {base c : Nat} {A : Option Addr} {l : List Bool} (h : AccB w base A c l) (x : Bool) (hbase : base ≤ w.heap.size) (hlen : l.length ≤ 1099511627776) (ty : TypeId) :
    ∃ A' c' w', (Builtin.append_ #[28, 28] ty #[.slice A l.length c, .slice (some ⟨w.heap.size, 0, none⟩) 1 1]).run Try.prog (w.alloc (.cells #[.bool x] 4)) = .ok (.slice A' (l.length + 1) c') w' ∧
      AccB w' base A' c' (l ++ [x]) ∧ w.grownBy w' (blk A) :=
  accr_push eb_length eb_one (by omega) h x Try.underlying28 infoBool rfl hbase (by omega) (by omega)

theorem accr_cells {α : Type} {enc : α → List Value} {k : Nat} {w : World} {base c : Nat} {T : TypeId} {A : Option Addr} {l : List α} (h : AccR enc k w base T A c l) {x : Nat} (hx : blk A = some x) : ∃ cs, w.heap[x]? = some (.cells cs T (0, 0)) := by
  rcases h.2 with ⟨hv, _⟩ | ⟨g, cap, cur, hv, _, hh, _⟩
  · injection hv with e; subst e; cases hx
  · injection hv with e; subst e
    have : g = x := by injection hx
    subst this
    exact ⟨cur, hh⟩

/-- Whole numbers and truth values that a call gathers lie in two blocks. -/
theorem acc_apart {w : World} {base base2 c c2 : Nat} {A A2 : Option Addr} {l : List Int} {l2 : List Bool} (h : AccI w base A c l) (h2 : AccB w base2 A2 c2 l2) : ∀ x, blk A = some x → blk A2 ≠ some x := by
  intro x hx hx2
  obtain ⟨cs, e1⟩ := accr_cells h hx
  obtain ⟨cs2, e2⟩ := accr_cells h2 hx2
  rw [e1] at e2
  injection e2 with e2
  injection e2 with _ e3
  exact absurd e3 (by decide)

theorem row1 {α : Type} {enc : α → List Value} {w : World} {B n : Nat} {a : Option Addr} {l : List α} (hk : ∀ x, (enc x).length = 1) (h : Row enc w B a n l) {i : Nat} (hi : i < n) : ∃ b o : Nat, a = some ⟨b, o, none⟩ ∧ b < B ∧ ∀ (j : Nat) (x : α) , l[j]? = some x → w.cell? ⟨b, o + j, none⟩ = (enc x)[0]? := by
  obtain ⟨b, o, e, hb, hc⟩ := h.cells hk (by omega)
  refine ⟨b, o, e, hb, fun j x hj => ?_⟩
  have hjl : j < l.length := by
    rcases Nat.lt_or_ge j l.length with h1 | h1
    · exact h1
    · rw [List.getElem?_eq_none h1] at hj; cases hj
  have := hc j hjl 0 (by omega)
  rw [List.getElem?_eq_getElem hjl] at hj
  injection hj with hj
  rw [hj] at this
  simpa using this

/-- The reference's pool as a value: what was given, and which of it is out. -/
def Ref (w : World) (low high : Int) (bs : List Bool) (A : Option Addr) (A2 : Option Addr) : Prop :=
  Row ei w w.heap.size A bs.length (gv low bs.length) ∧ Row eb w w.heap.size A2 bs.length bs

def rv (low high : Int) (n : Nat) (A : Option Addr) (c : Nat) (A2 : Option Addr) (c2 : Nat) : Value := .agg #[.int .i64 low, .int .i64 high, .slice A n c, .slice A2 n c2]

theorem Ref.below {w w' : World} {low high : Int} {bs : List Bool} {A A2 : Option Addr} (h : Ref w low high bs A A2) (hb : Below w.heap.size w w') : Ref w' low high bs A A2 :=
  ⟨(h.1.below hb).more hb.size, (h.2.below hb).more hb.size⟩

theorem Ref.turn {w w' : World} {low high : Int} {bs : List Bool} {A A2 : Option Addr} (h : Ref w low high bs A A2) (hb : ∀ k, k < w.heap.size → (∀ x, A = some ⟨k, x, none⟩ → w'.heap[k]? = w.heap[k]?) ∧ (∀ x, A2 = some ⟨k, x, none⟩ → w'.heap[k]? = w.heap[k]?)) (hs : w.heap.size ≤ w'.heap.size) : Ref w' low high bs A A2 := by
  refine ⟨⟨h.1.1, fun hn => ?_⟩, ⟨h.2.1, fun hn => ?_⟩⟩
  · obtain ⟨b, o, e, hlt, hc⟩ := h.1.2 hn
    exact ⟨b, o, e, by omega, fun i hi => (World.cell?_of_block (w := w) ((hb b hlt).1 o e)).trans (hc i hi)⟩
  · obtain ⟨b, o, e, hlt, hc⟩ := h.2.2 hn
    exact ⟨b, o, e, by omega, fun i hi => (World.cell?_of_block (w := w) ((hb b hlt).2 o e)).trans (hc i hi)⟩

section
variable {w : World} {low high : Int} {bs : List Bool} {A A2 : Option Addr} {c c2 : Nat}

theorem refleft_calls (n : Nat) (hn : n ≤ 1048576) (h1 : 16 ≤ low) (h2 : high ≤ 1048575) (h3 : low ≤ high) :
    Calls Try.prog 19 #[rv low high n A c A2 c2] w fun e w' => e = .returned (.int .i64 (high - low + 1 - (n : Int))) ∧ Below w.heap.size w w' := by
  unfold rv
  go_enter Try.func19, Try.ntmps19
  go_wp2
  go_ret
  exact ⟨rfl, bel_new (Below.refl _ _) _⟩

set_option maxHeartbeats 800000 in
theorem ints_calls {a b : Option Addr} {n ca cb : Nat} {l : List Int} (ha : Row ei w w.heap.size a n l) (hb : Row ei w w.heap.size b n l) (hn : n ≤ 1099511627776) :
    Calls Try.prog 15 #[.slice a n ca, .slice b n cb] w fun e w' => e = .returned (.bool true) ∧ ∃ m, w' = w.drewN m := by
  have HA := Lib.hid ha
  have HB := Lib.hid hb
  clear ha hb
  go_enter Try.func15, Try.ntmps15
  go_wp2
  go_loopw [5] (fun t W => ∃ k : Nat, k ≤ n ∧ t = .int .i64 (k : Int) ∧ ∃ m, W = w.drewN m) (fun t _ => n - (intOf t).toNat)
  case atStart => exact ⟨0, by omega, rfl, 0, rfl⟩
  case round =>
    obtain ⟨k, hk, rfl, m, rfl⟩ := hrel
    by_cases hlt : k < n
    · obtain ⟨b1, o1, rfl, _, hc1⟩ := row1 ei_length HA.out hlt
      obtain ⟨b2, o2, rfl, _, hc2⟩ := row1 ei_length HB.out hlt
      obtain ⟨x, hx⟩ : ∃ x, l[k]? = some x := ⟨l[k]'(by rw [HA.out.1]; exact hlt), by simp [HA.out.1, hlt]⟩
      have d1 : w.cell? ⟨b1, o1 + k, none⟩ = some (.int .i64 x) := hc1 k x hx
      have d2 : w.cell? ⟨b2, o2 + k, none⟩ = some (.int .i64 x) := hc2 k x hx
      have hkI : (k : Int) < (n : Int) := by omega
      clear hc1 hc2 hx
      go_wp2
      go_quiet (fail)
      go_wp2
      exact ⟨⟨k + 1, by omega, by go_num, _, rfl⟩, by simp [intOf]; omega⟩
    · go_wp2
      go_ret
      exact ⟨rfl, _, rfl⟩

def RefOutPost (w : World) (l : List Int) (e : Ending) (w' : World) : Prop := ∃ A c, e = .returned (.slice A l.length c) ∧ AccI w' w.heap.size A c l ∧ Below w.heap.size w w'

theorem box_cells (w : World) (u0 u1 u2 u3 : Value) (T : TypeId) {W : World} (hb : Below (w.heap.size + 1) (w.alloc (.cells #[u0, u1, u2, u3] T)) W) : W.cell? ⟨w.heap.size, 0, none⟩ = some u0 ∧ W.cell? ⟨w.heap.size, 1, none⟩ = some u1 ∧ W.cell? ⟨w.heap.size, 2, none⟩ = some u2 ∧ W.cell? ⟨w.heap.size, 3, none⟩ = some u3 := by
  have h1 : W.heap[w.heap.size]? = some (.cells #[u0, u1, u2, u3] T (0, 0)) := (hb.block _ (by omega)).trans (heap_alloc_new w _)
  exact ⟨cell_of_row _ _ _ _ _ _ h1, cell_of_row _ _ _ _ _ _ h1, cell_of_row _ _ _ _ _ _ h1, cell_of_row _ _ _ _ _ _ h1⟩

set_option maxHeartbeats 1600000 in
theorem refout_calls (h : Ref w low high bs A A2) (hn : bs.length ≤ 1048576) :
    Calls Try.prog 17 #[rv low high bs.length A c A2 c2] w (RefOutPost w (outOf low bs)) := by
  have H := Lib.hid h
  clear h
  unfold rv
  go_enter Try.func17, Try.ntmps17
  go_wp2
  go_loopw [3, 4] (fun u t W => ∃ (k : Nat) (A' : Option Addr) (c' : Nat), k ≤ bs.length ∧ t = .int .i64 (k : Int) ∧ u = .slice A' (outOf low (bs.take k)).length c' ∧ AccI W (w.heap.size + 1) A' c' (outOf low (bs.take k)) ∧ Below (w.heap.size + 1) (w.alloc (.cells #[.int .i64 low, .int .i64 high, .slice A bs.length c, .slice A2 bs.length c2] 30)) W ∧ (outOf low (bs.take k)).length ≤ k) (fun _ t _ => bs.length - (intOf t).toNat)
  case atStart => exact ⟨0, none, 0, by omega, rfl, rfl, AccR.nil _ _ _, Below.refl _ _, by simp [outOf]⟩
  case round =>
    obtain ⟨k, A', c', hk, rfl, rfl, hA, hB, hl⟩ := hrel
    have hbx := box_cells w _ _ _ _ _ hB
    obtain ⟨x0, x1, x2, x3⟩ := hbx
    have hB0 : Below w.heap.size w wr := ((Below.refl _ _).alloc (Nat.le_refl _) _).trans (hB.mono (by omega))
    have HA := Lib.hid hA
    have HB := Lib.hid hB
    have HB0 := Lib.hid hB0
    have hsz : w.heap.size + 1 ≤ wr.heap.size := by have := hB.size; simpa using this
    clear hA hB hB0
    by_cases hlt : k < bs.length
    · obtain ⟨b1, o1, rfl, hb1, hc1⟩ := row1 ei_length H.out.1 hlt
      obtain ⟨b2, o2, rfl, hb2, hc2⟩ := row1 eb_length H.out.2 hlt
      obtain ⟨x, hx⟩ : ∃ x, bs[k]? = some x := ⟨bs[k], by simp [hlt]⟩
      have d1 : wr.cell? ⟨b1, o1 + k, none⟩ = some (.int .i64 (low + (k : Int))) := (HB0.out.cell (p := ⟨b1, o1 + k, none⟩) hb1).trans (hc1 k _ (gv_get hlt))
      have d2 : wr.cell? ⟨b2, o2 + k, none⟩ = some (.bool x) := (HB0.out.cell (p := ⟨b2, o2 + k, none⟩) hb2).trans (hc2 k x hx)
      have hkI : (k : Int) < (bs.length : Int) := by omega
      have HST := Lib.hid (outOf_step (low := low) hx)
      obtain ⟨A3, c3, w3, r3, a3, g3⟩ := acci_push HA.out (low + (k : Int)) hsz (by omega) 27
      have B3 := Lib.hid (HB.out.grown g3 (Nat.le_trans (by simp) HB.out.size) (fun j hj => by have := (AccR.ge HA.out hj).1; omega))
      have R3 := Lib.hid r3
      have A3' := Lib.hid a3
      clear r3 a3 g3 hc1 hc2 hx
      cases x
      · have HS2 := Lib.hid (show outOf low (bs.take (k + 1)) = outOf low (bs.take k) by have := HST.out; simpa using this)
        clear HST
        go_wp2
        exact ⟨⟨k + 1, A', c', by omega, by go_num, by rw [HS2.out], by rw [HS2.out]; exact HA.out, HB.out, by rw [HS2.out]; omega⟩, by simp [intOf]; omega⟩
      · have HS2 := Lib.hid (show outOf low (bs.take (k + 1)) = outOf low (bs.take k) ++ [low + (k : Int)] by have := HST.out; simpa using this)
        clear HST
        go_wp2_with (at_builtin; refine step_append rfl rfl rfl rfl R3.out ?_)
        exact ⟨⟨k + 1, A3, c3, by omega, by go_num, by rw [HS2.out]; simp, by rw [HS2.out]; exact A3'.out, B3.out, by rw [HS2.out]; simp; omega⟩, by simp [intOf]; omega⟩
    · have hkk : bs.take k = bs := List.take_of_length_le (by omega)
      have HA2 := Lib.hid (show AccI wr (w.heap.size + 1) A' c' (outOf low bs) by have := HA.out; rwa [hkk] at this)
      rw [hkk]
      clear hkk HA
      go_wp2
      go_ret
      exact ⟨A', c', rfl, HA2.out.lower (by omega), HB0.out⟩
end
end Go.Proofs.Ytclhpmmdcapboaa
