/-
  The code's search (cspf) as it lies in memory: notes in a map by node and number of links, the queue, the links; contracts of cspf.isNode, mostHops, extend, linksOf, mayFind, newSearch. Condition: a route reads as whole numbers, at most 2^30 of them; numbers as large as their types allow.
-/
import Derived.Test.YtjflbfianncpfaaGreatCsqM
import Derived.Test.YtjflbfianncpfaaGreatCspA
import Derived.Test.YtjflbfianncpfaaGreatSeaG
import Derived.Test.YtjflbfianncpfaaGreatSpfE
import Derived.ArgAppend
namespace Go.Proofs.YtjflbfianncpfaaGreat
set_option maxRecDepth 100000
set_option linter.unusedVariables false
open Go.RowKit Go.Maps

/-! ### the map -/
theorem place_law : Keyed Tryz.prog 96 := Keyed.of_law (deep_law_laid (m := 2) (by kernel_rfl) (by omega) (of_decide_eq_true (by kernel_rfl)) (by kernel_rfl) (by rw [Tryz.underlying96]))
/-- A place, as the map reads it. -/
def pky (x : Int) (j : Nat) : Lit := .string (keyBytes [.int .i64 x, .int .i64 (j : Int)])
def pv (x : Int) (j : Nat) : Value := .agg #[.int .i64 x, .int .i64 (j : Int)]
def WfP (x : Int) (j : Nat) : Prop := (Lit.int .i64 x).wf = true ∧ (Lit.int .i64 (j : Int)).wf = true
theorem wfp_of {x : Int} {j : Nat} (h0 : 0 ≤ x) (h1 : x ≤ 1099511627776) (h2 : j ≤ 1099511627776) : WfP x j := ⟨WalkArith.wf_i64 (by omega), WalkArith.wf_i64 (by omega)⟩
theorem pky_of {x : Int} {j : Nat} (h : WfP x j) : keyOf Tryz.prog 96 (pv x j) = some (pky x j) := by
  have hk : Tryz.prog.keyType 96 = true := by kernel_rfl
  have hs : Tryz.prog.cellsOf 96 = 2 := by kernel_rfl
  unfold keyOf pv pky
  rw [Tryz.underlying96]
  simp [hk, Value.formed, Tryz.underlying96, hs, Value.cells]
  refine ⟨[.int .i64 x, .int .i64 (j : Int)], ?_, rfl⟩
  have hi : Tryz.prog.cellsOf 3 = 1 := by kernel_rfl
  have hd : ∀ d, Tryz.prog.keyLits (d + 2) 96 [.int .i64 x, .int .i64 (j : Int)] = some [.int .i64 x, .int .i64 (j : Int)] := by
    intro d
    simp [Program.keyLits, Tryz.underlying96, Tryz.underlying3, hs, hi, h.1, h.2]
  exact hd _
theorem pky_inj {x y : Int} {j i : Nat} (hx : WfP x j) (hy : WfP y i) (h : pky x j = pky y i) : x = y ∧ j = i := by
  have h1 := pky_of hx
  rw [h] at h1
  have := place_law.inj h1 (pky_of hy)
  simp [pv] at this
  omega
/-- A note as a value: what it costs, and the route. -/
def fv (p : Int × Rs) : Value := .agg #[.int .i64 p.1, rv p.2]
def heldE : Value → Option (DataW Value × List MemPlace) := fun v => some (.held v, [])
theorem zeroF (w : World) : (zeroValue 86).run Tryz.prog w = .ok (fv (0, ⟨none, 0, 0⟩)) w := by kernel_rfl
/-- The notes in memory. -/
abbrev En := Int → Nat → Option (Int × Rs)
def eset (E : En) (x : Int) (j : Nat) (p : Int × Rs) : En := fun y i => if y = x ∧ i = j then some p else E y i
def eget (E : En) (x : Int) (j : Nat) : Int × Rs := (E x j).getD (0, ⟨none, 0, 0⟩)
/-- Block b is a map that keeps just the notes E, after at most u stores. -/
def Nts (w : World) (b u : Nat) (E : En) : Prop := ∃ D : DataW Value, w.ownsMap Tryz.prog 96 heldE b u D ∧ ∀ x j, WfP x j → Maps.has D (pky x j) = (E x j).isSome ∧ ∀ p, E x j = some p → ∀ z, D.atKey (pky x j) z = .held (fv p)
section
variable {w w' : World} {b u : Nat} {E : En}
theorem Nts.lt (h : Nts w b u E) : b < w.heap.size := by obtain ⟨D, h1, _⟩ := h; exact h1.lt
theorem Nts.ty (h : Nts w b u E) : tyAt w b = none := by
  obtain ⟨D, ⟨es, clock, hb, _⟩, _⟩ := h
  unfold tyAt
  rw [hb]
theorem Nts.same (h : Nts w b u E) (hb : w'.heap[b]? = w.heap[b]?) : Nts w' b u E := by
  obtain ⟨D, ⟨es, clock, he, r⟩, hh⟩ := h
  exact ⟨D, ⟨es, clock, hb.trans he, r⟩, hh⟩
theorem nts_new (w : World) : Nts (w.alloc (.map #[] 0)) w.heap.size 0 (fun _ _ => none) :=
  ⟨_, World.ownsMap_made w _ _ _, fun x j _ => ⟨by simp [Maps.has_eq], fun p hp => by cases hp⟩⟩
theorem Nts.got (h : Nts w b u E) {x : Int} {j : Nat} (hk : WfP x j) {D : DataW Value} (hD : ∀ x j, WfP x j → Maps.has D (pky x j) = (E x j).isSome ∧ ∀ p, E x j = some p → ∀ z, D.atKey (pky x j) z = .held (fv p)) {v : Value} {ps : List MemPlace} (hv : heldE v = some (D.atKey (pky x j) (.held (fv (0, ⟨none, 0, 0⟩))), ps)) : v = fv (eget E x j) := by
  obtain ⟨h1, h2⟩ := hD x j hk
  unfold heldE at hv
  injection hv with hv
  injection hv with hv _
  unfold eget
  cases hE : E x j with
  | none =>
    rw [hE] at h1
    rw [Maps.atKey_of_not_has (by simpa using h1)] at hv
    injection hv with hv
  | some p =>
    rw [h2 p hE] at hv
    injection hv with hv
/-- A look into the map. -/
theorem Nts.look (h : Nts w b u E) {x : Int} {j : Nat} (hk : WfP x j) : (Instr.lookup 90 (.map (some b)) (pv x j) false).run Tryz.prog w = .ok (fv (eget E x j)) w := by
  have h0 := h
  obtain ⟨D, ho, hh⟩ := h
  obtain ⟨v, ps, hrun, hv⟩ := ho.lookup place_law Tryz.underlying90 (zeroF w) (zd := .held (fv (0, ⟨none, 0, 0⟩))) (zp := []) rfl (pky_of hk)
  rw [hrun, h0.got hk hh hv]
theorem Nts.lookOk (h : Nts w b u E) {x : Int} {j : Nat} (hk : WfP x j) : (Instr.lookup 90 (.map (some b)) (pv x j) true).run Tryz.prog w = .ok (.tuple #[fv (eget E x j), .bool (E x j).isSome]) w := by
  have h0 := h
  obtain ⟨D, ho, hh⟩ := h
  obtain ⟨v, ps, hrun, hv⟩ := ho.look_ok place_law Tryz.underlying90 (zeroF w) (zd := .held (fv (0, ⟨none, 0, 0⟩))) (zp := []) rfl (pky_of hk)
  rw [hrun, h0.got hk hh hv, (hh x j hk).1]
/-- A note is laid. -/
theorem Nts.put (h : Nts w b u E) {x : Int} {j : Nat} (hk : WfP x j) (hu : u ≤ 1000000) (p : Int × Rs) : ∃ w', (Instr.mapUpdate 90 (.map (some b)) (pv x j) (fv p)).run Tryz.prog w = .ok () w' ∧ Nts w' b (u + 1) (eset E x j p) ∧ w.grownBy w' (some b) := by
  obtain ⟨D, ho, hh⟩ := h
  obtain ⟨w', hrun, r1, r2⟩ := ho.update (d := .held (fv p)) (ps := []) (val := fv p) place_law Tryz.underlying90 (by unfold maxLen; omega) (pky_of hk) rfl
  refine ⟨w', hrun, ⟨_, r1, fun y i hy => ?_⟩, r2⟩
  unfold eset
  by_cases e : y = x ∧ i = j
  · obtain ⟨rfl, rfl⟩ := e
    refine ⟨by rw [Maps.has_put_same ho.isMap (by simp [pky, WideAt.IsKeyLit])]; simp, fun q hq z => ?_⟩
    rw [if_pos ⟨rfl, rfl⟩] at hq
    injection hq with hq
    subst hq
    exact Maps.atKey_put_same ho.isMap (by simp [pky, WideAt.IsKeyLit]) _ z
  · have hne : pky y i ≠ pky x j := fun he => e (pky_inj hy hk he)
    rw [if_neg e]
    refine ⟨by rw [Maps.has_put_other hne]; exact (hh y i hy).1, fun q hq z => ?_⟩
    rw [Maps.atKey_put_other hne]
    exact (hh y i hy).2 q hq z
end
/-- A look into a map, in a region that draws its order. -/
theorem seq_look17 {P : Program} {ops : Array Oper} {Q : Exit → Act → World → Prop} {S : World → Prop} {i : Nat} {r : List (Nat × Bool)} {a : Act} {w : World} {o : Oper} {m x : Operand} {T : TypeId} {b : Bool} {mb : Nat} {key v : Value}
    (ho : ops.toList[i]? = some o) (hw : Region.wanted o (yielded ops a.tmps) = true) (hop : o.op = Op.lookup T m x b) (hm : a.eval m = .map (some mb)) (hx : a.eval x = key) (hr : ∀ W, S W → (Instr.lookup T (.map (some mb)) key b).run P W = .ok v W)
    (h : wpSeq P ops Q S r (a.put o.dst v) w) : wpSeq P ops Q S ((i, true) :: r) a w :=
  seq_pure ho hw (fun W hW => by unfold execOp; simp [hop, hm, hx, hr W hW, Result.andThen]) h
/-- A store into a map, carried out. -/
theorem wp_update17 {P : Program} {o : Oper} {a : Act} {w w' : World} {K : Act → World → Prop} {Q : Exit → Act → World → Prop} {m x v : Operand} {T : TypeId} {mb : Nat} {key val : Value}
    (hop : o.op = Op.mapUpdate T m x v) (hm : a.eval m = .map (some mb)) (hx : a.eval x = key) (hv : a.eval v = val) (hr : (Instr.mapUpdate T (.map (some mb)) key val).run P w = .ok () w') (h : K (a.put o.dst undef) w') : Oper.wp P o a w K Q := by
  unfold Oper.wp
  simp [execOp, hop, hm, hx, hv, hr, Result.andThen]
  exact h

/-! ### the search -/
/-- What a note in memory tells. -/
def NoteOk17 (w : World) (base : Nat) : Option (Int × Rs) → Option (Int × List Int) → Prop
  | none, none => True
  | some (c', x), some (c, r) => c' = c ∧ 0 ≤ c ∧ x.n = r.length ∧ (1 ≤ x.n ∧ x.n ≤ 1073741824) ∧ AccI w base x.a x.c r
  | _, _ => False
/-- The blocks of a search that stay the same ones: its own, its notes', its queue's, the items'; its links. -/
structure Sk17 where
  s : Nat
  b : Nat
  q : Nat
  p : Nat
  la : Option Addr
  lc : Nat
/-- A search in memory that was made since w0, with what is noted, and what waits. -/
structure Sea17 (w0 w : World) (K : Sk17) (g u : Nat) (L : List Lk) (E : En) (S : Nt) (Q : List Itm) : Prop where
  bel : Below w0.heap.size w0 w
  head : Blk w K.s 93 [.slice K.la L.length K.lc, .map (some K.b), .pointer (some ⟨K.q, 0, none⟩)]
  links : AccL16 w w0.heap.size K.la K.lc L
  notes : Nts w K.b u E
  queue : Qe w w0.heap.size K.q K.p g Q
  lob : w0.heap.size ≤ K.b
  ok : ∀ x j, NoteOk17 w w0.heap.size (E x j) (S x j)
section
variable {w0 w w' : World} {K : Sk17} {g g' u : Nat} {L : List Lk} {E : En} {S : Nt} {Q Q' : List Itm}
theorem NoteOk17.same {base : Nat} {e : Option (Int × Rs)} {st : Option (Int × List Int)} (h : NoteOk17 w base e st) (hk : ∀ (A : Option Addr) (c : Nat) (r : List Int), AccI w base A c r → AccI w' base A c r) : NoteOk17 w' base e st := by
  cases e with
  | none =>
    cases st with
    | none => exact trivial
    | some p => exact h
  | some x =>
    cases st with
    | none => exact h
    | some p => exact ⟨h.1, h.2.1, h.2.2.1, h.2.2.2.1, hk _ _ _ h.2.2.2.2⟩
theorem NoteOk17.none_iff {base : Nat} {e : Option (Int × Rs)} {st : Option (Int × List Int)} (h : NoteOk17 w base e st) : e = none ↔ st = none := by
  cases e <;> cases st <;> simp_all [NoteOk17]
theorem Sea17.below (h : Sea17 w0 w K g u L E S Q) (hb : Below w.heap.size w w') : Sea17 w0 w' K g u L E S Q :=
  ⟨h.bel.trans (hb.mono h.bel.size), h.head.below hb, AccR.bel h.links hb, h.notes.same (hb.block _ h.notes.lt), h.queue.bel hb, h.lob, fun x j => (h.ok x j).same (fun A c r ha => AccR.bel ha hb)⟩
theorem Sea17.drew (h : Sea17 w0 w K g u L E S Q) : Sea17 w0 w.drew K g u L E S Q := h.below (Below.refl _ _).drew
theorem ne_ty0 {x y : Nat} {T : TypeId} (h : tyAt w x = some T) (h' : tyAt w y = none) : x ≠ y := by
  intro e
  subst e
  rw [h] at h'
  cases h'
theorem Sea17.apart (h : Sea17 w0 w K g u L E S Q) : (K.s ≠ K.b ∧ K.s ≠ K.q ∧ K.s ≠ K.p ∧ K.s ≠ g) ∧ (K.b ≠ K.q ∧ K.b ≠ K.p ∧ K.b ≠ g) := by
  obtain ⟨t1, t2, t3⟩ := h.queue.ty
  have ts := h.head.ty
  have tb := h.notes.ty
  exact ⟨⟨ne_ty0 ts tb, ne_ty ts t1 (by decide), ne_ty ts t2 (by decide), ne_ty ts t3 (by decide)⟩, Ne.symm (ne_ty0 t1 tb), Ne.symm (ne_ty0 t2 tb), Ne.symm (ne_ty0 t3 tb)⟩
/-- A block of another type is none of the search's. -/
theorem Sea17.off (h : Sea17 w0 w K g u L E S Q) {b : Nat} {T : TypeId} (ht : tyAt w b = some T) (h1 : T ≠ 146) (h2 : T ≠ 88) : b ∉ [K.b, K.p, g] := by
  obtain ⟨t1, t2, t3⟩ := h.queue.ty
  have e1 := ne_ty0 ht h.notes.ty
  have e2 := ne_ty ht t2 h1
  have e3 := ne_ty ht t3 h2
  simp
  omega
/-- The queue turns, and the notes. -/
theorem Sea17.turn (h : Sea17 w0 w K g u L E S Q) (ht : Turn [K.b, K.p, g] w w') {E' : En} {S' : Nt} {u' : Nat} (hn : Nts w' K.b u' E') (hq : Qe w' w0.heap.size K.q K.p g' Q') (hok : ∀ x j, (E' x j = E x j ∧ S' x j = S x j) ∨ NoteOk17 w' w0.heap.size (E' x j) (S' x j)) : Sea17 w0 w' K g' u' L E' S' Q' := by
  have hlo := h.queue.lo
  have hlb := h.lob
  have hk : ∀ (A : Option Addr) (c : Nat) (r : List Int), AccI w w0.heap.size A c r → AccI w' w0.heap.size A c r := fun A c r ha =>
    accr_off11 ha ht (fun b hb => h.off (accr_ty ha hb) (by decide) (by decide))
  refine ⟨ht.bel h.bel (Nat.le_refl _) (by simp; omega), h.head.same (ht.block _ h.head.lt (h.off h.head.ty (by decide) (by decide))), accr_off11 h.links ht (fun b hb => h.off (accr_ty h.links hb) (by decide) (by decide)), hn, hq, h.lob, fun x j => ?_⟩
  rcases hok x j with ⟨e1, e2⟩ | e
  · rw [e1, e2]
    exact (h.ok x j).same hk
  · exact e
end

/-! ### small functions -/
theorem isnode17_calls (n a : Int) (w : World) : Calls Tryz.prog 43 #[.int .i64 n, .int .i64 a] w fun e w' => e = .returned (.bool (decide (0 ≤ a ∧ a < n))) ∧ w' = w := by
  by_cases h0 : 0 ≤ a
  · by_cases h1 : a < n
    · have e : decide (0 ≤ a ∧ a < n) = true := decide_eq_true ⟨h0, h1⟩
      rw [e]
      have g0 : decide (0 ≤ a) = true := decide_eq_true h0
      have g1 : decide (a < n) = true := decide_eq_true h1
      clear h0 h1 e
      go_enter Tryz.func43, Tryz.ntmps43
      go_wp2
      go_ret
      exact ⟨rfl, rfl⟩
    · have e : decide (0 ≤ a ∧ a < n) = false := decide_eq_false (fun h => h1 h.2)
      rw [e]
      have g0 : decide (0 ≤ a) = true := decide_eq_true h0
      have g1 : decide (a < n) = false := decide_eq_false h1
      clear h0 h1 e
      go_enter Tryz.func43, Tryz.ntmps43
      go_wp2
      go_ret
      exact ⟨rfl, rfl⟩
  · have e : decide (0 ≤ a ∧ a < n) = false := decide_eq_false (fun h => h0 h.1)
    rw [e]
    have g0 : decide (0 ≤ a) = false := decide_eq_false h0
    clear h0 e
    go_enter Tryz.func43, Tryz.ntmps43
    go_wp2
    go_ret
    exact ⟨rfl, rfl⟩

theorem most17_calls (x : Wn) (p : Pl) (h0 : 0 ≤ p.h) (w : World) : Calls Tryz.prog 26 #[.agg (akc x p).toArray] w fun e w' => e = .returned (.int .i64 (most17 p.h : Int)) ∧ Below w.heap.size w w' := by
  have HQ := Lib.hid (Blk.new w 60 (akc x p))
  have HL := Lib.hid (bel_new (Below.refl w.heap.size w) (.cells (akc x p).toArray 60))
  obtain ⟨H, hH⟩ : ∃ H, p.h = H := ⟨_, rfl⟩
  have hc9 : ∀ W, Blk W w.heap.size 60 (akc x p) → W.cell? ⟨w.heap.size, 9, none⟩ = some (.int .i64 H) := fun W h => by rw [← hH]; exact h.cell 9
  have C9 := Lib.hid hc9
  rw [hH] at h0 ⊢
  clear hc9 hH
  obtain ⟨v, hv⟩ : ∃ v, (most17 H : Int) = v := ⟨_, rfl⟩
  rw [hv]
  have HV := Lib.hid hv
  have H0 := Lib.hid h0
  clear hv h0
  go_enter Tryz.func26, Tryz.ntmps26
  go_upto_region 1 with fail
  generalize (w.alloc (.cells (akc x p).toArray 60)) = w1 at *
  have x9 := C9.out _ HQ.out
  by_cases hz : H = 0
  · have hv := HV.out
    unfold most17 at hv
    rw [if_pos hz] at hv
    subst hz
    subst hv
    clear HV H0
    go_wp2_with fail
    go_ret
    exact ⟨rfl, HL.out⟩
  · have hv := HV.out
    unfold most17 at hv
    rw [if_neg hz] at hv
    have hv2 : v = if 15 < H then 15 else H := by have := H0.out; split <;> omega
    have HV2 := Lib.hid hv2
    have q1 : (H == 0) = false := by simp; exact hz
    clear HV hv hv2 hz H0
    go_wp2_with fail
    all_goals
      go_ret
      refine ⟨?_, HL.out⟩
      rw [HV2.out]
      first
        | (rw [if_pos (by omega)]; rfl)
        | (rw [if_neg (by omega)]; rfl)

theorem extend17_calls (a : Option Addr) (n ca : Nat) (r : List Int) (t : Int) (w : World) (h : Row ei w w.heap.size a n r) (h1 : 1 ≤ n) (hca : n ≤ ca) (hn : n ≤ 1073741824) :
    Calls Tryz.prog 52 #[.slice a n ca, .int .i64 t] w fun e w' => ∃ A c', e = .returned (.slice A (r.length + 1) c') ∧ AccI w' w.heap.size A c' (r ++ [t]) ∧ Below w.heap.size w w' := by
  obtain ⟨b, o, rfl, hb, hc⟩ := row_int h (by omega)
  have hrl := h.1
  have X := Lib.hid (Blk.new w 3 [.int .i64 t])
  have hb1 := bel_new (Below.refl w.heap.size w) (.cells #[.int .i64 t] 3)
  have hsz : (w.alloc (.cells #[.int .i64 t] 3)).heap.size = w.heap.size + 1 := by simp
  obtain ⟨i0, hi, hzz⟩ := Option.map_eq_some_iff.1 infoInt
  simp only [Prod.mk.injEq] at hzz
  obtain ⟨v', w', hrun, hown, hgr⟩ := run_append_arg_grows (P := Tryz.prog) (w.alloc (.cells #[.int .i64 t] 3)) 54 54 3 i0 (.int .i64 0) 1 8 Tryz.underlying54 hi hzz.1 hzz.2.1 hzz.2.2 rfl (by omega)
    ⟨b, o, none⟩ n n (r.map (Value.int .i64)) (by simp [hrl]) (fun j u hu => by
      rw [Addr.add_lit]
      have hj : j < r.length := by have := (List.getElem?_eq_some_iff.1 hu).1; simpa using this
      rw [hb1.cell (p := ⟨b, o + j, none⟩) hb, hc j hj]
      rw [List.getElem?_map, List.getElem?_eq_getElem hj] at hu
      exact hu)
    ⟨w.heap.size, 0, none⟩ 1 1 [.int .i64 t] rfl (fun j u hu => by
      rw [Addr.add_lit, Nat.zero_add, X.out.cell j]; exact hu) (by omega) (by unfold maxLen; omega) (by omega)
  have hfin : ∃ A c', v' = .slice A (n + 1) c' ∧ AccI w' w.heap.size A c' (r ++ [t]) := by
    have ho := hown
    rcases ho.2 with ⟨_, h0⟩ | ⟨g, cap, cur, rfl, hge, hh⟩
    · omega
    · refine ⟨_, _, rfl, ?_⟩
      unfold AccI AccR
      rw [ei_flat, List.map_append, List.length_append, List.length_singleton, hrl]
      exact ⟨hown.1, .inr ⟨g, cap, cur, rfl, by omega, hh⟩⟩
  obtain ⟨A', c', rfl, hacc⟩ := hfin
  have hbel : Below w.heap.size w w' := hb1.grown hgr (by rw [hsz]; omega) (fun k hk => by cases hk)
  have R := Lib.hid hrun
  have ACC := Lib.hid hacc
  have BEL := Lib.hid hbel
  have HRL := Lib.hid hrl
  have HCA := Lib.hid hca
  have k1 : (n : Int) ≤ (ca : Int) := by omega
  clear hc hb1 hsz hi hzz hrun hown hgr hacc hbel hrl X h hb
  go_enter Tryz.func52, Tryz.ntmps52
  go_wp2_with (at_builtin; refine step_append rfl rfl rfl rfl R.out ?_)
  go_ret
  exact ⟨A', c', by rw [HRL.out]; rfl, ACC.out, BEL.out⟩
end Go.Proofs.YtjflbfianncpfaaGreat
