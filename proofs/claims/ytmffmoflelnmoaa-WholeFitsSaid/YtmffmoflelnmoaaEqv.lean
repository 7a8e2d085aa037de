/-
  Arrays and structs of whole numbers, truths and texts, to any depth, are compared: the answer is whether their cells are the same. No condition.
-/
import Derived.DeepKeys
import Derived.Test.YtmffmoflelnmoaaSeq
namespace Go.Proofs.Ytmffmoflelnmoaa
set_option maxRecDepth 100000

/-- The cells of a value of such a type; none: it isn't of that shape. -/
def cellsE (P : Program) : Nat → TypeId → List Value → Option (List Value)
  | 0, _, _ => none
  | d + 1, t, cs =>
    match P.underlying t with
    | some .bool => (match cs with | [.bool b] => if P.cellsOf t = 1 then some [.bool b] else none | _ => none)
    | some (.int q) => (match cs with | [.int k n] => if k = q ∧ P.cellsOf t = 1 then some [.int k n] else none | _ => none)
    | some .string => (match cs with | [.string s] => if P.cellsOf t = 1 then some [.string s] else none | _ => none)
    | some (.array n e) => if cs.length = P.cellsOf t then ((List.range n).mapM fun i => cellsE P d e ((cs.drop (i * P.cellsOf e)).take (P.cellsOf e))).bind fun ls => if ls.flatten.length = P.cellsOf t then some ls.flatten else none else none
    | some (.struct fs) => if cs.length = P.cellsOf t then (fs.toList.mapM fun f => cellsE P d f.type ((cs.drop f.offset).take (P.cellsOf f.type))).bind fun ls => if ls.flatten.length = P.cellsOf t then some ls.flatten else none else none
    | _ => none

section
variable {P : Program}
theorem cellsE_len {D : Nat} {t : TypeId} {cs l : List Value} (h : cellsE P D t cs = some l) : l.length = P.cellsOf t ∧ cs.length = P.cellsOf t := by
  cases D with
  | zero => simp [cellsE] at h
  | succ D =>
    unfold cellsE at h
    split at h
    · split at h
      · split at h
        · cases h; rename_i hc; exact ⟨hc.symm, hc.symm⟩
        · cases h
      · cases h
    · split at h
      · split at h
        · cases h; rename_i hc; exact ⟨hc.2.symm, hc.2.symm⟩
        · cases h
      · cases h
    · split at h
      · split at h
        · cases h; rename_i hc; exact ⟨hc.symm, hc.symm⟩
        · cases h
      · cases h
    · split at h
      · rename_i hc
        simp only [Option.bind_eq_some_iff] at h
        obtain ⟨ls, _, h2⟩ := h
        split at h2
        · rename_i hf; cases h2; exact ⟨hf, hc⟩
        · cases h2
      · cases h
    · split at h
      · rename_i hc
        simp only [Option.bind_eq_some_iff] at h
        obtain ⟨ls, _, h2⟩ := h
        split at h2
        · rename_i hf; cases h2; exact ⟨hf, hc⟩
        · cases h2
      · cases h
    · cases h

/-- What is compared: two values of one type with these cells. -/
def EqE (P : Program) (dd : Nat) (e : TypeId) : Prop :=
  ∀ (w : World) (D D' : Nat) (a b : Value) (la lb : List Value), a.formed P e = true → b.formed P e = true → cellsE P D e a.cells.toList = some la → cellsE P D' e b.cells.toList = some lb →
    ∃ r : Bool, (Op.equalIn dd e a b).run P w = .ok r w ∧ (r = true ↔ la = lb)

/-- The part of a value that is of such a type. -/
theorem part_E {e : TypeId} {D off : Nat} {xs : Array Value} {la : List Value} (w : World) (h : cellsE P D e ((xs.toList.drop off).take (P.cellsOf e)) = some la) :
    ∃ a, (part e xs off).run P w = .ok a w ∧ a.formed P e = true ∧ a.cells.toList = (xs.toList.drop off).take (P.cellsOf e) := by
  have hlen := (cellsE_len h).2
  have hl : (xs.extract off (off + P.cellsOf e)).toList = (xs.toList.drop off).take (P.cellsOf e) := by
    rw [Array.toList_extract]
    simp [List.extract]
  have hs : (xs.extract off (off + P.cellsOf e)).size = P.cellsOf e := by rw [← Array.length_toList, hl, hlen]
  cases D with
  | zero => simp [cellsE] at h
  | succ D =>
    unfold cellsE at h
    split at h
    · rename_i hu
      split at h
      · rename_i b hc
        exact ⟨.bool b, run_part_plain w (by simp [Program.plainKey, hu]) (getElem?_of_chunk hc), by simp [Value.formed, hu], by rw [hc]; rfl⟩
      · cases h
    · rename_i q hu
      split at h
      · rename_i k n hc
        exact ⟨.int k n, run_part_plain w (by simp [Program.plainKey, hu]) (getElem?_of_chunk hc), by simp [Value.formed, hu], by rw [hc]; rfl⟩
      · cases h
    · rename_i hu
      split at h
      · rename_i s hc
        exact ⟨.string s, run_part_plain w (by simp [Program.plainKey, hu]) (getElem?_of_chunk hc), by simp [Value.formed, hu], by rw [hc]; rfl⟩
      · cases h
    · rename_i n e' hu
      obtain ⟨i, hi⟩ := info_of_underlying hu
      exact ⟨.agg (xs.extract off (off + P.cellsOf e)), by simp [part, isAgg, run_underlying hu, run_sizeOf w hi], by simp [Value.formed, hu, hs], hl⟩
    · rename_i fs hu
      obtain ⟨i, hi⟩ := info_of_underlying hu
      exact ⟨.agg (xs.extract off (off + P.cellsOf e)), by simp [part, isAgg, run_underlying hu, run_sizeOf w hi], by simp [Value.formed, hu, hs], hl⟩
    · cases h

theorem app_iff {a b c d : List Value} (h : a.length = b.length) : a ++ c = b ++ d ↔ a = b ∧ c = d :=
  ⟨fun e => List.append_inj e h, fun ⟨e1, e2⟩ => by rw [e1, e2]⟩

theorem step_E {e : TypeId} {dd : Nat} (IH : EqE P dd e) {D D' off : Nat} {xs ys : Array Value} {la lb : List Value} (w : World)
    (ha : cellsE P D e ((xs.toList.drop off).take (P.cellsOf e)) = some la) (hb : cellsE P D' e ((ys.toList.drop off).take (P.cellsOf e)) = some lb) :
    ∃ a b r, (part e xs off).run P w = .ok a w ∧ (part e ys off).run P w = .ok b w ∧ (Op.equalIn dd e a b).run P w = .ok r w ∧ (r = true ↔ la = lb) ∧ la.length = lb.length := by
  obtain ⟨a, p1, f1, c1⟩ := part_E w ha
  obtain ⟨b, p2, f2, c2⟩ := part_E w hb
  obtain ⟨r, hr, hiff⟩ := IH w D D' a b la lb f1 f2 (by rw [c1]; exact ha) (by rw [c2]; exact hb)
  exact ⟨a, b, r, p1, p2, hr, hiff, by rw [(cellsE_len ha).1, (cellsE_len hb).1]⟩

theorem fields_E (dd : Nat) (xs ys : Array Value) {D D' : Nat} (w : World) : ∀ (fs : List Field) (us vs : List (List Value)), (∀ f ∈ fs, f.name ≠ "_" ∧ EqE P dd f.type) →
    fs.mapM (fun f => cellsE P D f.type ((xs.toList.drop f.offset).take (P.cellsOf f.type))) = some us → fs.mapM (fun f => cellsE P D' f.type ((ys.toList.drop f.offset).take (P.cellsOf f.type))) = some vs →
    ∃ r : Bool, (Op.eqFields dd xs ys fs).run P w = .ok r w ∧ (r = true ↔ us.flatten = vs.flatten)
  | [], us, bs, _, ha, hb => by
    simp at ha hb
    subst ha; subst hb
    exact ⟨true, by simp [Op.eqFields], by simp⟩
  | f :: fs, us, bs, hall, ha, hb => by
    rw [List.mapM_cons] at ha hb
    simp only [bind, Option.bind_eq_some_iff, pure, Option.some.injEq] at ha hb
    obtain ⟨la, ha1, us', ha2, rfl⟩ := ha
    obtain ⟨lb, hb1, vs', hb2, rfl⟩ := hb
    obtain ⟨hn, hp⟩ := hall f (by simp)
    obtain ⟨a, b, r, p1, p2, p3, hiff, hlen⟩ := step_E hp w ha1 hb1
    obtain ⟨r', hr', hiff'⟩ := fields_E dd xs ys w fs us' vs' (fun g hg => hall g (by simp [hg])) ha2 hb2
    simp only [Op.eqFields, hn, ne_eq, not_false_eq_true, if_true, Sem.run_bind, p1, p2, p3, Result.andThen_ok, List.flatten_cons, app_iff hlen]
    cases r
    · exact ⟨false, by simp, by simp; intro e; exact absurd (hiff.2 e) (by simp)⟩
    · exact ⟨r', by simpa using hr', by rw [hiff']; simp [hiff.1 rfl]⟩

theorem items_E (dd : Nat) {e : TypeId} (IH : EqE P dd e) (xs ys : Array Value) {D D' : Nat} (w : World) : ∀ (is : List Nat) (us vs : List (List Value)),
    is.mapM (fun i => cellsE P D e ((xs.toList.drop (i * P.cellsOf e)).take (P.cellsOf e))) = some us → is.mapM (fun i => cellsE P D' e ((ys.toList.drop (i * P.cellsOf e)).take (P.cellsOf e))) = some vs →
    ∃ r : Bool, (Op.eqItems dd e (P.cellsOf e) xs ys is).run P w = .ok r w ∧ (r = true ↔ us.flatten = vs.flatten)
  | [], us, bs, ha, hb => by
    simp at ha hb
    subst ha; subst hb
    exact ⟨true, by simp [Op.eqItems], by simp⟩
  | i :: is, us, bs, ha, hb => by
    rw [List.mapM_cons] at ha hb
    simp only [bind, Option.bind_eq_some_iff, pure, Option.some.injEq] at ha hb
    obtain ⟨la, ha1, us', ha2, rfl⟩ := ha
    obtain ⟨lb, hb1, vs', hb2, rfl⟩ := hb
    obtain ⟨a, b, r, p1, p2, p3, hiff, hlen⟩ := step_E IH w ha1 hb1
    obtain ⟨r', hr', hiff'⟩ := items_E dd IH xs ys w is us' vs' ha2 hb2
    simp only [Op.eqItems, Sem.run_bind, p1, p2, p3, Result.andThen_ok, List.flatten_cons, app_iff hlen]
    cases r
    · exact ⟨false, by simp, by simp; intro e; exact absurd (hiff.2 e) (by simp)⟩
    · exact ⟨r', by simpa using hr', by rw [hiff']; simp [hiff.1 rfl]⟩

/-- The comparison at a type of such a shape. -/
theorem equal_E (d : Nat) : ∀ (m : Nat) (t : TypeId), P.keyTypeAt m t = true → EqE P (d + m) t
  | 0, _, h => by simp [Program.keyTypeAt] at h
  | m + 1, t, hk => by
    intro w D D' x y lx ly fx fy hx hy
    unfold Program.keyTypeAt at hk
    cases D with
    | zero => simp [cellsE] at hx
    | succ D =>
    cases D' with
    | zero => simp [cellsE] at hy
    | succ D' =>
    unfold cellsE at hx hy
    cases hu : P.underlying t with
    | none => simp [hu] at hk
    | some kd =>
      cases kd
      case bool =>
        simp only [hu] at hx hy
        split at hx
        · rename_i a ha
          split at hy
          · rename_i b hb
            by_cases c1 : P.cellsOf t = 1
            · rw [if_pos c1] at hx hy
              cases hx; cases hy
              have ex : x = .bool a := by cases x <;> simp_all [Value.cells, Value.formed]
              have ey : y = .bool b := by cases y <;> simp_all [Value.cells, Value.formed]
              rw [ex, ey]
              exact ⟨a == b, run_equalIn_bool w (d + m) t a b hu, by simp⟩
            · rw [if_neg c1] at hx
              cases hx
          · cases hy
        · cases hx
      case int q =>
        simp only [hu] at hx hy
        split at hx
        · rename_i k a ha
          split at hy
          · rename_i k' b hb
            split at hx
            · rename_i c1
              split at hy
              · rename_i c2
                cases hx; cases hy
                obtain ⟨rfl, _⟩ := c1
                obtain ⟨rfl, _⟩ := c2
                have ex : x = .int k' a := by cases x <;> simp_all [Value.cells, Value.formed]
                have ey : y = .int k' b := by cases y <;> simp_all [Value.cells, Value.formed]
                rw [ex, ey]
                exact ⟨a == b, run_equalIn_int w (d + m) t k' k' a b hu, by simp⟩
              · cases hy
            · cases hx
          · cases hy
        · cases hx
      case string =>
        simp only [hu] at hx hy
        split at hx
        · rename_i a ha
          split at hy
          · rename_i b hb
            by_cases c1 : P.cellsOf t = 1
            · rw [if_pos c1] at hx hy
              cases hx; cases hy
              have ex : x = .string a := by cases x <;> simp_all [Value.cells, Value.formed]
              have ey : y = .string b := by cases y <;> simp_all [Value.cells, Value.formed]
              rw [ex, ey]
              refine ⟨a.toList == b.toList, run_equalIn_string w (d + m) t a b hu, ?_⟩
              rw [beq_iff_eq, ByteArray.toList_eq, ByteArray.toList_eq]
              constructor
              · intro h
                have e : a = b := by
                  obtain ⟨⟨a⟩⟩ := a
                  obtain ⟨⟨b⟩⟩ := b
                  simp at h
                  rw [h]
                rw [e]
              · intro h
                cases h
                rfl
            · rw [if_neg c1] at hx
              cases hx
          · cases hy
        · cases hx
      case array n e =>
        simp only [hu] at hk hx hy
        cases x <;> simp only [Value.formed, hu, Bool.false_eq_true] at fx
        cases y <;> simp only [Value.formed, hu, Bool.false_eq_true] at fy
        rename_i xs ys
        split at hx
        · split at hy
          · simp only [Option.bind_eq_some_iff, Value.cells] at hx hy
            obtain ⟨us, ha, ga⟩ := hx
            obtain ⟨vs, hb, gb⟩ := hy
            split at ga
            · split at gb
              · cases ga; cases gb
                have hpe : ∃ i, P.info? e = some i := by
                  cases m with
                  | zero => simp [Program.keyTypeAt] at hk
                  | succ m' =>
                    unfold Program.keyTypeAt at hk
                    cases hue : P.underlying e with
                    | none => simp [hue] at hk
                    | some _ => exact info_of_underlying hue
                obtain ⟨i, hi⟩ := hpe
                obtain ⟨r, hr, hiff⟩ := items_E (d + m) (equal_E d m e hk) xs ys w (List.range n) us vs ha hb
                exact ⟨r, by rw [show d + (m + 1) = (d + m) + 1 from rfl, run_equalIn_array w (d + m) xs ys hu hi]; exact hr, hiff⟩
              · cases gb
            · cases ga
          · cases hy
        · cases hx
      case struct fs =>
        simp only [hu, Bool.and_eq_true, Bool.not_eq_true'] at hk hx hy
        cases x <;> simp only [Value.formed, hu, Bool.false_eq_true] at fx
        cases y <;> simp only [Value.formed, hu, Bool.false_eq_true] at fy
        rename_i xs ys
        split at hx
        · split at hy
          · simp only [Option.bind_eq_some_iff, Value.cells] at hx hy
            obtain ⟨us, ha, ga⟩ := hx
            obtain ⟨vs, hb, gb⟩ := hy
            split at ga
            · split at gb
              · cases ga; cases gb
                have hfs : P.fieldsOf t = fs := by simp [Program.fieldsOf, hu]
                obtain ⟨r, hr, hiff⟩ := fields_E (d + m) xs ys w fs.toList us vs (fun f hf => by
                  have := Array.all_eq_true_iff_forall_mem.1 hk.1.1 f (Array.mem_toList_iff.1 hf)
                  simp only [Bool.and_eq_true, bne_iff_ne, ne_eq] at this
                  exact ⟨this.1, equal_E d m f.type this.2⟩) ha hb
                exact ⟨r, by rw [show d + (m + 1) = (d + m) + 1 from rfl, run_equalIn_struct w (d + m) t xs ys (by rw [hfs]; exact hu) hk.2, hfs]; exact hr, hiff⟩
              · cases gb
            · cases ga
          · cases hy
        · cases hx
      all_goals (simp [hu] at hk; done)

/-- Two aggregates of one shape: '==' tells whether their cells are the same. -/
theorem eql_E {t : TypeId} {m : Nat} (hm : m ≤ 10000) (hk : P.keyTypeAt m t = true) {xs ys la lb : List Value} {D : Nat} (fx : (Value.agg xs.toArray).formed P t = true) (fy : (Value.agg ys.toArray).formed P t = true) (hx : cellsE P D t xs = some la) (hy : cellsE P D t ys = some lb) (w : World) (c : Bool) (hc : c = true ↔ la = lb) :
    (binOp .eql t (.agg xs.toArray) (.agg ys.toArray)).run P w = .ok (.bool c) w ∧ (binOp .neq t (.agg xs.toArray) (.agg ys.toArray)).run P w = .ok (.bool (!c)) w := by
  obtain ⟨r, hr, hiff⟩ := equal_E (P := P) (10000 - m) m t hk w D D (.agg xs.toArray) (.agg ys.toArray) la lb fx fy (by simpa [Value.cells] using hx) (by simpa [Value.cells] using hy)
  rw [show 10000 - m + m = 10000 by omega] at hr
  have e : r = c := Bool.eq_iff_iff.2 (hiff.trans hc.symm)
  subst e
  constructor
  · rw [run_eql_struct, hr]; rfl
  · rw [run_neq_struct, hr]; rfl
end
theorem exec_eqA {P : Program} {T : TypeId} {o : Oper} {a : Act} {x y : Operand} {xs ys : List Value} {c : Bool} (ho : o.op = .binOp .eql T x y T) (hx : a.eval x = .agg xs.toArray) (hy : a.eval y = .agg ys.toArray) (hg : P.eqGuardType P.depth T = false)
    (hr : ∀ w, (binOp .eql T (.agg xs.toArray) (.agg ys.toArray)).run P w = .ok (.bool c) w) (w : World) : (execOp a.eval o).run P w = .ok (.value (.bool c)) w := by
  unfold execOp
  simp only [ho, hx, hy]
  simp only [Sem.run_bind, run_eqGuard_agg _ _ _ _ _ _ _ hg, Result.andThen_ok, hr, Sem.run_pure]
theorem seq_eqA {P : Program} {ops : Array Oper} {Q : Exit → Act → World → Prop} {S : World → Prop} {i : Nat} {r : List (Nat × Bool)} {a : Act} {w : World} {o : Oper} {T : TypeId} {x y : Operand} {xs ys : List Value} {c : Bool} (ho : ops.toList[i]? = some o) (hw : Region.wanted o (yielded ops a.tmps) = true)
    (hop : o.op = .binOp .eql T x y T) (hx : a.eval x = .agg xs.toArray) (hy : a.eval y = .agg ys.toArray) (hg : P.eqGuardType P.depth T = false) (hr : ∀ w, (binOp .eql T (.agg xs.toArray) (.agg ys.toArray)).run P w = .ok (.bool c) w)
    (h : wpSeq P ops Q S r (a.put o.dst (.bool c)) w) : wpSeq P ops Q S ((i, true) :: r) a w :=
  seq_pure ho hw (fun W _ => exec_eqA hop hx hy hg hr W) h
theorem exec_neA {P : Program} {T : TypeId} {o : Oper} {a : Act} {x y : Operand} {xs ys : List Value} {c : Bool} (ho : o.op = .binOp .neq T x y T) (hx : a.eval x = .agg xs.toArray) (hy : a.eval y = .agg ys.toArray) (hg : P.eqGuardType P.depth T = false)
    (hr : ∀ w, (binOp .neq T (.agg xs.toArray) (.agg ys.toArray)).run P w = .ok (.bool c) w) (w : World) : (execOp a.eval o).run P w = .ok (.value (.bool c)) w := by
  unfold execOp
  simp only [ho, hx, hy]
  simp only [Sem.run_bind, run_eqGuard_agg _ _ _ _ _ _ _ hg, Result.andThen_ok, hr, Sem.run_pure]
theorem seq_neA {P : Program} {ops : Array Oper} {Q : Exit → Act → World → Prop} {S : World → Prop} {i : Nat} {r : List (Nat × Bool)} {a : Act} {w : World} {o : Oper} {T : TypeId} {x y : Operand} {xs ys : List Value} {c : Bool} (ho : ops.toList[i]? = some o) (hw : Region.wanted o (yielded ops a.tmps) = true)
    (hop : o.op = .binOp .neq T x y T) (hx : a.eval x = .agg xs.toArray) (hy : a.eval y = .agg ys.toArray) (hg : P.eqGuardType P.depth T = false) (hr : ∀ w, (binOp .neq T (.agg xs.toArray) (.agg ys.toArray)).run P w = .ok (.bool c) w)
    (h : wpSeq P ops Q S r (a.put o.dst (.bool c)) w) : wpSeq P ops Q S ((i, true) :: r) a w :=
  seq_pure ho hw (fun W _ => exec_neA hop hx hy hg hr W) h
end Go.Proofs.Ytmffmoflelnmoaa
