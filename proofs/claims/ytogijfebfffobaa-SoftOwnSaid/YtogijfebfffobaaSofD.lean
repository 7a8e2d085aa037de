/-
  A slice in a block of its own into which one value is put (what slices.Insert does), and out of which one is struck; the same for package soft's states. Condition: at most 2^20 values.
-/
import Derived.Test.YtogijfebfffobaaSofB
import Derived.Lib.Overlaps
import Derived.Lib.AppendZerosOnto
import Derived.Great.BuildSlice
namespace Go.Proofs.Ytogijfebfffobaa
set_option maxRecDepth 100000
set_option linter.unusedVariables false
open Go.RowKit

/-- A copy whose outcome is known, inside a region whose order is drawn, and as a step of the walk. -/
theorem op_copy18 {P : Program} {w w' : World} {o : Oper} {a : Act} {K : Act → World → Prop} {Q : Exit → Act → World → Prop} {s x : Operand} {t t' : TypeId} {u v v' : Value}
    (ho : o.op = .call { callee := .builtin .copy, args := #[s, x], argTypes := #[t, t'] }) (hs : a.eval s = u) (hx : a.eval x = v)
    (hrun : (Builtin.copy_ #[t, t'] o.type #[u, v]).run P w = .ok v' w') (h : K (a.put o.dst v') w') : o.wp P a w K Q := by
  unfold Oper.wp execOp
  simp only [ho, resolve, invoke, builtin, Sem.run_bind, Sem.run_pure, Result.andThen_ok, List.map_toArray, List.map_cons, List.map_nil, hs, hx, hrun]
  exact h
theorem step_copy18 {P : Program} {w w' : World} {ops : Array Oper} {rest : List Oper} {o : Oper} {a : Act} {Q : Exit → Act → World → Prop} {s x : Operand} {t t' : TypeId} {u v v' : Value} (hgd : o.guard = none)
    (ho : o.op = .call { callee := .builtin .copy, args := #[s, x], argTypes := #[t, t'] }) (hs : a.eval s = u) (hx : a.eval x = v)
    (hrun : (Builtin.copy_ #[t, t'] o.type #[u, v]).run P w = .ok v' w') (h : wpList P ops Q rest (a.put o.dst v') w') : wpList P ops Q (o :: rest) a w :=
  wpList_plain hgd fun K hK => op_copy18 ho hs hx hrun (hK _ _ h)
theorem fold_set18 : ∀ (vs : List Value) (k : Nat) (p s : List Value), p.length = k → vs.length = s.length → ((vs.zipIdx k).foldl (fun (cs : Array Value) (x : Value × Nat) => cs.setIfInBounds x.2 x.1) (p ++ s).toArray) = (p ++ vs).toArray
  | [], k, p, s, _, h => by
    obtain rfl : s = [] := List.eq_nil_of_length_eq_zero h.symm
    rfl
  | v :: vs, k, p, [], _, h => by simp at h
  | v :: vs, k, p, y :: s, hp, h => by
    have e : (p ++ y :: s).toArray.setIfInBounds k v = ((p ++ [v]) ++ s).toArray := by
      rw [List.setIfInBounds_toArray, List.set_append_right _ _ (by omega), hp, Nat.sub_self, List.set_cons_zero, List.append_assoc, List.singleton_append]
    have ih := fold_set18 vs (k + 1) (p ++ [v]) s (by rw [List.length_append, hp]; rfl) (by simpa using h)
    rw [List.zipIdx_cons, List.foldl_cons]
    show ((vs.zipIdx (k + 1)).foldl _ ((p ++ y :: s).toArray.setIfInBounds k v)) = _
    rw [e, ih, List.append_assoc, List.singleton_append]
/-- A slice literal of one struct: what it makes. -/
theorem run_build18 {P : Program} {t e : TypeId} {vs : List Value} {z : Value} {bytes : Nat} (hu : P.underlying t = some (.slice e)) (hinfo : (P.info? e).map (fun i => (i.zero, i.size, i.bytes)) = some (some z, vs.length, bytes)) (hsm : vs.length ≤ 16777216) (h0 : 0 < vs.length) (w : World) :
    (Instr.buildSlice t 1 #[(0, .agg vs.toArray)]).run P w = .ok (.slice (some ⟨w.heap.size, 0, none⟩) 1 1) (w.alloc (.cells vs.toArray e)) := by
  obtain ⟨i, hi, hzz⟩ := Option.map_eq_some_iff.1 hinfo
  simp only [Prod.mk.injEq] at hzz
  obtain ⟨hz, hs, _⟩ := hzz
  refine run_buildSlice w t e 1 _ vs.toArray i z hu hi hz (by rw [hs]; omega) (by rw [hs]; omega) ?_
  simp only [Instr.fill, hs, Nat.zero_mul, Nat.one_mul, Nat.zero_add, Value.cells, List.size_toArray, Array.size_map, Array.size_range]
  rw [if_neg (by simp)]
  congr 1
  obtain ⟨Z, hZ⟩ : ∃ Z : Array Value, (Array.range vs.length).map (z.cells[· % z.cells.size]!) = Z := ⟨_, rfl⟩
  have hl : Z.toList.length = vs.length := by rw [← hZ]; simp
  have hf := fold_set18 vs 0 [] Z.toList rfl hl.symm
  rw [List.nil_append, List.nil_append, Array.toArray_toList] at hf
  have e : (vs.toArray.zipIdx.foldl (fun (cs : Array Value) (x : Value × Nat) => cs.setIfInBounds x.2 x.1) Z) = vs.toArray := by
    rw [← Array.foldl_toList, Array.toList_zipIdx]
    exact hf
  exact (congrArg (fun Y => vs.toArray.zipIdx.foldl (fun (cs : Array Value) (x : Value × Nat) => cs.setIfInBounds x.2 x.1) Y) hZ).trans e
theorem op_build18 {P : Program} {w : World} {o : Oper} {a : Act} {K : Act → World → Prop} {Q : Exit → Act → World → Prop} {x : Operand} {t e : TypeId} {vs : List Value} {z : Value} {bytes : Nat}
    (ho : o.op = .buildSlice t 1 #[(0, x)]) (hx : a.eval x = .agg vs.toArray) (hu : P.underlying t = some (.slice e)) (hinfo : (P.info? e).map (fun i => (i.zero, i.size, i.bytes)) = some (some z, vs.length, bytes)) (hsm : vs.length ≤ 16777216) (h0 : 0 < vs.length)
    (h : K (a.put o.dst (.slice (some ⟨w.heap.size, 0, none⟩) 1 1)) (w.alloc (.cells vs.toArray e))) : o.wp P a w K Q := by
  have hr := run_build18 hu hinfo hsm h0 w
  unfold Oper.wp execOp
  simp only [ho, List.map_toArray, List.map_cons, List.map_nil, hx, Sem.run_bind, hr, Result.andThen_ok]
  exact h
theorem step_build18 {P : Program} {w : World} {ops : Array Oper} {rest : List Oper} {o : Oper} {a : Act} {Q : Exit → Act → World → Prop} {x : Operand} {t e : TypeId} {vs : List Value} {z : Value} {bytes : Nat} (hgd : o.guard = none)
    (ho : o.op = .buildSlice t 1 #[(0, x)]) (hx : a.eval x = .agg vs.toArray) (hu : P.underlying t = some (.slice e)) (hinfo : (P.info? e).map (fun i => (i.zero, i.size, i.bytes)) = some (some z, vs.length, bytes)) (hsm : vs.length ≤ 16777216) (h0 : 0 < vs.length)
    (h : wpList P ops Q rest (a.put o.dst (.slice (some ⟨w.heap.size, 0, none⟩) 1 1)) (w.alloc (.cells vs.toArray e))) : wpList P ops Q (o :: rest) a w :=
  wpList_plain hgd fun K hK => op_build18 ho hx hu hinfo hsm h0 (hK _ _ h)
/-- A copy of values of k cells each into a block. -/
theorem copy_rows18 {P : Program} {w : World} {dT sT ty E : TypeId} {k : Nat} {g o dLen dCap : Nat} {a : Addr} {sLen sCap : Nat} {cur : Array Value} {t : TypeId} {cs : List Value} {m : Nat}
    (hu : P.underlying dT = some (.slice E)) (hs : (P.info? E).map (·.size) = some k) (hg : w.heap[g]? = some (.cells cur t (0, 0))) (hm : Nat.min sLen dLen = m) (hn : cs.length = m * k)
    (hsrc : ∀ j v, cs[j]? = some v → w.cell? (a.add j) = some v) (hfit : o + cs.length ≤ cur.size) (h1 : ∀ v ∈ cs, v.oneCell' = true) :
    (Builtin.copy_ #[dT, sT] ty #[.slice (some ⟨g, o, none⟩) dLen dCap, .slice (some a) sLen sCap]).run P w =
      .ok (.int .i64 (m : Int)) (w.setRow g (cur.toList.take o ++ cs ++ cur.toList.drop (o + cs.length)).toArray) := by
  have hf := run_firstCells_some (P := P) w k m a sLen sCap cs hn hsrc
  have hst := run_storeCells_at P g o t cs 0 cur w hg (by simpa using hfit) h1
  simp only [Nat.add_zero] at hst
  cases hq : P.info? E with
  | none => simp [hq] at hs
  | some i =>
    have hi : i.size = k := by simpa [hq] using hs
    simp [Builtin.copy_, run_underlying hu, Builtin.lenOf, sizeOf, typeInfo, hq, hi, hm, hf, hst, goInt]
theorem shape18 {w : World} {q : Nat} {T : TypeId} {vs : List Value} (h : Blk w q T vs) : w.shape? q = some (T, vs.length) := by
  unfold Blk at h; simp [World.shape?, h]
theorem list_shift18 {xs ys zs R : List Value} {k p : Nat} (hp : xs.length = p) (hz : zs.length = k) (hR : k ≤ R.length) :
    let cur := xs ++ (ys ++ R)
    let cur1 := cur.take (p + k) ++ ys ++ cur.drop (p + k + ys.length)
    cur1.take p ++ zs ++ cur1.drop (p + k) = xs ++ (zs ++ (ys ++ R.drop k)) := by
  intro cur cur1
  have h1 : cur1.take p = xs := by
    show ((cur.take (p + k) ++ ys ++ cur.drop (p + k + ys.length)).take p) = xs
    rw [List.append_assoc, List.take_append_of_le_length (by simp only [cur, List.length_take, List.length_append, hp]; omega), List.take_take, Nat.min_eq_left (by omega)]
    show (xs ++ (ys ++ R)).take p = xs
    rw [← hp, List.take_left]
  have hl : (cur.take (p + k)).length = p + k := by simp only [cur, List.length_take, List.length_append, hp]; omega
  have h2 : cur1.drop (p + k) = ys ++ R.drop k := by
    show ((cur.take (p + k) ++ ys ++ cur.drop (p + k + ys.length)).drop (p + k)) = _
    rw [List.append_assoc, List.drop_left' hl]
    congr 1
    show (xs ++ (ys ++ R)).drop (p + k + ys.length) = R.drop k
    rw [show p + k + ys.length = xs.length + (ys.length + k) by omega, List.drop_length_add_append, List.drop_length_add_append]
  rw [h1, h2, List.append_assoc]
section
variable {α : Type} {enc : α → List Value} {k base c g : Nat} {w w' : World} {T : TypeId} {A : Option Addr} {l : List α}
theorem flat_one18 (h1 : ∀ x, ∀ u ∈ enc x, u.oneCell' = true) (l : List α) : ∀ u ∈ l.flatMap enc, u.oneCell' = true := by
  intro u hu; obtain ⟨x, _, hx⟩ := List.mem_flatMap.1 hu; exact h1 x u hx
/-- One value more in the midst: there is room. -/
theorem accr_shift18 {P : Program} (hk : ∀ x, (enc x).length = k) (h1 : ∀ x, ∀ u ∈ enc x, u.oneCell' = true) (h : AccR enc k w base T (some ⟨g, 0, none⟩) c l) (x : α) {i : Nat} (hi : i < l.length) (hc : l.length + 1 ≤ c)
    {ST : TypeId} (ht : P.underlying ST = some (.slice T)) (hs : (P.info? T).map (·.size) = some k) {vb : Nat} (hv : ∀ j u, (enc x)[j]? = some u → w.cell? ⟨vb, j, none⟩ = some u) (hne : vb ≠ g) :
    ∃ w1 w2, (∀ ty dc sc, (Builtin.copy_ #[ST, ST] ty #[.slice (some ⟨g, (i + 1) * k, none⟩) (l.length - i) dc, .slice (some ⟨g, i * k, none⟩) (l.length + 1 - i) sc]).run P w = .ok (.int .i64 ((l.length - i : Nat) : Int)) w1) ∧
      (∀ ty dc sc, (Builtin.copy_ #[ST, ST] ty #[.slice (some ⟨g, i * k, none⟩) (l.length + 1 - i) dc, .slice (some ⟨vb, 0, none⟩) 1 sc]).run P w1 = .ok (.int .i64 1) w2) ∧
      AccR enc k w2 base T (some ⟨g, 0, none⟩) c (l.take i ++ x :: l.drop i) ∧ w.grownBy w2 (some g) := by
  obtain ⟨cur, hh, hn, hm, hsz, hx, hg⟩ := h.open
  have hfl := flat_length hk l
  have hft := flat_length hk (l.take i)
  have hfd := flat_length hk (l.drop i)
  rw [List.length_take, Nat.min_eq_left (by omega)] at hft
  rw [List.length_drop] at hfd
  have hmul : i * k + (l.length - i) * k = l.length * k := by rw [← Nat.add_mul]; congr 1; omega
  have hmul1 : (i + 1) * k = i * k + k := Nat.succ_mul _ _
  have hmulc : l.length * k + k ≤ c * k := by rw [← Nat.succ_mul]; exact Nat.mul_le_mul_right _ hc
  have hcl : cur.toList.length = c * k := by rw [Array.length_toList, hsz]
  obtain ⟨R, hR⟩ : ∃ R, cur.toList.drop (l.length * k) = R := ⟨_, rfl⟩
  have hRl : R.length = c * k - l.length * k := by rw [← hR, List.length_drop, hcl]
  have hcur : cur.toList = (l.take i).flatMap enc ++ ((l.drop i).flatMap enc ++ R) := by
    rw [← List.append_assoc, ← List.flatMap_append, List.take_append_drop, ← hx, ← hR, List.take_append_drop]
  have hsrc : ∀ j v, ((l.drop i).flatMap enc)[j]? = some v → w.cell? ((⟨g, i * k, none⟩ : Addr).add j) = some v := by
    intro j v hj
    rw [add_plain, cell_of_row w g _ _ _ _ hh, ← Array.getElem?_toList, hcur, List.getElem?_append_right (by rw [hft]; omega), hft, Nat.add_sub_cancel_left, List.getElem?_append_left (List.getElem?_eq_some_iff.1 hj).1]
    exact hj
  have r1 := fun (ty : TypeId) (dc sc : Nat) => copy_rows18 (P := P) (dT := ST) (sT := ST) (ty := ty) (dLen := l.length - i) (dCap := dc) (sLen := l.length + 1 - i) (sCap := sc) (o := (i + 1) * k) (m := l.length - i) ht hs hh (by show min _ _ = _; omega) hfd hsrc (by rw [hfd, hsz]; omega) (flat_one18 h1 _)
  obtain ⟨cur1, hc1⟩ : ∃ cur1 : Array Value, (cur.toList.take ((i + 1) * k) ++ (l.drop i).flatMap enc ++ cur.toList.drop ((i + 1) * k + ((l.drop i).flatMap enc).length)).toArray = cur1 := ⟨_, rfl⟩
  rw [hc1] at r1
  have hh1 := setRow_heap w g cur cur1 T _ hh
  have hcs1 : cur1.size = cur.size := by
    rw [← hc1]
    simp only [List.size_toArray, List.length_append, List.length_take, List.length_drop, hfd, hcl, hsz]
    omega
  have hv1 : ∀ j u, (enc x)[j]? = some u → (w.setRow g cur1).cell? ((⟨vb, 0, none⟩ : Addr).add j) = some u := by
    intro j u hj
    rw [add_plain, Nat.zero_add, World.cell?_of_block (w := w) (setRow_other w g vb _ hne)]
    exact hv j u hj
  have r2 := fun (ty : TypeId) (dc sc : Nat) => copy_rows18 (P := P) (dT := ST) (sT := ST) (ty := ty) (dLen := l.length + 1 - i) (dCap := dc) (sLen := 1) (sCap := sc) (o := i * k) (m := 1) ht hs hh1 (by show min _ _ = _; omega) (by rw [hk, Nat.one_mul]) hv1 (by rw [hk, hcs1, hsz]; omega) (h1 x)
  have hls := list_shift18 (xs := (l.take i).flatMap enc) (ys := (l.drop i).flatMap enc) (zs := enc x) (R := R) (k := k) (p := i * k) hft (hk x) (by rw [hRl]; omega)
  simp only at hls
  rw [← hcur, ← hmul1] at hls
  have hc1' : cur1.toList = cur.toList.take ((i + 1) * k) ++ (l.drop i).flatMap enc ++ cur.toList.drop ((i + 1) * k + ((l.drop i).flatMap enc).length) := by rw [← hc1]
  rw [← hc1'] at hls
  rw [hk, ← hmul1, hls] at r2
  refine ⟨_, _, r1, r2, ?_, ?_⟩
  · have hln : (l.take i ++ x :: l.drop i).length = l.length + 1 := by simp; omega
    have hfm : (l.take i ++ x :: l.drop i).flatMap enc = (l.take i).flatMap enc ++ (enc x ++ (l.drop i).flatMap enc) := by rw [List.flatMap_append, List.flatMap_cons]
    refine AccR.make hk (setRow_heap (w.setRow g cur1) g cur1 _ T _ hh1) (by rw [hln]; omega) hm ?_ ?_ hg
    · simp only [List.size_toArray, List.length_append, hft, hfd, hk, List.length_drop, hRl]
      omega
    · rw [hln, Nat.succ_mul, hfm]
      show ((l.take i).flatMap enc ++ (enc x ++ ((l.drop i).flatMap enc ++ R.drop k))).take (l.length * k + k) = _
      rw [← List.append_assoc (enc x), ← List.append_assoc]
      have e : ((l.take i).flatMap enc ++ (enc x ++ (l.drop i).flatMap enc)).length = l.length * k + k := by rw [List.length_append, List.length_append, hft, hfd, hk]; omega
      rw [← e, List.take_left]
  · exact ⟨rfl, rfl, rfl, by simp [World.setRow], fun k' hk' hne' => by
      rw [setRow_other _ g k' _ (fun e => hne' (by rw [e])), setRow_other w g k' _ (fun e => hne' (by rw [e]))]⟩
/-- One value more in the midst: there is no room. -/
theorem accr_open18 {P : Program} (hk : ∀ x, (enc x).length = k) (h1 : ∀ x, ∀ u ∈ enc x, u.oneCell' = true) (hk0 : 0 < k) (h : AccR enc k w base T (some ⟨g, 0, none⟩) c l) (x : α) {i : Nat} (hi : i < l.length) (hc : c = l.length)
    {ST : TypeId} {z : Value} {bytes : Nat} (ht : P.underlying ST = some (.slice T)) (hinfo : (P.info? T).map (fun i => (i.zero, i.size, i.bytes)) = some (some z, k, bytes)) (hzs : z.cells.size = k) {IT : TypeId} (hti : P.underlying IT = some (.int .i64))
    (hlen : (l.length + 1) * bytes ≤ 140737488355328) (hml : l.length + 1 ≤ 140737488355328) (hbase : base ≤ w.heap.size) {vb : Nat} (hv : ∀ j u, (enc x)[j]? = some u → w.cell? ⟨vb, j, none⟩ = some u) (hvb : vb < w.heap.size) :
    ∃ G w1 w2 w3, l.length + 1 ≤ G ∧ G ≤ maxLen ∧ (∀ ty, (Builtin.append_ #[ST, IT] ty #[.slice (some ⟨g, 0, none⟩) i c, .int .i64 ((l.length + 1 - i : Nat) : Int)]).run P w = .ok (.slice (some ⟨w.heap.size, 0, none⟩) (l.length + 1) G) w1) ∧
      (∀ ty dc sc, (Builtin.copy_ #[ST, ST] ty #[.slice (some ⟨w.heap.size, i * k, none⟩) (l.length + 1 - i) dc, .slice (some ⟨vb, 0, none⟩) 1 sc]).run P w1 = .ok (.int .i64 1) w2) ∧
      (∀ ty dc sc, (Builtin.copy_ #[ST, ST] ty #[.slice (some ⟨w.heap.size, (i + 1) * k, none⟩) (l.length - i) dc, .slice (some ⟨g, i * k, none⟩) (l.length - i) sc]).run P w2.drew = .ok (.int .i64 ((l.length - i : Nat) : Int)) w3) ∧
      AccR enc k w3 base T (some ⟨w.heap.size, 0, none⟩) G (l.take i ++ x :: l.drop i) ∧ Below w.heap.size w w3 := by
  subst hc
  obtain ⟨cur, hh, hn, hm, hsz, hx, hg⟩ := h.open
  obtain ⟨ti, hi0, hzz⟩ := Option.map_eq_some_iff.1 hinfo
  simp only [Prod.mk.injEq] at hzz
  obtain ⟨hz, hsize, hby⟩ := hzz
  subst hsize
  have hs : (P.info? T).map (·.size) = some ti.size := by rw [hi0]; rfl
  have hfl := flat_length hk l
  have hft := flat_length hk (l.take i)
  have hfd := flat_length hk (l.drop i)
  rw [List.length_take, Nat.min_eq_left (by omega)] at hft
  rw [List.length_drop] at hfd
  have hmul : i * ti.size + (l.length - i) * ti.size = l.length * ti.size := by rw [← Nat.add_mul]; congr 1; omega
  have hmul1 : (i + 1) * ti.size = i * ti.size + ti.size := Nat.succ_mul _ _
  have hgw : g < w.heap.size := (h.ge rfl).2
  have hcl : cur.toList.length = l.length * ti.size := by rw [Array.length_toList, hsz]
  have hcur : cur.toList = (l.take i).flatMap enc ++ (l.drop i).flatMap enc := by
    rw [← List.flatMap_append, List.take_append_drop, ← hx, List.take_of_length_le (by rw [hcl]; exact Nat.le_refl _)]
  have hold : (Builtin.firstCells ti.size i (.slice (some ⟨g, 0, none⟩) i l.length)).run P w.drew = .ok ((l.take i).flatMap enc).toArray w.drew :=
    run_firstCells_some w.drew ti.size i ⟨g, 0, none⟩ i l.length ((l.take i).flatMap enc) hft (fun j v hj => by
      rw [add_plain, Nat.zero_add]
      show w.cell? ⟨g, j, none⟩ = some v
      rw [cell_of_row w g _ _ _ _ hh, ← Array.getElem?_toList, hcur, List.getElem?_append_left (List.getElem?_eq_some_iff.1 hj).1]
      exact hj)
  have hap := fun ty => Lib.run_append_grow_zeros (P := P) w ST IT ty T ti z .i64 .i64 ht hti hi0 hz (some ⟨g, 0, none⟩) i l.length ((l.take i).flatMap enc) hold (l.length + 1 - i) (by omega) (by omega) (by omega) (by omega)
    (by rw [hby]; exact Nat.le_trans (Nat.mul_le_mul_right _ (by omega)) (Nat.le_trans hlen (by omega))) (by rw [hby, show i + (l.length + 1 - i) = l.length + 1 by omega]; exact growslice_fits (by omega) hlen)
  rw [show i + (l.length + 1 - i) = l.length + 1 by omega] at hap
  have hGn := grownCap_ge w (l.length + 1) l.length T
  have hGm := grownCap_le_maxLen w (l.length + 1) l.length T (by unfold maxLen; omega)
  obtain ⟨G, hG⟩ : ∃ G, grownCap w (l.length + 1) l.length T = G := ⟨_, rfl⟩
  rw [hG] at hGn hGm hap
  obtain ⟨row, hrow⟩ : ∃ row : Array Value, ((l.take i).flatMap enc).toArray ++ Builtin.zeroCells z.cells (l.length + 1 - i) ++ Builtin.zeroCells z.cells (G - (l.length + 1)) = row := ⟨_, rfl⟩
  rw [hrow] at hap
  have hrs : row.size = G * ti.size := by
    rw [← hrow]
    simp only [Array.size_append, List.size_toArray, size_zeroCells, hzs, hft]
    rw [← Nat.add_mul, ← Nat.add_mul]
    congr 1
    omega
  have hGk : l.length * ti.size + ti.size ≤ G * ti.size := by rw [← Nat.succ_mul]; exact Nat.mul_le_mul_right _ hGn
  have hrl : row.toList.take (i * ti.size) = (l.take i).flatMap enc := by
    rw [← hrow]
    simp only [Array.toList_append, List.append_assoc]
    rw [← hft, List.take_left]
  -- the new block
  obtain ⟨w1, hw1⟩ : ∃ w1, w.drew.alloc (.cells row T) = w1 := ⟨_, rfl⟩
  have hh1 : w1.heap[w.heap.size]? = some (.cells row T (0, 0)) := by rw [← hw1]; exact heap_alloc_new w.drew _
  have hold1 : ∀ b, b < w.heap.size → w1.heap[b]? = w.heap[b]? := fun b hb => by rw [← hw1]; exact heap_alloc_old w.drew _ hb
  have r2 := fun (ty : TypeId) (dc sc : Nat) => copy_rows18 (P := P) (w := w1) (dT := ST) (sT := ST) (ty := ty) (dLen := l.length + 1 - i) (dCap := dc) (a := ⟨vb, 0, none⟩) (sLen := 1) (sCap := sc) (o := i * ti.size) (m := 1) (cs := enc x) ht hs hh1 (by show min _ _ = _; omega) (by rw [hk, Nat.one_mul])
    (fun j u hj => by rw [add_plain, Nat.zero_add, World.cell?_of_block (w := w) (hold1 vb hvb)]; exact hv j u hj) (by rw [hk, hrs]; omega) (h1 x)
  obtain ⟨row2, hrow2⟩ : ∃ row2 : Array Value, (row.toList.take (i * ti.size) ++ enc x ++ row.toList.drop (i * ti.size + (enc x).length)).toArray = row2 := ⟨_, rfl⟩
  rw [hrow2] at r2
  have hh2 := setRow_heap w1 w.heap.size row row2 T _ hh1
  have hl2 : row2.toList = (l.take i).flatMap enc ++ enc x ++ row.toList.drop ((i + 1) * ti.size) := by rw [← hrow2, hrl, hk, hmul1]
  have hrs2 : row2.size = G * ti.size := by
    rw [← Array.length_toList, hl2]
    simp only [List.length_append, List.length_drop, Array.length_toList, hft, hk, hrs]
    omega
  have hh2d : (w1.setRow w.heap.size row2).drew.heap[w.heap.size]? = some (.cells row2 T (0, 0)) := hh2
  have r3 := fun (ty : TypeId) (dc sc : Nat) => copy_rows18 (P := P) (w := (w1.setRow w.heap.size row2).drew) (dT := ST) (sT := ST) (ty := ty) (dLen := l.length - i) (dCap := dc) (a := ⟨g, i * ti.size, none⟩) (sLen := l.length - i) (sCap := sc) (o := (i + 1) * ti.size) (m := l.length - i) (cs := (l.drop i).flatMap enc) ht hs hh2d (by show min _ _ = _; omega) hfd
    (fun j v hj => by
      rw [add_plain]
      show (w1.setRow w.heap.size row2).cell? ⟨g, i * ti.size + j, none⟩ = some v
      rw [World.cell?_of_block (w := w) ((setRow_other w1 w.heap.size g _ (by omega)).trans (hold1 g hgw)), cell_of_row w g _ _ _ _ hh, ← Array.getElem?_toList, hcur, List.getElem?_append_right (by rw [hft]; omega), hft, Nat.add_sub_cancel_left]
      exact hj) (by rw [hfd, hrs2]; omega) (flat_one18 h1 _)
  obtain ⟨row3, hrow3⟩ : ∃ row3 : Array Value, (row2.toList.take ((i + 1) * ti.size) ++ (l.drop i).flatMap enc ++ row2.toList.drop ((i + 1) * ti.size + ((l.drop i).flatMap enc).length)).toArray = row3 := ⟨_, rfl⟩
  rw [hrow3] at r3
  have hh3 : ((w1.setRow w.heap.size row2).drew.setRow w.heap.size row3).heap[w.heap.size]? = some (.cells row3 T (0, 0)) := setRow_heap _ w.heap.size row2 row3 T _ hh2d
  have hl3 : row3.toList = (l.take i).flatMap enc ++ enc x ++ (l.drop i).flatMap enc ++ row2.toList.drop ((i + 1) * ti.size + ((l.drop i).flatMap enc).length) := by
    rw [← hrow3]
    have e : row2.toList.take ((i + 1) * ti.size) = (l.take i).flatMap enc ++ enc x := by
      have e2 : ((l.take i).flatMap enc ++ enc x).length = (i + 1) * ti.size := by rw [List.length_append, hft, hk, hmul1]
      rw [hl2, ← e2, List.take_left]
    rw [e]
  rw [hw1] at hap
  refine ⟨G, w1, _, _, hGn, hGm, hap, r2, r3, ?_, ?_⟩
  · have hln : (l.take i ++ x :: l.drop i).length = l.length + 1 := by simp; omega
    have hfm : (l.take i ++ x :: l.drop i).flatMap enc = (l.take i).flatMap enc ++ enc x ++ (l.drop i).flatMap enc := by rw [List.flatMap_append, List.flatMap_cons, List.append_assoc]
    refine AccR.make hk hh3 (by rw [hln]; exact hGn) hGm ?_ ?_ hbase
    · rw [← Array.length_toList, hl3]
      simp only [List.length_append, List.length_drop, Array.length_toList, hft, hfd, hk, hrs2]
      omega
    · rw [hln, hl3, hfm]
      have e : ((l.take i).flatMap enc ++ enc x ++ (l.drop i).flatMap enc).length = (l.length + 1) * ti.size := by
        rw [List.length_append, List.length_append, hft, hfd, hk, Nat.succ_mul]; omega
      rw [← e, List.take_left]
  · subst hw1
    exact ⟨rfl, rfl, rfl, by simp [World.setRow], fun b hb => by
      rw [setRow_other _ w.heap.size b _ (by omega)]
      show (((w.drew.alloc (.cells row T)).setRow w.heap.size row2).heap)[b]? = _
      rw [setRow_other _ w.heap.size b _ (by omega)]
      exact hold1 b hb⟩
end
end Go.Proofs.Ytogijfebfffobaa
