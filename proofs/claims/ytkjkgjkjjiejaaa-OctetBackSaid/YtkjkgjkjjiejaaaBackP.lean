/-
  Parts of the walk of the statement OctetBack: numbers with their widths, their bytes one behind the other, and what appends leave of three slices that are gathered side by side. No condition beside what is said.
-/
import Derived.Test.YtkjkgjkjjiejaaaAccV
import Derived.Test.YtkjkgjkjjiejaaaRefB
import Derived.Test.YtkjkgjkjjiejaaaSeq
namespace Go.Proofs.Ytkjkgjkjjiejaaa
open Go.RowKit

/-- The bytes of numbers, of which each has its width. -/
def flat (ps : List (Nat × Nat)) : List UInt8 := (ps.map fun p => dig p.2 p.1).flatten
def us (ps : List (Nat × Nat)) : List Value := ps.map fun p => .int .u64 (p.1 : Int)
def ws (ps : List (Nat × Nat)) : List Value := ps.map fun p => .int .i64 (p.2 : Int)
/-- Each number has a width that holds it. -/
def Good (ps : List (Nat × Nat)) : Prop := ∀ p ∈ ps, 1 ≤ p.2 ∧ p.2 ≤ 8 ∧ p.1 < 256 ^ p.2
theorem flat_snoc (ps : List (Nat × Nat)) (u n : Nat) : flat (ps ++ [(u, n)]) = flat ps ++ dig n u := by simp [flat]
theorem us_snoc (ps : List (Nat × Nat)) (u n : Nat) : us (ps ++ [(u, n)]) = us ps ++ [.int .u64 (u : Int)] := by simp [us]
theorem ws_snoc (ps : List (Nat × Nat)) (u n : Nat) : ws (ps ++ [(u, n)]) = ws ps ++ [.int .i64 (n : Int)] := by simp [ws]
theorem us_length (ps : List (Nat × Nat)) : (us ps).length = ps.length := by simp [us]
theorem ws_length (ps : List (Nat × Nat)) : (ws ps).length = ps.length := by simp [ws]
theorem good_snoc {ps : List (Nat × Nat)} {u n : Nat} (h : Good ps) (h1 : 1 ≤ n) (h8 : n ≤ 8) (hu : u < 256 ^ n) : Good (ps ++ [(u, n)]) := by
  intro p hp
  rcases List.mem_append.1 hp with hp | hp
  · exact h p hp
  · obtain rfl : p = (u, n) := by simpa using hp
    exact ⟨h1, h8, hu⟩
theorem flat_le {ps : List (Nat × Nat)} (h : Good ps) : (flat ps).length ≤ 8 * ps.length := by
  induction ps with
  | nil => simp [flat]
  | cons p ps ih =>
    have h1 := ih (fun q hq => h q (List.mem_cons_of_mem _ hq))
    have h2 := (h p (List.mem_cons_self ..)).2.1
    simp only [flat, List.map_cons, List.flatten_cons, List.length_append, List.length_cons, dig_length] at h1 ⊢
    omega
/-- What stands in front of a number, and the number. -/
theorem flat_at (ps : List (Nat × Nat)) (i : Nat) (hi : i < ps.length) : flat ps = flat (ps.take i) ++ (dig ps[i].2 ps[i].1 ++ flat (ps.drop (i + 1))) := by
  have h : ps = ps.take i ++ (ps[i] :: ps.drop (i + 1)) := by rw [List.getElem_cons_drop, List.take_append_drop]
  have h2 : ∀ a b : List (Nat × Nat), flat (a ++ b) = flat a ++ flat b := fun a b => by simp [flat]
  have h3 : ∀ (p : Nat × Nat) b, flat (p :: b) = dig p.2 p.1 ++ flat b := fun p b => by simp [flat]
  calc flat ps = flat (ps.take i ++ (ps[i] :: ps.drop (i + 1))) := congrArg flat h
    _ = _ := by rw [h2, h3]
theorem flat_take_succ (ps : List (Nat × Nat)) (i : Nat) (hi : i < ps.length) : (flat (ps.take (i + 1))).length = (flat (ps.take i)).length + ps[i].2 := by
  rw [List.take_succ_eq_append_getElem hi, flat_snoc (ps.take i) ps[i].1 ps[i].2, List.length_append, dig_length]
/-- The number that is read there. -/
theorem flat_reads {ps : List (Nat × Nat)} (h : Good ps) (i : Nat) (hi : i < ps.length) :
    (flat (ps.take i)).length + ps[i].2 ≤ (flat ps).length ∧ num (((flat ps).drop (flat (ps.take i)).length).take ps[i].2) = ps[i].1 := by
  have hg := h ps[i] (List.getElem_mem hi)
  rw [flat_at ps i hi]
  refine ⟨by simp [dig_length], ?_⟩
  rw [List.drop_left, List.take_append_of_le_length (by rw [dig_length]; omega), List.take_of_length_le (by rw [dig_length]; omega), num_dig, Nat.mod_eq_of_lt hg.2.2]

/-- Bytes that are nil, or lie in a block of their own. -/
def Byt (W : World) (A : Option Addr) (l : List UInt8) : Prop := (A = none ∧ l = []) ∨ ∃ g, A = some ⟨g, 0, none⟩ ∧ Own W g l
theorem Byt.bts {W : World} {A : Option Addr} {l : List UInt8} (h : Byt W A l) : Bts W W.heap.size A l.length l := by
  rcases h with ⟨rfl, rfl⟩ | ⟨g, rfl, ho⟩
  · exact Bts.nil
  · exact ho.bts ho.lt
theorem Byt.alloc {W : World} {A : Option Addr} {l : List UInt8} (h : Byt W A l) (o : Obj) : Byt (W.alloc o) A l := by
  rcases h with h | ⟨g, rfl, ho⟩
  · exact .inl h
  · exact .inr ⟨g, rfl, ho.same (Below.heap_alloc _ _ _ ho.lt)⟩
theorem Byt.drew {W : World} {A : Option Addr} {l : List UInt8} (h : Byt W A l) : Byt W.drew A l := h

/-- One of two gathered slices grows by a value: the other, the bytes, and what was there stay. -/
theorem push_one {P : Program} {w W : World} {T1 T2 ST ty : TypeId} {A5 A1 A2 : Option Addr} {c1 c2 : Nat} {l : List UInt8} {v1 v2 : List Value} {z x : Value}
    (hb : Byt W A5 l) (h1 : AccV W w.heap.size T1 A1 c1 v1) (h2 : AccV W w.heap.size T2 A2 c2 v2) (bel : Below w.heap.size w W) (hT : T2 ≠ T1) (hT8 : 5 ≠ T1)
    (ht : P.underlying ST = some (.slice T1)) (hinfo : (P.info? T1).map (fun i => (i.zero, i.size, i.bytes)) = some (some z, 1, 8)) (hz1 : z.cells.size = 1)
    {q : Nat} (hq : W.cell? ⟨q, 0, none⟩ = some x) (hx : x.oneCell' = true) (hlen : v1.length + 1 ≤ 1099511627776) :
    ∃ A' c' W', (Builtin.append_ #[ST, ST] ty #[.slice A1 v1.length c1, .slice (some ⟨q, 0, none⟩) 1 1]).run P W = .ok (.slice A' (v1.length + 1) c') W' ∧ AccV W' w.heap.size T1 A' c' (v1 ++ [x]) ∧ AccV W' w.heap.size T2 A2 c2 v2 ∧ Byt W' A5 l ∧ Below w.heap.size w W' ∧
      (∀ (q2 : Nat) (cs : Array Value), W.heap[q2]? = some (.cells cs T2 (0, 0)) → W'.heap[q2]? = some (.cells cs T2 (0, 0))) := by
  obtain ⟨A', c', W', hrun, ha, hg⟩ := accv_push h1 (ty := ty) ht hinfo hz1 hq hx bel.size hlen
  have other : ∀ (T : TypeId) (q2 : Nat) (cs : Array Value), T ≠ T1 → W.heap[q2]? = some (.cells cs T (0, 0)) → W'.heap[q2]? = some (.cells cs T (0, 0)) := by
    intro T q2 cs hne hh
    have hlt : q2 < W.heap.size := (Array.getElem?_eq_some_iff.1 hh).1
    refine (hg.block q2 hlt (fun e => ?_)).trans hh
    obtain ⟨cs1, e1⟩ := h1.row e.symm
    rw [e1] at hh
    injection hh with hh
    injection hh with _ e2
    exact hne e2.symm
  refine ⟨A', c', W', hrun, ha, h2.kept hg (fun k hk => accv_apart h2 h1 hT k hk), ?_, bel.grown hg bel.size (fun _ hk => (h1.ge hk).1), fun q2 cs hh => other T2 q2 cs hT hh⟩
  rcases hb with hb | ⟨g, rfl, ho⟩
  · exact .inl hb
  · exact .inr ⟨g, rfl, other _ g _ hT8 ho⟩

/-- An append whose outcome is known, inside a region whose order is drawn. -/
theorem op_append {P : Program} {w w' : World} {o : Oper} {a : Act} {K : Act → World → Prop} {Q : Exit → Act → World → Prop} {s x : Operand} {t : TypeId} {u v v' : Value}
    (ho : o.op = .call { callee := .builtin .append, args := #[s, x], argTypes := #[t, t] }) (hs : a.eval s = u) (hx : a.eval x = v)
    (hrun : (Builtin.append_ #[t, t] o.type #[u, v]).run P w = .ok v' w') (h : K (a.put o.dst v') w') : o.wp P a w K Q := by
  unfold Oper.wp execOp
  simp only [ho, resolve, invoke, builtin, Sem.run_bind, Sem.run_pure, Result.andThen_ok, List.map_toArray, List.map_cons, List.map_nil, hs, hx, hrun]
  exact h
end Go.Proofs.Ytkjkgjkjjiejaaa
