/-
  How an argument that is a packet, one that is a call of a table, and one that is a slice of such calls is opened. No condition.
-/
import Derived.Test.YtkbbnfinmipenaaShimOpen
import Derived.ChangeMaps5
namespace Go.Proofs.Ytkbbnfinmipenaa
open Go.RowKit Go.ChangeShapes Go.WideShapes Go.ChangeAt Go.Deep
set_option maxRecDepth 100000

theorem cellsPkt : Try.prog.cellsOf 33 = 4 := by kernel_rfl
theorem cellsOut : Try.prog.cellsOf 30 = 2 := by kernel_rfl
theorem cellsAct5 : Try.prog.cellsOf 35 = 8 := by kernel_rfl
theorem cellsEnts : Try.prog.cellsOf 31 = 1 := by kernel_rfl
theorem cellsStr : Try.prog.cellsOf 9 = 1 := by kernel_rfl
theorem cellsU8 : Try.prog.cellsOf 5 = 1 := by kernel_rfl

/-- A packet's entries and numbers, as they come in. -/
def OkP (W : World) (a : Option Addr) (n c : Nat) (tun ttl : Int) (pay : ByteArray) : Prop :=
  n ≤ c ∧ c ≤ maxLen ∧ (∃ es, Row ec W W.heap.size a n es) ∧ (Lit.int .i64 tun).wf = true ∧ (Lit.int .i64 ttl).wf = true ∧ pay.size ≤ maxLen

theorem ents_cells {H : Type} {enc : TypeId × Value → H} {W : World} {base : Nat} {spare : Nat → Bool} {held : Bool} {fuel : Nat} {y : DataW H × List MemPlace} {cs : List Value}
    (h : DataW.trod enc Try.prog W base spare held fuel 31 cs = some y) : ∃ a n c, cs = [.slice a n c] ∧ n ≤ c ∧ c ≤ maxLen ∧ ∃ es, Row ec W W.heap.size a n es := by
  rcases open_slice Try.underlying31 h with ⟨hcs, _⟩ | ⟨x, len, cap, m, k, D, Pl, hcs, _⟩
  · exact ⟨none, 0, 0, hcs, Nat.le_refl _, Nat.zero_le _, [], Row.nil⟩
  · subst hcs
    have := open_entries (a := some x) (n := len) (c := cap) (d := y.1) (p := y.2) ⟨fuel, h⟩
    exact ⟨some x, len, cap, rfl, this⟩

theorem list_four (cs : List Value) (h : cs.length = 4) : ∃ u v t s, cs = [u, v, t, s] := by
  match cs, h with
  | [u, v, t, s], _ => exact ⟨u, v, t, s, rfl⟩
theorem list_eight (cs : List Value) (h : cs.length = 8) : ∃ u v t s x y z r, cs = [u, v, t, s, x, y, z, r] := by
  match cs, h with
  | [u, v, t, s, x, y, z, r], _ => exact ⟨u, v, t, s, x, y, z, r, rfl⟩

theorem pkt_cells {H : Type} {enc : TypeId × Value → H} {W : World} {base : Nat} {spare : Nat → Bool} {held : Bool} {fuel : Nat} {y : DataW H × List MemPlace} {cs : List Value} (hl : cs.length = 4)
    (h : DataW.trod enc Try.prog W base spare held fuel 33 cs = some y) : ∃ a n c tun ttl pay, cs = [.slice a n c, .int .i64 tun, .int .i64 ttl, .string pay] ∧ OkP W a n c tun ttl pay := by
  obtain ⟨xs, m, _, _, _, hxl, hf⟩ := DataW.trod_struct Try.underlying33 h
  obtain ⟨u, v, t, s, rfl⟩ := list_four cs hl
  have g0 : DataW.trod enc Try.prog W base spare held m 31 (([u, v, t, s].drop 0).take (Try.prog.cellsOf 31)) = xs[0]? := hf 0 _ rfl
  have g1 : DataW.trod enc Try.prog W base spare held m 3 (([u, v, t, s].drop 1).take (Try.prog.cellsOf 3)) = xs[1]? := hf 1 _ rfl
  have g2 : DataW.trod enc Try.prog W base spare held m 3 (([u, v, t, s].drop 2).take (Try.prog.cellsOf 3)) = xs[2]? := hf 2 _ rfl
  have g3 : DataW.trod enc Try.prog W base spare held m 9 (([u, v, t, s].drop 3).take (Try.prog.cellsOf 9)) = xs[3]? := hf 3 _ rfl
  have l0 : xs[0]? = some (xs[0]'(by rw [hxl]; decide)) := List.getElem?_eq_getElem _
  have l1 : xs[1]? = some (xs[1]'(by rw [hxl]; decide)) := List.getElem?_eq_getElem _
  have l2 : xs[2]? = some (xs[2]'(by rw [hxl]; decide)) := List.getElem?_eq_getElem _
  have l3 : xs[3]? = some (xs[3]'(by rw [hxl]; decide)) := List.getElem?_eq_getElem _
  rw [l0, cellsEnts] at g0
  rw [l1, cellsInt] at g1
  rw [l2, cellsInt] at g2
  rw [l3, cellsStr] at g3
  obtain ⟨a, n, c, hs, hnc, hcm, hes⟩ := ents_cells g0
  obtain ⟨n1, hn1, _, w1⟩ := DataW.trod_int Try.underlying3 g1
  obtain ⟨n2, hn2, _, w2⟩ := DataW.trod_int Try.underlying3 g2
  obtain ⟨py, hn3, _, w3⟩ := DataW.trod_string Try.underlying9 g3
  simp at hs hn1 hn2 hn3
  subst hs
  subst hn1
  subst hn2
  subst hn3
  exact ⟨a, n, c, n1, n2, py, rfl, hnc, hcm, hes, w1, w2, w3⟩

theorem open_pkt {H : Type} {enc : TypeId × Value → H} {W : World} {base base2 : Nat} {spare : Nat → Bool} {held : Bool} {r : Reach} {v : Value} {d : DataW H} {p : List MemPlace}
    (hv : Value.okWide Try.prog W r base2 33 v) (h : DataW.Trod enc Try.prog W base spare held 33 v d p) : ∃ a n c tun ttl pay, OkP W a n c tun ttl pay ∧ v = .agg #[.slice a n c, .int .i64 tun, .int .i64 ttl, .string pay] := by
  obtain ⟨cs, rfl, hsz⟩ := okWide_struct Try.underlying33 hv
  obtain ⟨fuel, hf⟩ := h
  rw [cellsPkt] at hsz
  obtain ⟨a, n, c, tun, ttl, pay, he, hok⟩ := pkt_cells (by simpa [Value.cells] using hsz) hf
  refine ⟨a, n, c, tun, ttl, pay, hok, ?_⟩
  have he' : cs.toList = [.slice a n c, .int .i64 tun, .int .i64 ttl, .string pay] := by simpa [Value.cells] using he
  cases cs; simp at he'; subst he'; rfl

/-- A call of a table, as it comes in. -/
structure Call5 where
  kind : Int
  num : Int
  nx : Int
  lab : Int
  a : Option Addr
  n : Nat
  c : Nat
  tun : Int
  ttl : Int
  pay : ByteArray

def e5 (q : Call5) : List Value := [.int .u8 q.kind, .int .i64 q.num, .int .i64 q.nx, .int .i64 q.lab, .slice q.a q.n q.c, .int .i64 q.tun, .int .i64 q.ttl, .string q.pay]
theorem e5_length (q : Call5) : (e5 q).length = 8 := rfl
def Ok5 (W : World) (q : Call5) : Prop := (Lit.int .u8 q.kind).wf = true ∧ (Lit.int .i64 q.num).wf = true ∧ OkP W q.a q.n q.c q.tun q.ttl q.pay

theorem call5_cells {H : Type} {enc : TypeId × Value → H} {W : World} {base : Nat} {spare : Nat → Bool} {held : Bool} {fuel : Nat} {y : DataW H × List MemPlace} {cs : List Value} (hl : cs.length = 8)
    (h : DataW.trod enc Try.prog W base spare held fuel 35 cs = some y) : ∃ q : Call5, cs = e5 q ∧ Ok5 W q := by
  obtain ⟨xs, m, _, _, _, hxl, hf⟩ := DataW.trod_struct Try.underlying35 h
  obtain ⟨u0, u1, u2, u3, u4, u5, u6, u7, rfl⟩ := list_eight cs hl
  have g0 : DataW.trod enc Try.prog W base spare held m 5 (([u0, u1, u2, u3, u4, u5, u6, u7].drop 0).take (Try.prog.cellsOf 5)) = xs[0]? := hf 0 _ rfl
  have g1 : DataW.trod enc Try.prog W base spare held m 3 (([u0, u1, u2, u3, u4, u5, u6, u7].drop 1).take (Try.prog.cellsOf 3)) = xs[1]? := hf 1 _ rfl
  have g2 : DataW.trod enc Try.prog W base spare held m 30 (([u0, u1, u2, u3, u4, u5, u6, u7].drop 2).take (Try.prog.cellsOf 30)) = xs[2]? := hf 2 _ rfl
  have g3 : DataW.trod enc Try.prog W base spare held m 33 (([u0, u1, u2, u3, u4, u5, u6, u7].drop 4).take (Try.prog.cellsOf 33)) = xs[3]? := hf 3 _ rfl
  have l0 : xs[0]? = some (xs[0]'(by rw [hxl]; decide)) := List.getElem?_eq_getElem _
  have l1 : xs[1]? = some (xs[1]'(by rw [hxl]; decide)) := List.getElem?_eq_getElem _
  have l2 : xs[2]? = some (xs[2]'(by rw [hxl]; decide)) := List.getElem?_eq_getElem _
  have l3 : xs[3]? = some (xs[3]'(by rw [hxl]; decide)) := List.getElem?_eq_getElem _
  rw [l0, cellsU8] at g0
  rw [l1, cellsInt] at g1
  rw [l2, cellsOut] at g2
  rw [l3, cellsPkt] at g3
  obtain ⟨k, hk, _, wk⟩ := DataW.trod_int Try.underlying5 g0
  obtain ⟨i, hi, _, wi⟩ := DataW.trod_int Try.underlying3 g1
  obtain ⟨ys, m2, _, _, _, hyl, hf2⟩ := DataW.trod_struct Try.underlying30 g2
  have o0 : DataW.trod enc Try.prog W base spare held m2 3 (([u2, u3].drop 0).take (Try.prog.cellsOf 3)) = ys[0]? := hf2 0 _ rfl
  have o1 : DataW.trod enc Try.prog W base spare held m2 3 (([u2, u3].drop 1).take (Try.prog.cellsOf 3)) = ys[1]? := hf2 1 _ rfl
  have k0 : ys[0]? = some (ys[0]'(by rw [hyl]; decide)) := List.getElem?_eq_getElem _
  have k1 : ys[1]? = some (ys[1]'(by rw [hyl]; decide)) := List.getElem?_eq_getElem _
  rw [k0, cellsInt] at o0
  rw [k1, cellsInt] at o1
  obtain ⟨nx, hnx, _, _⟩ := DataW.trod_int Try.underlying3 o0
  obtain ⟨lb, hlb, _, _⟩ := DataW.trod_int Try.underlying3 o1
  obtain ⟨a, n, c, tun, ttl, pay, hp, hok⟩ := pkt_cells (cs := ([u0, u1, u2, u3, u4, u5, u6, u7].drop 4).take 4) rfl g3
  simp at hk hi hnx hlb hp
  obtain ⟨h4, h5, h6, h7⟩ := hp
  subst hk
  subst hi
  subst hnx
  subst hlb
  subst h4
  subst h5
  subst h6
  subst h7
  exact ⟨⟨k, i, nx, lb, a, n, c, tun, ttl, pay⟩, rfl, wk, wi, hok⟩

theorem open_call5 {H : Type} {enc : TypeId × Value → H} {W : World} {base base2 : Nat} {spare : Nat → Bool} {held : Bool} {r : Reach} {v : Value} {d : DataW H} {p : List MemPlace}
    (hv : Value.okWide Try.prog W r base2 35 v) (h : DataW.Trod enc Try.prog W base spare held 35 v d p) : ∃ q : Call5, Ok5 W q ∧ v = .agg #[.int .u8 q.kind, .int .i64 q.num, .int .i64 q.nx, .int .i64 q.lab, .slice q.a q.n q.c, .int .i64 q.tun, .int .i64 q.ttl, .string q.pay] := by
  obtain ⟨cs, rfl, hsz⟩ := okWide_struct Try.underlying35 hv
  obtain ⟨fuel, hf⟩ := h
  rw [cellsAct5] at hsz
  obtain ⟨q, he, hok⟩ := call5_cells (by simpa [Value.cells] using hsz) hf
  refine ⟨q, hok, ?_⟩
  have he' : cs.toList = e5 q := by simpa [Value.cells] using he
  cases cs; simp [e5] at he'; subst he'; rfl

/-- The slice reads as the calls 'es'. -/
def Calls5 (w : World) (B : Nat) (a : Option Addr) (n : Nat) (es : List Call5) : Prop := Row e5 w B a n es ∧ ∀ q ∈ es, (Lit.int .u8 q.kind).wf = true ∧ (Lit.int .i64 q.num).wf = true ∧ (q.n ≤ q.c ∧ q.c ≤ maxLen ∧ (∃ l, Row ec w B q.a q.n l) ∧ (Lit.int .i64 q.tun).wf = true ∧ (Lit.int .i64 q.ttl).wf = true)
theorem Calls5.below {w w' : World} {B n : Nat} {a : Option Addr} {es : List Call5} (h : Calls5 w B a n es) (hb : Below B w w') : Calls5 w' B a n es := by
  refine ⟨h.1.below hb, fun q hq => ?_⟩
  obtain ⟨h1, h2, h3, h4, ⟨l, h5⟩, h6⟩ := h.2 q hq
  exact ⟨h1, h2, h3, h4, ⟨l, h5.below hb⟩, h6⟩
/-- The cells of the i-th call. -/
theorem Calls5.at {w : World} {B n : Nat} {a : Option Addr} {es : List Call5} (h : Calls5 w B a n es) {i : Nat} (hi : i < n) : ∃ (b o : Nat) (q : Call5), a = some ⟨b, o, none⟩ ∧ b < B ∧ q ∈ es ∧ (∀ j, j < 8 → w.cell? ⟨b, o + i * 8 + j, none⟩ = (e5 q)[j]?) ∧ es[i]? = some q := by
  obtain ⟨b, o, e, hb, hc⟩ := h.1.cells e5_length (by omega)
  have hi' : i < es.length := by rw [h.1.1]; exact hi
  exact ⟨b, o, es[i], e, hb, List.getElem_mem hi', hc i hi', by simp [hi']⟩

theorem open_calls5 {H : Type} {enc : TypeId × Value → H} {W : World} {base : Nat} {spare : Nat → Bool} {held : Bool} {a : Option Addr} {n c : Nat} {d : DataW H} {p : List MemPlace}
    (h : DataW.Trod enc Try.prog W base spare held 22 (.slice a n c) d p) : n ≤ maxLen ∧ ∃ es, Calls5 W W.heap.size a n es := by
  obtain ⟨fuel, hf⟩ := h
  rcases open_slice Try.underlying22 hf with ⟨hcs, _⟩ | ⟨x, len, cap, m, k, D, Pl, hcs, _, hl, hm, hmm, _, hi⟩
  · simp [Value.cells] at hcs
    obtain ⟨rfl, rfl, rfl⟩ := hcs
    exact ⟨Nat.zero_le _, [], Row.nil, by simp⟩
  · simp [Value.cells] at hcs
    obtain ⟨rfl, rfl, rfl⟩ := hcs
    have hnm : n ≤ m := by rw [hmm]; split <;> omega
    have hel : ∀ i, ∃ q : Call5, i < m → (∀ j, j < 8 → W.cell? ((x.add (i * 8)).add j) = (e5 q)[j]?) ∧ Ok5 W q := by
      intro i
      by_cases him : i < m
      · obtain ⟨cs', hc, ht⟩ := hi i him
        rw [cellsAct5] at hc
        obtain ⟨_, hcl, hat⟩ := World.cells?_some hc
        obtain ⟨q, rfl, hw⟩ := call5_cells hcl ht
        exact ⟨q, fun _ => ⟨fun j hj => hat j hj, hw⟩⟩
      · exact ⟨⟨0, 0, 0, 0, none, 0, 0, 0, 0, ⟨#[]⟩⟩, fun h => absurd h him⟩
    obtain ⟨f, hf2⟩ := Classical.axiomOfChoice hel
    refine ⟨Nat.le_trans hl hm, (List.range n).map f, Row.mk e5_length (by simp) fun hn => ?_, ?_⟩
    · have h0 := (hf2 0 (by omega)).1 0 (by omega)
      obtain ⟨b, o, sp⟩ := x
      have h0' : W.cell? (((⟨b, o, sp⟩ : Addr).add (0 * 8)).add 0) = some (.int .u8 (f 0).kind) := h0
      have hspot : sp = none := by simpa [Addr.add] using World.cell?_spot h0'
      subst hspot
      refine ⟨b, o, rfl, ?_, fun i hi2 j hj => ?_⟩
      · have := World.block_lt_of_cell? _ _ h0'
        rwa [add_plain, add_plain] at this
      · simp only [List.length_map, List.length_range] at hi2
        have h2 := (hf2 i (by omega)).1 j hj
        rw [add_plain, add_plain] at h2
        simpa using h2
    · intro q hq
      obtain ⟨i, hi2, rfl⟩ := List.mem_map.1 hq
      have := List.mem_range.1 hi2
      obtain ⟨h1, h2, h3, h4, h5, h6, h7, _⟩ := (hf2 i (by omega)).2
      exact ⟨h1, h2, h3, h4, h5, h6, h7⟩
end Go.Proofs.Ytkbbnfinmipenaa
