/-
  The walk of the statement PoolNobody: for any calls it answers true, and nothing that was there has turned. No condition.
-/
import Derived.Test.YtclhpmmdcapboaaPoolR
namespace Go.Proofs.Ytclhpmmdcapboaa
open Go.RowKit
set_option linter.unusedVariables false

/-! ### pools that no call made -/

def Unmade (w : World) (v : Value) : Prop := v = .pointer none ∨ ∃ pb, v = .pointer (some ⟨pb, 0, none⟩) ∧ w.cell? ⟨pb, 2, none⟩ = some (.map none)

theorem made_un {w : World} {v : Value} (h : Unmade w v) : Calls Try.prog 21 #[v] w fun e w' => e = .returned (.bool false) ∧ w' = w := by
  rcases h with rfl | ⟨pb, rfl, hc⟩
  · exact made_nil w
  · exact made_zero hc

theorem take_un {w : World} {v : Value} (h : Unmade w v) : Calls Try.prog 13 #[v] w fun e w' => e = .returned (.tuple #[.int .i64 0, .int .i64 1]) ∧ w' = w := by
  have H := Lib.hid h
  clear h
  go_enter Try.func13, Try.ntmps13
  go_wp2_with fail
  ((with_reducible refine (made_un H.out).mono ?_))
  rintro e w' ⟨rfl, rfl⟩
  go_wp2
  exact bodyPost_ret (v := .tuple #[.int .i64 0, .int .i64 1]) (by simp [results, Try.results13, go_sem]) rfl ⟨rfl, rfl⟩
theorem drop_un {w : World} {v : Value} (h : Unmade w v) : Calls Try.prog 12 #[v, .int .i64 16] w fun e w' => e = .returned (.int .i64 1) ∧ w' = w := by
  have H := Lib.hid h
  clear h
  go_enter Try.func12, Try.ntmps12
  go_wp2_with fail
  ((with_reducible refine (made_un H.out).mono ?_))
  rintro e w' ⟨rfl, rfl⟩
  go_wp2
  go_ret
  exact ⟨rfl, rfl⟩
theorem out_un {w : World} {v : Value} (h : Unmade w v) : Calls Try.prog 16 #[v] w fun e w' => e = .returned (.slice none 0 0) ∧ w' = w := by
  have H := Lib.hid h
  clear h
  go_enter Try.func16, Try.ntmps16
  go_wp2_with fail
  ((with_reducible refine (made_un H.out).mono ?_))
  rintro e w' ⟨rfl, rfl⟩
  go_wp2
  go_ret
  exact ⟨rfl, rfl⟩
theorem left_un {w : World} {v : Value} (h : Unmade w v) : Calls Try.prog 18 #[v] w fun e w' => e = .returned (.int .i64 0) ∧ w' = w := by
  have H := Lib.hid h
  clear h
  go_enter Try.func18, Try.ntmps18
  go_wp2_with fail
  ((with_reducible refine (made_un H.out).mono ?_))
  rintro e w' ⟨rfl, rfl⟩
  go_wp2
  go_ret
  exact ⟨rfl, rfl⟩
theorem copy_un {w : World} {v : Value} (h : Unmade w v) : Calls Try.prog 20 #[v] w fun e w' => e = .returned (.pointer none) ∧ w' = w := by
  have H := Lib.hid h
  clear h
  go_enter Try.func20, Try.ntmps20
  go_wp2_with fail
  ((with_reducible refine (made_un H.out).mono ?_))
  rintro e w' ⟨rfl, rfl⟩
  go_wp2
  go_ret
  exact ⟨rfl, rfl⟩

/-! ### what was kept -/

/-- A pool that was left behind, and the slice that tells what it had. -/
structure Item where
  pb : Nat
  mb : Nat
  next : Int
  s : List Int
  A : Option Addr
  c : Nat

def ep (h : Item) : List Value := [.pointer (some ⟨h.pb, 0, none⟩)]
theorem ep_length (h : Item) : (ep h).length = 1 := rfl
theorem ep_one (h : Item) : ∀ u ∈ ep h, u.oneCell' = true := by intro u hu; simp [ep] at hu; subst hu; rfl
def ew (h : Item) : List Value := [.slice h.A (h.s.length + 1) h.c]
theorem ew_length (h : Item) : (ew h).length = 1 := rfl
theorem ew_one (h : Item) : ∀ u ∈ ew h, u.oneCell' = true := by intro u hu; simp [ew] at hu; subst hu; rfl
theorem infoPtr : (Try.prog.info? 24).map (fun i => (i.zero, i.size, i.bytes)) = some (some (.pointer none), 1, 8) := by kernel_rfl
theorem infoInts : (Try.prog.info? 27).map (fun i => (i.zero, i.size, i.bytes)) = some (some (.slice none 0 0), 1, 24) := by kernel_rfl

/-- What is known of such an item; all of it lies below 'B'. -/
def It (W : World) (B : Nat) (h : Item) : Prop :=
  Pool W h.pb h.mb 16 h.next 99 h.s ∧ AccI W 0 h.A h.c (h.s ++ [99 - h.next + 1]) ∧ h.pb < B ∧ h.mb < B ∧ ∀ x, blk h.A = some x → x < B

theorem accr_bel {α : Type} {enc : α → List Value} {k : Nat} {w w' : World} {base B c : Nat} {T : TypeId} {A : Option Addr} {l : List α} (h : AccR enc k w base T A c l) (hb : ∀ x, x < B → w'.heap[x]? = w.heap[x]?) (hB : ∀ x, blk A = some x → x < B) : AccR enc k w' base T A c l := by
  obtain ⟨h1, h2⟩ := h
  refine ⟨h1, ?_⟩
  rcases h2 with h2 | ⟨g, cap, cur, hv, hg, hh, r⟩
  · exact .inl h2
  · have hA : A = some ⟨g, 0, none⟩ := by injection hv
    exact .inr ⟨g, cap, cur, hv, hg, (hb g (hB g (by rw [hA]; rfl))).trans hh, r⟩

theorem It.below {W W' : World} {B : Nat} {h : Item} (hi : It W B h) (hb : ∀ x, x < B → W'.heap[x]? = W.heap[x]?) : It W' B h :=
  ⟨hi.1.same (hb _ hi.2.2.1) (hb _ hi.2.2.2.1), accr_bel hi.2.1 hb hi.2.2.2.2, hi.2.2⟩
theorem It.more {W : World} {B B' : Nat} {h : Item} (hi : It W B h) (hB : B ≤ B') : It W B' h :=
  ⟨hi.1, hi.2.1, by have := hi.2.2.1; omega, by have := hi.2.2.2.1; omega, fun x hx => by have := hi.2.2.2.2 x hx; omega⟩

/-- Block 'r' holds cells of a type that no pool and no whole number has: what an item is made of lies elsewhere. -/
theorem It.kept {W W' : World} {B r : Nat} {h : Item} {cs : Array Value} {T : TypeId} (hi : It W B h) (hg : ∀ x, x < W.heap.size → x ≠ r → W'.heap[x]? = W.heap[x]?) (hr : W.heap[r]? = some (.cells cs T (0, 0))) (h1 : T ≠ 51) (h2 : T ≠ 3) : It W' B h := by
  have p1 : h.pb ≠ r := by
    intro e
    have := hi.1.1
    rw [e, hr] at this
    injection this with this
    injection this with _ e3
    exact h1 e3
  have p2 : h.mb ≠ r := by
    intro e
    obtain ⟨_, n, D, ⟨es, clock, he, _⟩, _⟩ := hi.1.2.1
    rw [e, hr] at he
    cases he
  refine ⟨hi.1.same (hg _ hi.1.lt.1 p1) (hg _ hi.1.lt.2 p2), ?_, hi.2.2⟩
  obtain ⟨q1, q2⟩ := hi.2.1
  refine ⟨q1, ?_⟩
  rcases q2 with q2 | ⟨g, cap, cur, hv, hgb, hh, rr⟩
  · exact .inl q2
  · have hgl : g < W.heap.size := (Array.getElem?_eq_some_iff.1 hh).1
    refine .inr ⟨g, cap, cur, hv, hgb, (hg g hgl (fun e => ?_)).trans hh, rr⟩
    rw [e, hr] at hh
    injection hh with hh
    injection hh with _ e3
    exact h2 e3

theorem Pool.kept {W W' : World} {pb mb r : Nat} {low next high : Int} {s : List Int} {cs : Array Value} {T : TypeId} (hi : Pool W pb mb low next high s) (hg : ∀ x, x < W.heap.size → x ≠ r → W'.heap[x]? = W.heap[x]?) (hr : W.heap[r]? = some (.cells cs T (0, 0))) (h1 : T ≠ 51) : Pool W' pb mb low next high s := by
  have p1 : pb ≠ r := by
    intro e
    have := hi.1
    rw [e, hr] at this
    injection this with this
    injection this with _ e3
    exact h1 e3
  have p2 : mb ≠ r := by
    intro e
    obtain ⟨_, n, D, ⟨es, clock, he, _⟩, _⟩ := hi.2.1
    rw [e, hr] at he
    cases he
  exact hi.same (hg _ hi.lt.1 p1) (hg _ hi.lt.2 p2)

/-! ### appends to the two slices -/

theorem accr_congr {α : Type} {enc : α → List Value} {k : Nat} {w : World} {base c : Nat} {T : TypeId} {A : Option Addr} {l l' : List α} (h : AccR enc k w base T A c l) (h1 : l.length = l'.length) (h2 : l.flatMap enc = l'.flatMap enc) : AccR enc k w base T A c l' := by
  unfold AccR at h ⊢
  rw [← h1, ← h2]
  exact h

theorem accr_other {α β : Type} {enc : α → List Value} {enc2 : β → List Value} {k k2 : Nat} {W W' : World} {base base2 c c2 : Nat} {T T2 : TypeId} {A A2 : Option Addr} {l : List α} {l2 : List β} (h2 : AccR enc2 k2 W base2 T2 A2 c2 l2) (ha : AccR enc k W base T A c l) (hg : W.grownBy W' (blk A)) (hT : T ≠ T2) : AccR enc2 k2 W' base2 T2 A2 c2 l2 :=
  h2.kept hg fun x hx e => by
    obtain ⟨cs, e1⟩ := accr_cells ha e
    obtain ⟨cs2, e2⟩ := accr_cells h2 hx
    rw [e1] at e2
    injection e2 with e2
    injection e2 with _ e3
    exact hT e3

theorem It.grown {α : Type} {enc : α → List Value} {k : Nat} {W W' : World} {B base c : Nat} {T : TypeId} {A : Option Addr} {l : List α} {h : Item} (hi : It W B h) (ha : AccR enc k W base T A c l) (hg : W.grownBy W' (blk A)) (h1 : T ≠ 51) (h2 : T ≠ 3) : It W' B h := by
  cases hb : blk A with
  | none =>
    rw [hb] at hg
    have hs : ∀ x, x < W.heap.size → W'.heap[x]? = W.heap[x]? := fun x hx => hg.block x hx (by simp)
    exact ⟨hi.1.same (hs _ hi.1.lt.1) (hs _ hi.1.lt.2), accr_bel hi.2.1 hs (fun x hx => (AccR.ge hi.2.1 hx).2), hi.2.2⟩
  | some r =>
    obtain ⟨cs, hcs⟩ := accr_cells ha hb
    rw [hb] at hg
    exact hi.kept (fun x hx hne => hg.block x hx (fun e => hne (by injection e))) hcs h1 h2

theorem Pool.grown {α : Type} {enc : α → List Value} {k : Nat} {W W' : World} {base c pb mb : Nat} {T : TypeId} {A : Option Addr} {l : List α} {low next high : Int} {s : List Int} (hi : Pool W pb mb low next high s) (ha : AccR enc k W base T A c l) (hg : W.grownBy W' (blk A)) (h1 : T ≠ 51) : Pool W' pb mb low next high s := by
  cases hb : blk A with
  | none =>
    rw [hb] at hg
    exact hi.same (hg.block _ hi.lt.1 (by simp)) (hg.block _ hi.lt.2 (by simp))
  | some r =>
    obtain ⟨cs, hcs⟩ := accr_cells ha hb
    rw [hb] at hg
    exact hi.kept (fun x hx hne => hg.block x hx (fun e => hne (by injection e))) hcs h1

theorem old_push {w : World} {base c : Nat} {A : Option Addr} {hs : List Item} (h : AccR ep 1 w base 24 A c hs) (x : Item) (hbase : base ≤ w.heap.size) (hlen : hs.length ≤ 8) (ty : TypeId) :
    ∃ A' c' w', (Builtin.append_ #[52, 52] ty #[.slice A hs.length c, .slice (some ⟨w.heap.size, 0, none⟩) 1 1]).run Try.prog (w.alloc (.cells #[.pointer (some ⟨x.pb, 0, none⟩)] 24)) = .ok (.slice A' (hs.length + 1) c') w' ∧
      AccR ep 1 w' base 24 A' c' (hs ++ [x]) ∧ w.grownBy w' (blk A) :=
  accr_push ep_length ep_one (by omega) h x Try.underlying52 infoPtr rfl hbase (by omega) (by omega)

theorem was_push {w : World} {base c : Nat} {A : Option Addr} {hs : List Item} (h : AccR ew 1 w base 27 A c hs) (x : Item) (hbase : base ≤ w.heap.size) (hlen : hs.length ≤ 8) (ty : TypeId) :
    ∃ A' c' w', (Builtin.append_ #[54, 54] ty #[.slice A hs.length c, .slice (some ⟨w.heap.size, 0, none⟩) 1 1]).run Try.prog (w.alloc (.cells #[.slice x.A (x.s.length + 1) x.c] 27)) = .ok (.slice A' (hs.length + 1) c') w' ∧
      AccR ew 1 w' base 27 A' c' (hs ++ [x]) ∧ w.grownBy w' (blk A) :=
  accr_push ew_length ew_one (by omega) h x Try.underlying54 infoInts rfl hbase (by omega) (by omega)

theorem accr_get {α : Type} {enc : α → List Value} {w : World} {base c : Nat} {T : TypeId} {A : Option Addr} {l : List α} (hk : ∀ x, (enc x).length = 1) (h : AccR enc 1 w base T A c l) {i : Nat} {x : α} (hx : l[i]? = some x) : ∃ g, A = some ⟨g, 0, none⟩ ∧ g < w.heap.size ∧ w.cell? ⟨g, i, none⟩ = (enc x)[0]? := by
  have hi : i < l.length := by
    rcases Nat.lt_or_ge i l.length with h1 | h1
    · exact h1
    · rw [List.getElem?_eq_none h1] at hx; cases hx
  rcases h.2 with ⟨_, h0⟩ | ⟨g, cap, cur, hv, _⟩
  · omega
  · have hA : A = some ⟨g, 0, none⟩ := by injection hv
    subst hA
    obtain ⟨b, o, e, hb, hc⟩ := row1 hk h.row hi
    injection e with e
    injection e with e1 e2
    subst e1
    subst e2
    have := hc i x hx
    rw [Nat.zero_add] at this
    exact ⟨g, rfl, hb, this⟩

/-- All that the walk keeps: the items, the two slices that hold them, the pool that goes on. -/
def Keep (w : World) (hs : List Item) (Ao : Option Addr) (co : Nat) (Aw : Option Addr) (cw : Nat) (pb mb : Nat) (W : World) : Prop :=
  ∃ (B : Nat) (next : Int) (s : List Int), (∀ h ∈ hs, It W B h) ∧ AccR ep 1 W w.heap.size 24 Ao co hs ∧ AccR ew 1 W w.heap.size 27 Aw cw hs ∧ (∀ x, blk Ao = some x → x < B) ∧ (∀ x, blk Aw = some x → x < B) ∧
    Pool W pb mb 16 next 99 s ∧ B ≤ pb ∧ B ≤ mb ∧ w.heap.size ≤ pb ∧ w.heap.size ≤ mb ∧ B ≤ W.heap.size ∧ Below w.heap.size w W

/-- A call upon the pool that goes on turns nothing that was kept. -/
theorem Keep.call {w W W' : World} {hs : List Item} {Ao Aw : Option Addr} {co cw pb mb : Nat} {next' : Int} {s' : List Int} (h : Keep w hs Ao co Aw cw pb mb W) (ht : Turn [pb, mb] W W') (hP : Pool W' pb mb 16 next' 99 s') : Keep w hs Ao co Aw cw pb mb W' := by
  obtain ⟨B, next, s, h1, h2, h3, h4, h5, h6, h7, h8, h9, h10, h11, h12⟩ := h
  have hb : ∀ x, x < B → W'.heap[x]? = W.heap[x]? := fun x hx => ht.block x (by omega) (by simp; omega)
  exact ⟨B, next', s', fun i hi => (h1 i hi).below hb, accr_bel h2 hb h4, accr_bel h3 hb h5, h4, h5, hP, h7, h8, h9, h10, Nat.le_trans h11 ht.size, Turn.bel h12 (Nat.le_refl _) ht (by simp; omega)⟩

theorem keep_pool {w W : World} {hs : List Item} {Ao Aw : Option Addr} {co cw pb mb : Nat} (h : Keep w hs Ao co Aw cw pb mb W) : ∃ next s, Pool W pb mb 16 next 99 s := by
  obtain ⟨B, next, s, _, _, _, _, _, h6, _⟩ := h
  exact ⟨next, s, h6⟩
theorem keep_bel {w W : World} {hs : List Item} {Ao Aw : Option Addr} {co cw pb mb : Nat} (h : Keep w hs Ao co Aw cw pb mb W) : Below w.heap.size w W := by
  obtain ⟨B, next, s, _, _, _, _, _, _, _, _, _, _, _, h12⟩ := h
  exact h12

theorem nobody_start {w W : World} {pb mb : Nat} (hP : Pool W pb mb 16 16 99 []) (h1 : w.heap.size ≤ pb) (h2 : w.heap.size ≤ mb) (hB : Below w.heap.size w W) : Keep w [] none 0 none 0 pb mb W :=
  ⟨0, 16, [], by simp, AccR.nil _ _ _, AccR.nil _ _ _, (fun x hx => by cases hx), (fun x hx => by cases hx), hP, Nat.zero_le _, Nat.zero_le _, h1, h2, Nat.zero_le _, hB⟩

/-- The first part: the pools that no call made; the second: what a fork leaves. -/
def Fork (w : World) (u7 u8 u9 : Value) (W : World) : Prop :=
  ∃ (hs : List Item) (Ao : Option Addr) (co : Nat) (Aw : Option Addr) (cw pb mb : Nat), hs.length ≤ 8 ∧ u7 = .pointer (some ⟨pb, 0, none⟩) ∧ u8 = .slice Ao hs.length co ∧ u9 = .slice Aw hs.length cw ∧ Keep w hs Ao co Aw cw pb mb W

set_option maxHeartbeats 6400000 in
set_option maxRecDepth 100000 in
theorem nobody_walk (a : Option Addr) (n c : Nat) (w : World) (h : n ≤ maxLen ∧ ∃ es, Acts w w.heap.size a n es) :
    Calls Try.prog 6 #[.slice a n c] w fun e w' => e = .returned (.bool true) ∧ Below w.heap.size w w' := by
  obtain ⟨hm, es, h⟩ := h
  unfold maxLen at hm
  have HA := Lib.hid h
  clear h
  go_enter Try.func6, Try.ntmps6
  go_wp2_with fail
  ((with_reducible refine (alive_calls _).mono ?_))
  rintro e w1 ⟨rfl, b1⟩
  have B1 := Lib.hid b1
  clear b1
  have KB := Lib.hid (bel_new (bel_new (Below.refl w1.heap.size w1) (.cells #[.int .i64 0, .int .i64 0, .map none] 51)) (.cells #[.pointer none, .pointer (some ⟨w1.heap.size, 0, none⟩)] 24))
  have Q0 := Lib.hid (show ((w1.alloc (.cells #[.int .i64 0, .int .i64 0, .map none] 51)).alloc (.cells #[.pointer none, .pointer (some ⟨w1.heap.size, 0, none⟩)] 24)).cell? ⟨w1.heap.size, 2, none⟩ = some (.map none) from
    cell_of_row _ _ _ _ _ _ ((Below.heap_alloc _ _ _ (by simp)).trans (heap_alloc_new w1 _)))
  have Q1 := Lib.hid (show ((w1.alloc (.cells #[.int .i64 0, .int .i64 0, .map none] 51)).alloc (.cells #[.pointer none, .pointer (some ⟨w1.heap.size, 0, none⟩)] 24)).heap[w1.heap.size + 1]? = some (.cells #[.pointer none, .pointer (some ⟨w1.heap.size, 0, none⟩)] 24 (0, 0)) by
    have := heap_alloc_new (w1.alloc (.cells #[.int .i64 0, .int .i64 0, .map none] 51)) (.cells #[.pointer none, .pointer (some ⟨w1.heap.size, 0, none⟩)] 24)
    simpa using this)
  go_wp2_with fail
  generalize ((w1.alloc (.cells #[.int .i64 0, .int .i64 0, .map none] 51)).alloc (.cells #[.pointer none, .pointer (some ⟨w1.heap.size, 0, none⟩)] 24)) = w2 at *
  have hw2 := Nat.le_trans B1.out.size KB.out.size
  have KW := Lib.hid (bel_more B1.out (Nat.le_refl _) KB.out)
  go_loopw [18] (fun t W => ∃ k : Nat, k ≤ 2 ∧ t = .int .i64 (k : Int) ∧ W = w2) (fun t _ => 2 - (intOf t).toNat)
  case atStart => exact ⟨0, by omega, rfl, rfl⟩
  case round =>
    obtain ⟨k, hk, rfl, rfl⟩ := hrel
    by_cases hlt : k < 2
    · obtain ⟨v, hv, hun⟩ : ∃ v, wr.cell? ⟨w1.heap.size + 1, k, none⟩ = some v ∧ Unmade wr v := by
        rcases (by omega : k = 0 ∨ k = 1) with rfl | rfl
        · exact ⟨.pointer none, cell_of_row _ _ _ _ _ _ Q1.out, .inl rfl⟩
        · exact ⟨.pointer (some ⟨w1.heap.size, 0, none⟩), cell_of_row _ _ _ _ _ _ Q1.out, .inr ⟨_, rfl, Q0.out⟩⟩
      have HU := Lib.hid hun
      have hkI : (k : Int) < 2 := by omega
      clear hun
      go_wp2_with fail
      ((with_reducible refine (take_un HU.out).mono ?_))
      rintro e w' ⟨rfl, rfl⟩
      go_wp2_with fail
      ((with_reducible refine (drop_un HU.out).mono ?_))
      rintro e w' ⟨rfl, rfl⟩
      go_wp2_with fail
      ((with_reducible refine (out_un HU.out).mono ?_))
      rintro e w' ⟨rfl, rfl⟩
      go_wp2_with fail
      ((with_reducible refine (left_un HU.out).mono ?_))
      rintro e w' ⟨rfl, rfl⟩
      go_wp2_with fail
      ((with_reducible refine (copy_un HU.out).mono ?_))
      rintro e w' ⟨rfl, rfl⟩
      go_wp2
      exact ⟨⟨k + 1, by omega, by go_num, trivial⟩, by simp [intOf]; omega⟩
    · go_wp2_with fail
      ((with_reducible refine (new_yes 16 99 _ (by omega) (by omega) (by omega)).mono ?_))
      rintro e w3 ⟨pb, mb, rfl, hP, hpb, hmb, b3⟩
      have KS0 := Lib.hid (nobody_start hP (by omega) (by omega) (bel_more KW.out (Nat.le_refl _) b3))
      clear hP b3 Q0 Q1 KB
      go_wp2
      go_loopw [7, 8, 9, 10] (fun u7 u8 u9 t W => ∃ i : Nat, i ≤ 100 ∧ t = .int .i64 (i : Int) ∧ Fork w u7 u8 u9 W) (fun _ _ _ t _ => 100 - (intOf t).toNat)
      case atStart => exact ⟨0, by omega, rfl, [], none, 0, none, 0, pb, mb, by simp, rfl, rfl, rfl, KS0.out⟩
      case round =>
        clear KS0 hpb hmb
        obtain ⟨i, hi, rfl, hs, Ao, co, Aw, cw, pb, mb, hl8, rfl, rfl, rfl, hK⟩ := hrel
        have KK := Lib.hid hK
        have HB := Lib.hid (keep_bel hK)
        clear hK
        by_cases hlt : i < n ∧ i < 100
        · obtain ⟨hin, hi1⟩ := hlt
          obtain ⟨b, o, bk, fk, l, rfl, d0, d1, d2, hw, _⟩ := HA.out.at hin
          have hbw : b < w.heap.size := by
            obtain ⟨b', o', e', hb', _⟩ := HA.out.1.2 (by omega)
            injection e' with e'
            injection e' with e1 e2
            omega
          have D0 := Lib.hid d0
          have D2 := Lib.hid d2
          have d1' : wr.cell? ⟨b, o + i * 3 + 1, none⟩ = some (.bool fk) := (HB.out.cell (p := ⟨b, o + i * 3 + 1, none⟩) hbw).trans d1
          clear d0 d1 d2
          cases fk
          · have hl8' := hl8
            have d0' : (wr).cell? ⟨b, o + i * 3, none⟩ = some (.bool bk) := (HB.out.cell (p := ⟨b, o + i * 3, none⟩) hbw).trans D0.out
            have d2' : (wr).cell? ⟨b, o + i * 3 + 2, none⟩ = some (.int .i64 l) := (HB.out.cell (p := ⟨b, o + i * 3 + 2, none⟩) hbw).trans D2.out
            obtain ⟨nextT, sT, hPT⟩ := keep_pool KK.out
            have HPT := Lib.hid hPT
            clear hPT
            cases bk
            · go_wp2_with fail
              ((with_reducible refine (take_calls HPT.out).mono ?_))
              rintro e wT ⟨lT, er, nx, s3, rfl, hP3, hr, ht⟩
              have KT := Lib.hid (Keep.call KK.out ht hP3)
              clear hP3 hr ht d0' d2'
              go_wp2
              exact ⟨⟨i + 1, by omega, by go_num, _, _, _, _, _, _, _, hl8', rfl, rfl, rfl, KT.out⟩, by simp [intOf]; omega⟩
            · go_wp2_with fail
              ((with_reducible refine (drop_calls HPT.out l hw).mono ?_))
              rintro e wT ⟨er, s3, rfl, hP3, hr, ht⟩
              have KT := Lib.hid (Keep.call KK.out ht hP3)
              clear hP3 hr ht d0' d2'
              go_wp2
              exact ⟨⟨i + 1, by omega, by go_num, _, _, _, _, _, _, _, hl8', rfl, rfl, rfl, KT.out⟩, by simp [intOf]; omega⟩
          · by_cases h8 : hs.length < 8
            · obtain ⟨B, next, s, h1, h2, h3, h4, h5, h6, h7, h7', h9, h10, h11, h12⟩ := KK.out
              have hsm := h6.small
              have hq6 := h6.2.2.1
              obtain ⟨A3, c3, w3, r3, a3, g3⟩ := old_push h2 ⟨pb, mb, next, s, none, 0⟩ (Nat.le_trans h12.size (Nat.le_refl _)) hl8 52
              have i3 : ∀ h ∈ hs, It w3 B h := fun h hh => (h1 h hh).grown h2 g3 (by decide) (by decide)
              have p3 := h6.grown h2 g3 (by decide)
              have w3' := accr_other h3 h2 g3 (by decide)
              have hB3 : Below w.heap.size w w3 := h12.grown g3 h12.size (fun j hj => (AccR.ge h2 hj).1)
              have R3 := Lib.hid r3
              have A3' := Lib.hid a3
              have I3 := Lib.hid i3
              have P3 := Lib.hid p3
              have W3 := Lib.hid w3'
              have B3 := Lib.hid hB3
              have H5 := Lib.hid h5
              have hBs3 : B ≤ w3.heap.size := Nat.le_trans h11 g3.size
              clear r3 a3 g3 i3 p3 w3' hB3 h1 h2 h3 h4 h5 h6 h12
              have hl8I : (hs.length : Int) < 8 := by omega
              go_wp2_with (at_builtin; refine step_append rfl rfl rfl rfl R3.out ?_)
              ((with_reducible refine (out_calls P3.out).mono ?_))
              rintro e w4 ⟨A4, c4, rfl, hA4, b4⟩
              have P4 := Lib.hid (P3.out.below b4)
              have A4' := Lib.hid hA4
              have B4 := Lib.hid b4
              clear hA4 b4
              go_wp2_with fail
              ((with_reducible refine (left_calls_p P4.out).mono ?_))
              rintro e w5 ⟨rfl, m5, hw5⟩
              have a5 : AccI w5 w3.heap.size A4 c4 s := by rw [hw5]; exact A4'.out.drewN m5
              have b5 : Below w3.heap.size w3 w5 := by rw [hw5]; exact bel_drewN B4.out m5
              clear hw5 P4 A4' B4
              obtain ⟨A6, c6, w6, r6, a6, g6⟩ := acci_push a5 (99 - next + 1) b5.size (by omega) 27
              have b6 : Below w3.heap.size w3 w6 := b5.grown g6 b5.size (fun j hj => (AccR.ge a5 hj).1)
              have hw6 : AccR ew 1 w6 w.heap.size 27 Aw cw hs := W3.out.bel b6
              obtain ⟨A7, c7, w7, r7, a7, g7⟩ := was_push hw6 ⟨pb, mb, next, s, A6, c6⟩ (Nat.le_trans B3.out.size b6.size) hl8 54
              have hit : It w6 w6.heap.size ⟨pb, mb, next, s, A6, c6⟩ := ⟨P3.out.below b6, a6.lower (Nat.zero_le _), (P3.out.below b6).lt.1, (P3.out.below b6).lt.2, fun x hx => (AccR.ge a6 hx).2⟩
              have i7 : ∀ h ∈ hs ++ [⟨pb, mb, next, s, A6, c6⟩], It w7 w7.heap.size h := by
                intro h hh
                rcases List.mem_append.1 hh with hh | hh
                · have hx := (I3.out h hh).below (W' := w6) (fun x hx => b6.block x (by omega))
                  exact (hx.grown hw6 g7 (by decide) (by decide)).more (Nat.le_trans hBs3 (Nat.le_trans b6.size g7.size))
                · simp at hh
                  subst hh
                  exact (hit.grown hw6 g7 (by decide) (by decide)).more g7.size
              have o7 : AccR ep 1 w7 w.heap.size 24 A3 c3 (hs ++ [⟨pb, mb, next, s, A6, c6⟩]) := accr_congr (accr_other (A3'.out.bel b6) hw6 g7 (by decide)) (by simp) (by simp [ep])
              have P7 := Lib.hid ((P3.out.below b6).grown hw6 g7 (by decide))
              have B7 := Lib.hid (show Below w.heap.size w w7 from (bel_more B3.out (Nat.le_refl _) b6).grown g7 (bel_more B3.out (Nat.le_refl _) b6).size (fun j hj => (AccR.ge hw6 hj).1))
              have R6 := Lib.hid r6
              have R7 := Lib.hid r7
              have I7 := Lib.hid i7
              have O7 := Lib.hid o7
              have A7' := Lib.hid a7
              clear r6 r7 i7 o7 a7 g6 g7 a6 b6 hw6 hit a5 b5 I3 P3 W3 A3'
              go_wp2_with (at_builtin; first | (refine step_append (o := ⟨some 88, _, _, _, _, _⟩) rfl rfl rfl rfl R6.out ?_) | (refine step_append (o := ⟨some 90, _, _, _, _, _⟩) rfl rfl rfl rfl R7.out ?_))
              ((with_reducible refine (copy_calls P7.out).mono ?_))
              rintro e w8 ⟨pb8, mb8, rfl, hP8, hpb8, hmb8, b8⟩
              have hB8 := bel_more B7.out (Nat.le_refl _) b8
              have K8 := Lib.hid (show Keep w (hs ++ [⟨pb, mb, next, s, A6, c6⟩]) A3 c3 A7 c7 pb8 mb8 w8 from
                ⟨w7.heap.size, next, s, fun h hh => (I7.out h hh).below b8.block, O7.out.bel b8, A7'.out.bel b8, fun x hx => (AccR.ge O7.out hx).2, fun x hx => (AccR.ge A7'.out hx).2, hP8, hpb8, hmb8, Nat.le_trans B7.out.size hpb8, Nat.le_trans B7.out.size hmb8, b8.size, hB8⟩)
              have HB8 := Lib.hid hB8
              have hl8' : (hs ++ [(⟨pb, mb, next, s, A6, c6⟩ : Item)]).length ≤ 8 := by simp; omega
              have hlen : (hs ++ [(⟨pb, mb, next, s, A6, c6⟩ : Item)]).length = hs.length + 1 := by simp
              generalize hs ++ [(⟨pb, mb, next, s, A6, c6⟩ : Item)] = hs' at *
              rw [← hlen]
              clear hP8 b8 hB8 I7 O7 A7' P7 B7 R6 R7 R3 hlen
              have d0' : (w8).cell? ⟨b, o + i * 3, none⟩ = some (.bool bk) := (HB8.out.cell (p := ⟨b, o + i * 3, none⟩) hbw).trans D0.out
              have d2' : (w8).cell? ⟨b, o + i * 3 + 2, none⟩ = some (.int .i64 l) := (HB8.out.cell (p := ⟨b, o + i * 3 + 2, none⟩) hbw).trans D2.out
              obtain ⟨nextT, sT, hPT⟩ := keep_pool K8.out
              have HPT := Lib.hid hPT
              clear hPT
              cases bk
              · go_wp2_with fail
                ((with_reducible refine (take_calls HPT.out).mono ?_))
                rintro e wT ⟨lT, er, nx, s3, rfl, hP3, hr, ht⟩
                have KT := Lib.hid (Keep.call K8.out ht hP3)
                clear hP3 hr ht d0' d2'
                go_wp2
                exact ⟨⟨i + 1, by omega, by go_num, _, _, _, _, _, _, _, hl8', rfl, rfl, rfl, KT.out⟩, by simp [intOf]; omega⟩
              · go_wp2_with fail
                ((with_reducible refine (drop_calls HPT.out l hw).mono ?_))
                rintro e wT ⟨er, s3, rfl, hP3, hr, ht⟩
                have KT := Lib.hid (Keep.call K8.out ht hP3)
                clear hP3 hr ht d0' d2'
                go_wp2
                exact ⟨⟨i + 1, by omega, by go_num, _, _, _, _, _, _, _, hl8', rfl, rfl, rfl, KT.out⟩, by simp [intOf]; omega⟩
            · have hl8' := hl8
              have hl8I : ¬ (hs.length : Int) < 8 := by omega
              have d0' : (wr).cell? ⟨b, o + i * 3, none⟩ = some (.bool bk) := (HB.out.cell (p := ⟨b, o + i * 3, none⟩) hbw).trans D0.out
              have d2' : (wr).cell? ⟨b, o + i * 3 + 2, none⟩ = some (.int .i64 l) := (HB.out.cell (p := ⟨b, o + i * 3 + 2, none⟩) hbw).trans D2.out
              obtain ⟨nextT, sT, hPT⟩ := keep_pool KK.out
              have HPT := Lib.hid hPT
              clear hPT
              cases bk
              · go_wp2_with fail
                ((with_reducible refine (take_calls HPT.out).mono ?_))
                rintro e wT ⟨lT, er, nx, s3, rfl, hP3, hr, ht⟩
                have KT := Lib.hid (Keep.call KK.out ht hP3)
                clear hP3 hr ht d0' d2'
                go_wp2
                exact ⟨⟨i + 1, by omega, by go_num, _, _, _, _, _, _, _, hl8', rfl, rfl, rfl, KT.out⟩, by simp [intOf]; omega⟩
              · go_wp2_with fail
                ((with_reducible refine (drop_calls HPT.out l hw).mono ?_))
                rintro e wT ⟨er, s3, rfl, hP3, hr, ht⟩
                have KT := Lib.hid (Keep.call KK.out ht hP3)
                clear hP3 hr ht d0' d2'
                go_wp2
                exact ⟨⟨i + 1, by omega, by go_num, _, _, _, _, _, _, _, hl8', rfl, rfl, rfl, KT.out⟩, by simp [intOf]; omega⟩
        · have hL3 : True := trivial
          by_cases hin : i < n
          · have hi1 : ¬ i < 100 := fun h => hlt ⟨hin, h⟩
            clear hlt
            go_wp2
            obtain ⟨w0, hw0⟩ : ∃ w0, w0 = wr := ⟨_, rfl⟩
            have KK0 := Lib.hid (show Keep w hs Ao co Aw cw pb mb w0 by rw [hw0]; exact KK.out)
            have W0 := Lib.hid hw0
            clear hw0 KK HB
            go_loopw [111] (fun t W => ∃ k : Nat, k ≤ hs.length ∧ t = .int .i64 (k : Int) ∧ Below w0.heap.size w0 W) (fun t _ => hs.length - (intOf t).toNat)
            case atStart => exact ⟨0, by omega, rfl, by rw [W0.out]; exact Below.refl _ _⟩
            case round =>
              obtain ⟨k, hk3, rfl, hB3⟩ := hrel
              have HB3 := Lib.hid hB3
              obtain ⟨B, next, s, h1, h2, h3, h4, h5, h6, h7, h7', h9, h10, h11, h12⟩ := KK0.out
              have K0 := Lib.hid h12
              by_cases hlt3 : k < hs.length
              · obtain ⟨x, hx⟩ : ∃ x, hs[k]? = some x := ⟨hs[k], by simp [hlt3]⟩
                have hit := h1 x (List.mem_of_getElem? hx)
                obtain ⟨go, rfl, hgo, dgo⟩ := accr_get ep_length h2 hx
                obtain ⟨gw, rfl, hgw, dgw⟩ := accr_get ew_length h3 hx
                have hKS : ∀ W, Below w0.heap.size w0 W → W.cell? ⟨go, k, none⟩ = some (.pointer (some ⟨x.pb, 0, none⟩)) ∧ W.cell? ⟨gw, k, none⟩ = some (.slice x.A (x.s.length + 1) x.c) := fun W hW => ⟨(hW.cell (p := ⟨go, k, none⟩) hgo).trans dgo, (hW.cell (p := ⟨gw, k, none⟩) hgw).trans dgw⟩
                have KS := Lib.hid hKS
                have hkI : (k : Int) < (hs.length : Int) := by omega
                have XP := Lib.hid (hit.1.below hB3)
                have XA := Lib.hid (AccR.bel hit.2.1 hB3)
                have hxs := hit.1.small
                have hxq := hit.1.2.2.1
                clear hKS hit h1 h2 h3 h4 h5 h6 h12 hx dgo dgw hB3 KK0
                go_wp2_with fail
                refine region_seq (fun W => W.cell? ⟨go, k, none⟩ = some (.pointer (some ⟨x.pb, 0, none⟩)) ∧ W.cell? ⟨gw, k, none⟩ = some (.slice x.A (x.s.length + 1) x.c))
                  [(0, true), (1, true), (2, true), (3, true), (5, true), (6, true), (7, true), (8, true), (12, true), (13, true), (14, true), (15, true), (4, false), (9, false), (10, false), (11, false), (16, false), (17, true)]
                  (by kernel_rfl) (by kernel_rfl) (by kernel_rfl) (by kernel_rfl) (fun _ _ _ _ _ h => h) (KS.out _ (bel_drewN HB3.out 1)) ?_
                repeat
                  refine seq_pure (v := ?_) rfl (by rfl) (fun W hW => ?_) ?_
                  rotate_left
                  · obtain ⟨m0, m1⟩ := hW
                    go_simp
                    try with_reducible rfl
                  simp only [Act.put, List.setIfInBounds_toArray, List.set_cons_zero, List.set_cons_succ]
                refine seq_make rfl (by rfl) (fun K hK => ?_)
                go_simp
                ((with_reducible refine (out_calls XP.out.drew).mono ?_))
                rintro e w6 ⟨A6, c6, rfl, hA6, b6'⟩
                have b6 := below_of_drew b6'
                have B6 := Lib.hid b6
                have A6' := Lib.hid (show AccI w6 wr.heap.size A6 c6 x.s from hA6)
                clear hA6 b6 b6'
                go_simp
                refine hK _ w6 _ (fun W h => h) (KS.out _ (bel_more HB3.out (Nat.le_refl _) B6.out)) ?_
                clear hK K
                refine seq_make rfl (by rfl) (fun K hK => ?_)
                go_simp
                ((with_reducible refine (left_calls_p (XP.out.below B6.out)).mono ?_))
                rintro e w7 ⟨rfl, m7, hw7⟩
                have a7 : AccI w7 wr.heap.size A6 c6 x.s := by rw [hw7]; exact A6'.out.drewN m7
                have b7 : Below wr.heap.size wr w7 := by rw [hw7]; exact bel_drewN B6.out m7
                clear hw7
                obtain ⟨A8, c8, w8, r8, a8, g8⟩ := acci_push a7 (99 - x.next + 1) b7.size (by omega) 27
                have b8 : Below wr.heap.size wr w8 := b7.grown g8 b7.size (fun j hj => (AccR.ge a7 hj).1)
                have hl9 : (x.s ++ [99 - x.next + 1]).length = x.s.length + 1 := by simp
                have Q1 := Lib.hid (show Row ei w8 w8.heap.size A8 (x.s.length + 1) (x.s ++ [99 - x.next + 1]) by have := a8.row; rwa [hl9] at this)
                have Q2 := Lib.hid (show Row ei w8 w8.heap.size x.A (x.s.length + 1) (x.s ++ [99 - x.next + 1]) by have := (AccR.bel XA.out b8).row; rwa [hl9] at this)
                have R8 := Lib.hid r8
                have B7 := Lib.hid (bel_more HB3.out (Nat.le_refl _) b7)
                have B7' := Lib.hid (bel_more HB3.out (Nat.le_refl _) (bel_new b7 (.cells #[.int .i64 (99 - x.next + 1)] 3)))
                have B8 := Lib.hid (bel_more HB3.out (Nat.le_refl _) b8)
                clear r8 a8 g8 a7 b7 b8 hl9 A6' B6 XA
                go_simp
                refine hK _ w7 _ (fun W h => h) (KS.out _ B7.out) ?_
                clear hK K
                refine seq_make rfl (by rfl) (fun K hK => ?_)
                go_simp
                refine hK _ (w7.alloc (.cells #[.int .i64 (99 - x.next + 1)] 3)) _ (fun W h => h) (KS.out _ B7'.out) ?_
                clear hK K
                refine seq_make rfl (by rfl) (fun K hK => ?_)
                refine op_append rfl rfl rfl R8.out ?_
                refine hK _ w8 _ (fun W h => h) (KS.out _ B8.out) ?_
                clear hK K
                simp only [Act.put, List.setIfInBounds_toArray, List.set_cons_zero, List.set_cons_succ]
                refine seq_make rfl (by rfl) (fun K hK => ?_)
                go_simp
                ((with_reducible refine (ints_calls Q1.out Q2.out (by omega)).mono ?_))
                rintro e w9 ⟨rfl, m9, rfl⟩
                go_simp
                refine hK _ _ _ (fun W h => h) (KS.out _ (bel_drewN B8.out m9)) ?_
                clear hK K
                repeat
                  refine seq_pure (v := ?_) rfl (by rfl) (fun W hW => ?_) ?_
                  rotate_left
                  · clear hW
                    go_simp
                    try with_reducible rfl
                  simp only [Act.put, List.setIfInBounds_toArray, List.set_cons_zero, List.set_cons_succ]
                refine seq_done ?_
                clear Q1 Q2 R8 B7 B7' KS
                go_wp2
                exact ⟨⟨k + 1, by omega, by go_num, bel_drewN B8.out m9⟩, by simp [intOf]; omega⟩
              · clear h1 h2 h3 h4 h5 h6 h12 hB3
                go_wp2
                go_ret
                exact ⟨rfl, bel_more K0.out (Nat.le_refl _) HB3.out⟩
          · clear hlt
            go_wp2
            obtain ⟨w0, hw0⟩ : ∃ w0, w0 = wr := ⟨_, rfl⟩
            have KK0 := Lib.hid (show Keep w hs Ao co Aw cw pb mb w0 by rw [hw0]; exact KK.out)
            have W0 := Lib.hid hw0
            clear hw0 KK HB
            go_loopw [111] (fun t W => ∃ k : Nat, k ≤ hs.length ∧ t = .int .i64 (k : Int) ∧ Below w0.heap.size w0 W) (fun t _ => hs.length - (intOf t).toNat)
            case atStart => exact ⟨0, by omega, rfl, by rw [W0.out]; exact Below.refl _ _⟩
            case round =>
              obtain ⟨k, hk3, rfl, hB3⟩ := hrel
              have HB3 := Lib.hid hB3
              obtain ⟨B, next, s, h1, h2, h3, h4, h5, h6, h7, h7', h9, h10, h11, h12⟩ := KK0.out
              have K0 := Lib.hid h12
              by_cases hlt3 : k < hs.length
              · obtain ⟨x, hx⟩ : ∃ x, hs[k]? = some x := ⟨hs[k], by simp [hlt3]⟩
                have hit := h1 x (List.mem_of_getElem? hx)
                obtain ⟨go, rfl, hgo, dgo⟩ := accr_get ep_length h2 hx
                obtain ⟨gw, rfl, hgw, dgw⟩ := accr_get ew_length h3 hx
                have hKS : ∀ W, Below w0.heap.size w0 W → W.cell? ⟨go, k, none⟩ = some (.pointer (some ⟨x.pb, 0, none⟩)) ∧ W.cell? ⟨gw, k, none⟩ = some (.slice x.A (x.s.length + 1) x.c) := fun W hW => ⟨(hW.cell (p := ⟨go, k, none⟩) hgo).trans dgo, (hW.cell (p := ⟨gw, k, none⟩) hgw).trans dgw⟩
                have KS := Lib.hid hKS
                have hkI : (k : Int) < (hs.length : Int) := by omega
                have XP := Lib.hid (hit.1.below hB3)
                have XA := Lib.hid (AccR.bel hit.2.1 hB3)
                have hxs := hit.1.small
                have hxq := hit.1.2.2.1
                clear hKS hit h1 h2 h3 h4 h5 h6 h12 hx dgo dgw hB3 KK0
                go_wp2_with fail
                refine region_seq (fun W => W.cell? ⟨go, k, none⟩ = some (.pointer (some ⟨x.pb, 0, none⟩)) ∧ W.cell? ⟨gw, k, none⟩ = some (.slice x.A (x.s.length + 1) x.c))
                  [(0, true), (1, true), (2, true), (3, true), (5, true), (6, true), (7, true), (8, true), (12, true), (13, true), (14, true), (15, true), (4, false), (9, false), (10, false), (11, false), (16, false), (17, true)]
                  (by kernel_rfl) (by kernel_rfl) (by kernel_rfl) (by kernel_rfl) (fun _ _ _ _ _ h => h) (KS.out _ (bel_drewN HB3.out 1)) ?_
                repeat
                  refine seq_pure (v := ?_) rfl (by rfl) (fun W hW => ?_) ?_
                  rotate_left
                  · obtain ⟨m0, m1⟩ := hW
                    go_simp
                    try with_reducible rfl
                  simp only [Act.put, List.setIfInBounds_toArray, List.set_cons_zero, List.set_cons_succ]
                refine seq_make rfl (by rfl) (fun K hK => ?_)
                go_simp
                ((with_reducible refine (out_calls XP.out.drew).mono ?_))
                rintro e w6 ⟨A6, c6, rfl, hA6, b6'⟩
                have b6 := below_of_drew b6'
                have B6 := Lib.hid b6
                have A6' := Lib.hid (show AccI w6 wr.heap.size A6 c6 x.s from hA6)
                clear hA6 b6 b6'
                go_simp
                refine hK _ w6 _ (fun W h => h) (KS.out _ (bel_more HB3.out (Nat.le_refl _) B6.out)) ?_
                clear hK K
                refine seq_make rfl (by rfl) (fun K hK => ?_)
                go_simp
                ((with_reducible refine (left_calls_p (XP.out.below B6.out)).mono ?_))
                rintro e w7 ⟨rfl, m7, hw7⟩
                have a7 : AccI w7 wr.heap.size A6 c6 x.s := by rw [hw7]; exact A6'.out.drewN m7
                have b7 : Below wr.heap.size wr w7 := by rw [hw7]; exact bel_drewN B6.out m7
                clear hw7
                obtain ⟨A8, c8, w8, r8, a8, g8⟩ := acci_push a7 (99 - x.next + 1) b7.size (by omega) 27
                have b8 : Below wr.heap.size wr w8 := b7.grown g8 b7.size (fun j hj => (AccR.ge a7 hj).1)
                have hl9 : (x.s ++ [99 - x.next + 1]).length = x.s.length + 1 := by simp
                have Q1 := Lib.hid (show Row ei w8 w8.heap.size A8 (x.s.length + 1) (x.s ++ [99 - x.next + 1]) by have := a8.row; rwa [hl9] at this)
                have Q2 := Lib.hid (show Row ei w8 w8.heap.size x.A (x.s.length + 1) (x.s ++ [99 - x.next + 1]) by have := (AccR.bel XA.out b8).row; rwa [hl9] at this)
                have R8 := Lib.hid r8
                have B7 := Lib.hid (bel_more HB3.out (Nat.le_refl _) b7)
                have B7' := Lib.hid (bel_more HB3.out (Nat.le_refl _) (bel_new b7 (.cells #[.int .i64 (99 - x.next + 1)] 3)))
                have B8 := Lib.hid (bel_more HB3.out (Nat.le_refl _) b8)
                clear r8 a8 g8 a7 b7 b8 hl9 A6' B6 XA
                go_simp
                refine hK _ w7 _ (fun W h => h) (KS.out _ B7.out) ?_
                clear hK K
                refine seq_make rfl (by rfl) (fun K hK => ?_)
                go_simp
                refine hK _ (w7.alloc (.cells #[.int .i64 (99 - x.next + 1)] 3)) _ (fun W h => h) (KS.out _ B7'.out) ?_
                clear hK K
                refine seq_make rfl (by rfl) (fun K hK => ?_)
                refine op_append rfl rfl rfl R8.out ?_
                refine hK _ w8 _ (fun W h => h) (KS.out _ B8.out) ?_
                clear hK K
                simp only [Act.put, List.setIfInBounds_toArray, List.set_cons_zero, List.set_cons_succ]
                refine seq_make rfl (by rfl) (fun K hK => ?_)
                go_simp
                ((with_reducible refine (ints_calls Q1.out Q2.out (by omega)).mono ?_))
                rintro e w9 ⟨rfl, m9, rfl⟩
                go_simp
                refine hK _ _ _ (fun W h => h) (KS.out _ (bel_drewN B8.out m9)) ?_
                clear hK K
                repeat
                  refine seq_pure (v := ?_) rfl (by rfl) (fun W hW => ?_) ?_
                  rotate_left
                  · clear hW
                    go_simp
                    try with_reducible rfl
                  simp only [Act.put, List.setIfInBounds_toArray, List.set_cons_zero, List.set_cons_succ]
                refine seq_done ?_
                clear Q1 Q2 R8 B7 B7' KS
                go_wp2
                exact ⟨⟨k + 1, by omega, by go_num, bel_drewN B8.out m9⟩, by simp [intOf]; omega⟩
              · clear h1 h2 h3 h4 h5 h6 h12 hB3
                go_wp2
                go_ret
                exact ⟨rfl, bel_more K0.out (Nat.le_refl _) HB3.out⟩
end Go.Proofs.Ytclhpmmdcapboaa
