/-
  Contracts of package body's kind and same, and of slices.Equal at numbers. Condition: the lists that come in read as numbers.
  Contract of body.Pack. Condition: the item's list reads as numbers.
  Contract of body.Unpack. Condition: the object's body reads as bytes, at most 2^47.
-/
import Derived.Test.YthmgpffpiggomaaBodyF
namespace Go.Proofs.Ythmgpffpiggomaa
open Go.RowKit

set_option maxRecDepth 100000 in
set_option maxHeartbeats 800000 in
theorem kind_calls (cl : Int) (w : World) :
    Calls Try.prog 53 #[.int .i64 cl] w fun e w' => e = .returned (.int .i64 (knd cl)) ∧ w = w' := by
  by_cases hk : knd cl = 0
  · have h : ¬ (cl = 1) ∧ ¬ (cl = 3) ∧ ¬ (cl = 5) ∧ ¬ (cl = 6) ∧ ¬ (cl = 8) ∧ ¬ (cl = 9) ∧ ¬ (cl = 10) ∧ ¬ (cl = 11) ∧ ¬ (cl = 12) ∧ ¬ (cl = 16) ∧ ¬ (cl = 19) ∧ ¬ (cl = 20) ∧ ¬ (cl = 21) ∧ ¬ (cl = 23) ∧ ¬ (cl = 207) := by
      refine ⟨?_, ?_, ?_, ?_, ?_, ?_, ?_, ?_, ?_, ?_, ?_, ?_, ?_, ?_, ?_⟩ <;> (intro e; subst e; revert hk; decide)
    obtain ⟨n1, n2, n3, n4, n5, n6, n7, n8, n9, n10, n11, n12, n13, n14, n15⟩ := h
    rw [hk]
    clear hk
    go_enter Try.func53, Try.ntmps53
    go_wp2
    go_ret
    exact ⟨rfl, rfl⟩
  · rcases knd_cases hk with e | e | e | e | e | e | e | e | e | e | e | e | e | e | e
    all_goals
      subst e
      clear hk
      go_enter Try.func53, Try.ntmps53
      go_wp2
      go_ret
      exact ⟨rfl, rfl⟩

theorem take_more {l k : List Int} {j : Nat} {x y : Int} (h : l.take j = k.take j) (hx : l[j]? = some x) (hy : k[j]? = some y) (e : x = y) : l.take (j + 1) = k.take (j + 1) := by
  rw [List.take_add_one, List.take_add_one, h, hx, hy, e]
theorem row_int {w : World} {B n : Nat} {a : Option Addr} {l : List Int} (h : Row ei w B a n l) {j : Nat} (hj : j < n) : ∃ b o x, a = some ⟨b, o, none⟩ ∧ l[j]? = some x ∧ w.cell? ⟨b, o + j, none⟩ = some (.int .i64 x) := by
  have hl := h.1
  obtain ⟨b, o, rfl, _, hc⟩ := h.2 (by omega)
  have hj' : j < l.length := by omega
  have := hc j (by rw [ei_flat]; simpa using hj')
  simp only [ei_flat, List.getElem_map] at this
  exact ⟨b, o, l[j], rfl, by simp [hj'], this⟩

/-- What a comparison answers. -/
def CmpPost (w : World) (v : Bool) (e : Ending) (w' : World) : Prop := e = .returned (.bool v) ∧ ∃ m, w' = w.drewN m

set_option maxHeartbeats 800000 in
theorem equal_calls (a a2 : Option Addr) (n n2 c c2 : Nat) (l k : List Int) (B B2 : Nat) (w : World) (h : Row ei w B a n l) (h2 : Row ei w B2 a2 n2 k) (hn : n ≤ maxLen) (hn2 : n2 ≤ maxLen) :
    Calls Try.prog 55 #[.slice a n c, .slice a2 n2 c2] w (CmpPost w (l == k)) := by
  unfold maxLen at hn hn2
  have H1 := Lib.hid h
  have H2 := Lib.hid h2
  have L1 := Lib.hid h.1
  have L2 := Lib.hid h2.1
  clear h h2
  by_cases hne : n = n2
  · subst hne
    go_enter Try.func55, Try.ntmps55
    go_wp2
    go_loopw [13] (fun t W => ∃ j m : Nat, j ≤ n ∧ t = .int .i64 (j : Int) ∧ W = w.drewN m ∧ Hid (l.take j = k.take j)) (fun t _ => n - (intOf t).toNat)
    case atStart => exact ⟨0, 0, Nat.zero_le _, rfl, rfl, by exact rfl⟩
    case round =>
      obtain ⟨j, m, hj, rfl, rfl, hT⟩ := hrel
      by_cases hlt : j < n
      · obtain ⟨b, o, x, rfl, hx, d1⟩ := row_int H1.out hlt
        obtain ⟨b2, o2, y, rfl, hy, d2⟩ := row_int H2.out hlt
        have HX := Lib.hid hx
        have HY := Lib.hid hy
        clear hx hy
        by_cases hxy : x = y
        · have HT := Lib.hid (take_more hT.out HX.out HY.out hxy)
          subst hxy
          clear hT
          go_wp2
          go_quiet (fail)
          go_wp2
          exact ⟨⟨j + 1, m + nq, by omega, by go_num, rfl, HT⟩, by simp [intOf]; omega⟩
        · go_wp2
          go_quiet (fail)
          go_wp2
          go_ret
          have hf : (l == k) = false := by
            rw [beq_eq_false_iff_ne]
            intro e
            have h3 := HX.out
            rw [e, HY.out] at h3
            injection h3 with h3
            exact hxy h3.symm
          rw [hf]
          exact ⟨rfl, m + nq, World.drewN_drewN _ _ _⟩
      · have hjn : j = n := by omega
        subst hjn
        have HT := Lib.hid (show (l == k) = true by
          have h3 := hT.out
          rw [List.take_of_length_le (by rw [L1.out]; exact Nat.le_refl _), List.take_of_length_le (by rw [L2.out]; exact Nat.le_refl _)] at h3
          rw [h3]; simp)
        clear hT
        go_wp2
        go_ret
        rw [HT.out]
        exact ⟨rfl, m, rfl⟩
  · have hf : Hid ((l == k) = false) := by
      show (l == k) = false
      rw [beq_eq_false_iff_ne]
      intro e
      exact hne (by rw [← L1.out, ← L2.out, e])
    go_enter Try.func55, Try.ntmps55
    go_wp2
    go_ret
    rw [hf.out]
    exact ⟨rfl, 0, rfl⟩
/-- What a comparison of items answers. -/
def SamePost (w : World) (v : Bool) (e : Ending) (w' : World) : Prop := e = .returned (.bool v) ∧ Below w.heap.size w w'

set_option maxRecDepth 100000 in
set_option maxHeartbeats 1600000 in
theorem bsame_calls (x y : It) (B B2 : Nat) (w : World) (h : Row ei w B x.la x.ln x.l) (h2 : Row ei w B2 y.la y.ln y.l) (hB : B ≤ w.heap.size) (hB2 : B2 ≤ w.heap.size) (hn : x.ln ≤ maxLen) (hn2 : y.ln ≤ maxLen) :
    Calls Try.prog 54 #[.agg x.cells.toArray, .agg y.cells.toArray] w (SamePost w (x.val.same y.val)) := by
  obtain ⟨xcl, xa, xb, xc, xu, xla, xln, xlc, xl, xbw, xsu, xho, xan, xal, xno⟩ := x
  obtain ⟨ycl, ya, yb, yc, yu, yla, yln, ylc, yl, ybw, ysu, yho, yan, yal, yno⟩ := y
  simp only [It.cells, It.val] at h h2 hn hn2 ⊢
  have hbx := (Blk.new w 65 [.int .i64 xcl, .int .i64 xa, .int .i64 xb, .int .i64 xc, .int .u64 (xu : Int), .slice xla xln xlc, .int .u64 (xbw : Int), .int .i64 xsu, .int .i64 xho, .int .u32 (xan : Int), .int .u32 (xal : Int), .int .u32 (xno : Int)]).alloc (.cells ([.int .i64 ycl, .int .i64 ya, .int .i64 yb, .int .i64 yc, .int .u64 (yu : Int), .slice yla yln ylc, .int .u64 (ybw : Int), .int .i64 ysu, .int .i64 yho, .int .u32 (yan : Int), .int .u32 (yal : Int), .int .u32 (yno : Int)]).toArray 65)
  have hby := Blk.new (w.alloc (.cells ([.int .i64 xcl, .int .i64 xa, .int .i64 xb, .int .i64 xc, .int .u64 (xu : Int), .slice xla xln xlc, .int .u64 (xbw : Int), .int .i64 xsu, .int .i64 xho, .int .u32 (xan : Int), .int .u32 (xal : Int), .int .u32 (xno : Int)]).toArray 65)) 65 [.int .i64 ycl, .int .i64 ya, .int .i64 yb, .int .i64 yc, .int .u64 (yu : Int), .slice yla yln ylc, .int .u64 (ybw : Int), .int .i64 ysu, .int .i64 yho, .int .u32 (yan : Int), .int .u32 (yal : Int), .int .u32 (yno : Int)]
  have bel := bel_new (bel_new (Below.refl w.heap.size w) (.cells ([.int .i64 xcl, .int .i64 xa, .int .i64 xb, .int .i64 xc, .int .u64 (xu : Int), .slice xla xln xlc, .int .u64 (xbw : Int), .int .i64 xsu, .int .i64 xho, .int .u32 (xan : Int), .int .u32 (xal : Int), .int .u32 (xno : Int)]).toArray 65)) (.cells ([.int .i64 ycl, .int .i64 ya, .int .i64 yb, .int .i64 yc, .int .u64 (yu : Int), .slice yla yln ylc, .int .u64 (ybw : Int), .int .i64 ysu, .int .i64 yho, .int .u32 (yan : Int), .int .u32 (yal : Int), .int .u32 (yno : Int)]).toArray 65)
  have hc := equal_calls xla yla xln yln xlc ylc xl yl _ _ _ (h.below (bel.mono hB)) (h2.below (bel.mono hB2)) hn hn2
  have HBel := Lib.hid bel
  clear h h2 bel hB hB2 hn hn2
  by_cases e0 : xcl = ycl
  · subst e0
    by_cases e1 : xa = ya
    · subst e1
      by_cases e2 : xb = yb
      · subst e2
        by_cases e3 : xc = yc
        · subst e3
          by_cases e4 : xu = yu
          · subst e4
            have HX := Lib.hid hbx
            have HY := Lib.hid hby
            clear hbx hby
            go_enter Try.func54, Try.ntmps54
            go_wp2_with fail
            ((with_reducible refine hc.mono ?_))
            rintro e w1 ⟨rfl, m, rfl⟩
            have HB2 := Lib.hid (bel_drewN HBel.out m)
            have a6 := (HX.out.drewN m).cell 6
            have b6 := (HY.out.drewN m).cell 6
            have a7 := (HX.out.drewN m).cell 7
            have b7 := (HY.out.drewN m).cell 7
            have a8 := (HX.out.drewN m).cell 8
            have b8 := (HY.out.drewN m).cell 8
            have a9 := (HX.out.drewN m).cell 9
            have b9 := (HY.out.drewN m).cell 9
            have a10 := (HX.out.drewN m).cell 10
            have b10 := (HY.out.drewN m).cell 10
            have a11 := (HX.out.drewN m).cell 11
            have b11 := (HY.out.drewN m).cell 11
            simp only [List.getElem?_cons_zero, List.getElem?_cons_succ, World.size_alloc] at a6 a7 a8 a9 a10 a11 b6 b7 b8 b9 b10 b11
            clear HX HY HBel hc
            revert HB2 a6 a7 a8 a9 a10 a11 b6 b7 b8 b9 b10 b11
            generalize World.drewN _ m = W1
            intro HB2 a6 a7 a8 a9 a10 a11 b6 b7 b8 b9 b10 b11
            cases hl : (xl == yl)
            · have HS := Lib.hid (show PIt.same ⟨xcl, xa, xb, xc, xu, xl, ⟨xbw, xsu, xho, xan, xal, xno⟩⟩ ⟨xcl, xa, xb, xc, xu, yl, ⟨ybw, ysu, yho, yan, yal, yno⟩⟩ = false by simp [PIt.same, hl])
              go_wp2
              go_ret
              rw [HS.out]
              exact ⟨rfl, HB2.out⟩
            · cases ew : Wnt.same ⟨xbw, xsu, xho, xan, xal, xno⟩ ⟨ybw, ysu, yho, yan, yal, yno⟩
              · have HS := Lib.hid (show PIt.same ⟨xcl, xa, xb, xc, xu, xl, ⟨xbw, xsu, xho, xan, xal, xno⟩⟩ ⟨xcl, xa, xb, xc, xu, yl, ⟨ybw, ysu, yho, yan, yal, yno⟩⟩ = false by simp [PIt.same, ew])
                have EW := Lib.hid (show ¬ (xbw = ybw ∧ xsu = ysu ∧ xho = yho ∧ xan = yan ∧ xal = yal ∧ xno = yno) by
                  rintro ⟨rfl, rfl, rfl, rfl, rfl, rfl⟩
                  simp [Wnt.same] at ew)
                clear ew hl
                go_wp2
                all_goals first
                  | (exfalso; apply EW.out; refine ⟨?_, ?_, ?_, ?_, ?_, ?_⟩ <;> omega)
                  | (go_ret; rw [HS.out]; exact ⟨rfl, HB2.out⟩)
              · have HS := Lib.hid (show PIt.same ⟨xcl, xa, xb, xc, xu, xl, ⟨xbw, xsu, xho, xan, xal, xno⟩⟩ ⟨xcl, xa, xb, xc, xu, yl, ⟨ybw, ysu, yho, yan, yal, yno⟩⟩ = true by simp [PIt.same, ew, hl])
                have hw := (Wnt.same_iff _ _).1 ew
                injection hw with w0 w1 w2 w3 w4 w5
                subst w0 w1 w2 w3 w4 w5
                clear ew hl
                go_wp2
                go_ret
                rw [HS.out]
                exact ⟨rfl, HB2.out⟩
          · clear hbx hby hc
            have e4' : ¬ (xu : Int) = (yu : Int) := by omega
            go_enter Try.func54, Try.ntmps54
            go_wp2
            go_ret
            exact ⟨by simp [PIt.same, e4], HBel.out⟩
        · clear hbx hby hc
          go_enter Try.func54, Try.ntmps54
          go_wp2
          go_ret
          exact ⟨by simp [PIt.same, e3], HBel.out⟩
      · clear hbx hby hc
        go_enter Try.func54, Try.ntmps54
        go_wp2
        go_ret
        exact ⟨by simp [PIt.same, e2], HBel.out⟩
    · clear hbx hby hc
      go_enter Try.func54, Try.ntmps54
      go_wp2
      go_ret
      exact ⟨by simp [PIt.same, e1], HBel.out⟩
  · clear hbx hby hc
    go_enter Try.func54, Try.ntmps54
    go_wp2
    go_ret
    exact ⟨by simp [PIt.same, e0], HBel.out⟩
end Go.Proofs.Ythmgpffpiggomaa

namespace Go.Proofs.Ythmgpffpiggomaa
open Go.RowKit

/-- What Pack answers: an object whose bytes lie in memory of the call's own, or an error. -/
def PackPost (w : World) (x : PIt) (e : Ending) (w' : World) : Prop :=
  Below w.heap.size w w' ∧ ((pack x = none ∧ e = .returned (.tuple #[.agg #[.int .i64 0, .int .i64 0, .slice none 0 0], .int .i64 2])) ∨
    (∃ o A c, pack x = some o ∧ e = .returned (.tuple #[.agg #[.int .i64 o.1, .int .i64 o.2.1, .slice A o.2.2.length c], .int .i64 0]) ∧ Acc w' w.heap.size A c o.2.2))

/-- What an item must be like to be read. -/
structure Fine (w : World) (B : Nat) (x : It) : Prop where
  row : Row ei w B x.la x.ln x.l
  len : x.ln ≤ maxLen
  u : x.u < 18446744073709551616
  any : x.w.any < 4294967296
  all : x.w.all < 4294967296
  non : x.w.non < 4294967296
theorem Fine.below {w w' : World} {B : Nat} {x : It} (h : Fine w B x) (hb : Below B w w') : Fine w' B x := ⟨h.row.below hb, h.len, h.u, h.any, h.all, h.non⟩
theorem Fine.more {w : World} {B B' : Nat} {x : It} (h : Fine w B x) (hb : B ≤ B') : Fine w B' x := ⟨h.row.more hb, h.len, h.u, h.any, h.all, h.non⟩
theorem Fine.up {w w' : World} {x : It} (h : Fine w w.heap.size x) (hb : Below w.heap.size w w') : Fine w' w'.heap.size x := (h.below hb).more hb.size

/-- An object with these cells is answered, and nothing of old has turned. -/
theorem packPost_no {w w' : World} {x : PIt} {e : Ending} (h : pack x = none) (he : e = .returned (.tuple #[.agg #[.int .i64 0, .int .i64 0, .slice none 0 0], .int .i64 2])) (hb : Below w.heap.size w w') : PackPost w x e w' := ⟨hb, .inl ⟨h, he⟩⟩

/-- Three new blocks. -/
theorem three_new (w : World) (T0 T1 T2 : TypeId) (v0 v1 v2 : List Value) :
    Blk (((w.alloc (.cells v0.toArray T0)).alloc (.cells v1.toArray T1)).alloc (.cells v2.toArray T2)) w.heap.size T0 v0 ∧
    Blk (((w.alloc (.cells v0.toArray T0)).alloc (.cells v1.toArray T1)).alloc (.cells v2.toArray T2)) (w.heap.size + 1) T1 v1 ∧
    Blk (((w.alloc (.cells v0.toArray T0)).alloc (.cells v1.toArray T1)).alloc (.cells v2.toArray T2)) (w.heap.size + 2) T2 v2 ∧
    Below w.heap.size w (((w.alloc (.cells v0.toArray T0)).alloc (.cells v1.toArray T1)).alloc (.cells v2.toArray T2)) := by
  have h1 := Blk.new (w.alloc (.cells v0.toArray T0)) T1 v1
  have h2 := Blk.new ((w.alloc (.cells v0.toArray T0)).alloc (.cells v1.toArray T1)) T2 v2
  simp only [World.size_alloc] at h1 h2
  exact ⟨((Blk.new w T0 v0).alloc _).alloc _, h1.alloc _, h2, bel_new (bel_new (bel_new (Below.refl _ _) _) _) _⟩

/-- An object is stored into a block of the call's own. -/
theorem obj_put {w W : World} {r : Nat} {T : TypeId} {u0 u1 u2 : Value} (hb : Below w.heap.size w W) (hr : w.heap.size ≤ r) (hB : Blk W r T [u0, u1, u2]) (v0 v1 v2 : Value) :
    Blk (((W.setCell ⟨r, 0, none⟩ v0).setCell ⟨r, 1, none⟩ v1).setCell ⟨r, 2, none⟩ v2) r T [v0, v1, v2] ∧ Below w.heap.size w (((W.setCell ⟨r, 0, none⟩ v0).setCell ⟨r, 1, none⟩ v1).setCell ⟨r, 2, none⟩ v2) ∧
    (∀ (B c : Nat) (A : Option Addr) (l : List UInt8), T ≠ 5 → Acc W B A c l → Acc (((W.setCell ⟨r, 0, none⟩ v0).setCell ⟨r, 1, none⟩ v1).setCell ⟨r, 2, none⟩ v2) B A c l) := by
  refine ⟨((hB.set 0 v0).set 1 v1).set 2 v2, ((hb.setCell (p := ⟨r, 0, none⟩) hr v0).setCell (p := ⟨r, 1, none⟩) hr v1).setCell (p := ⟨r, 2, none⟩) hr v2, ?_⟩
  intro B c A l hT ha
  refine ha.kept (upd_trans (upd_trans (upd_set_p W r 0 v0) (upd_set_p _ r 1 v1)) (upd_set_p _ r 2 v2)) ?_
  cases hk : blk A with
  | none => exact .inl rfl
  | some k => exact .inr (fun e => typ_ne (ha.typ hk) hB.typ (Ne.symm hT) (by injection e))

theorem pack_none {x : PIt} (h : knd x.cl = 0 ∨ (DSt.fields x (.wr [] false)).2.bad = true ∨ x.same (DSt.fields x (.wr [] false)).1 = false) : pack x = none := by
  unfold pack
  by_cases hk : knd x.cl = 0
  · rw [if_pos hk]
  · rw [if_neg hk]
    by_cases hb : (DSt.fields x (.wr [] false)).2.bad = true
    · rw [if_pos hb]
    · rw [if_neg hb]
      rcases h with h | h | h
      · exact absurd h hk
      · exact absurd h hb
      · rw [h]; rfl
theorem pack_yes {x : PIt} (h1 : ¬ knd x.cl = 0) (h2 : (DSt.fields x (.wr [] false)).2.bad = false) (h3 : x.same (DSt.fields x (.wr [] false)).1 = true) : pack x = some (x.cl, knd x.cl, (DSt.fields x (.wr [] false)).2.byt) := by
  unfold pack
  rw [if_neg h1, h2, if_neg (by simp), if_pos h3]

/-- What lies in memory while Pack goes on: the item, the object that is answered, the writer and its bytes. -/
structure Pk (w : World) (xs : List Value) (b : List UInt8) (bad : Bool) (A : Option Addr) (c : Nat) (W : World) : Prop where
  box : Blk W w.heap.size 65 xs
  res : Blk W (w.heap.size + 1) 67 [.int .i64 0, .int .i64 0, .slice none 0 0]
  wr : Blk W (w.heap.size + 2) 94 [.slice A b.length c, .bool bad]
  acc : Acc W w.heap.size A c b
  bel : Below w.heap.size w W
theorem Pk.below {w W W' : World} {xs : List Value} {b : List UInt8} {bad : Bool} {A : Option Addr} {c : Nat} (h : Pk w xs b bad A c W) (hb : Below W.heap.size W W') : Pk w xs b bad A c W' :=
  ⟨h.box.below hb, h.res.below hb, h.wr.below hb, h.acc.bel hb, bel_more h.bel (Nat.le_refl _) hb⟩
theorem Pk.new {w W : World} {xs : List Value} {b : List UInt8} {bad : Bool} {A : Option Addr} {c : Nat} (h : Pk w xs b bad A c W) (o : Obj) : Pk w xs b bad A c (W.alloc o) := h.below (bel_new (Below.refl _ _) o)
/-- What is known once it is decided whether the item is one. -/
def CutP (w : World) (xs : List Value) (b : List UInt8) (bad : Bool) (A : Option Addr) (c : Nat) (x : PIt) (v : Value) (W : World) : Prop :=
  Pk w xs b bad A c W ∧ ∃ u, v = .bool u ∧ ((u = true ∧ pack x = none) ∨ (u = false ∧ pack x = some (x.cl, knd x.cl, b)))

set_option maxRecDepth 100000 in
set_option maxHeartbeats 3200000 in
theorem pack_calls (x : It) (w : World) (h : Fine w w.heap.size x) :
    Calls Try.prog 25 #[.agg x.cells.toArray] w (PackPost w x.val) := by
  have hth := three_new w 65 67 94 x.cells [.int .i64 0, .int .i64 0, .slice none 0 0] [.slice none 0 0, .bool false]
  have H0 := Lib.hid hth.1
  have H1 := Lib.hid hth.2.1
  have H2 := Lib.hid hth.2.2.1
  have HBel := Lib.hid hth.2.2.2
  have HF := Lib.hid (h.up hth.2.2.2)
  have HF0 := Lib.hid h
  clear hth h
  obtain ⟨cl, xa, xb, xc, xu, la, ln, lc, l, bw, su, ho, an, al, no⟩ := x
  simp only [It.cells] at H0 H1 H2 HBel HF ⊢
  go_enter Try.func25, Try.ntmps25
  go_upto_region 2 with fail
  revert H0 H1 H2 HBel HF
  generalize World.alloc (World.alloc (World.alloc w _) _) _ = W1
  intro H0 H1 H2 HBel HF
  have hd : Dir W1 w.heap.size [w.heap.size + 2] 92 (w.heap.size + 2) (.wr [] false) := ⟨rfl, rfl, by omega, none, 0, H2.out, Acc.nil _ _⟩
  have hc := fields_calls hd ⟨cl, xa, xb, xc, xu, la, ln, lc, l, ⟨bw, su, ho, an, al, no⟩⟩ HF.out.row HF.out.len HF.out.u HF.out.any HF.out.all HF.out.non (by simp [DSt.len]) HBel.out.size
  unfold dv at hc
  simp only [It.cells, It.val] at hc
  clear hd H2
  have x0 := H0.out.cell 0
  have x1 := H0.out.cell 1
  have x2 := H0.out.cell 2
  have x3 := H0.out.cell 3
  have x4 := H0.out.cell 4
  have x5 := H0.out.cell 5
  have x6 := H0.out.cell 6
  have x7 := H0.out.cell 7
  have x8 := H0.out.cell 8
  have x9 := H0.out.cell 9
  have x10 := H0.out.cell 10
  have x11 := H0.out.cell 11
  simp only [List.getElem?_cons_zero, List.getElem?_cons_succ] at x0 x1 x2 x3 x4 x5 x6 x7 x8 x9 x10 x11
  go_wp2_with fail
  ((with_reducible refine hc.mono ?_))
  rintro e W2 ⟨y, rfl, hv, ha, hyn, hd, ht⟩
  clear hc x0 x1 x2 x3 x4 x5 x6 x7 x8 x9 x10 x11
  obtain ⟨b', bad', eb, _⟩ := run_wr_bad (rqs ((DSt.wr [] false).many l.length) ⟨cl, xa, xb, xc, xu, l, ⟨bw, su, ho, an, al, no⟩⟩) [] false
  have eb2 : (DSt.fields ⟨cl, xa, xb, xc, xu, l, ⟨bw, su, ho, an, al, no⟩⟩ (.wr [] false)).2 = .wr b' bad' := eb
  rw [eb2] at hd
  obtain ⟨_, _, _, A, c, hwb, hacc⟩ := hd
  have h0' : Blk W2 w.heap.size 65 _ := H0.out.same (ht.block _ H0.out.lt (by simp))
  have h1' : Blk W2 (w.heap.size + 1) 67 _ := H1.out.same (ht.block _ H1.out.lt (by simp))
  have hbel2 := Turn.bel HBel.out (Nat.le_refl _) ht (by simp)
  have hyl := ha.row
  have HK := Lib.hid (show Pk w [.int .i64 cl, .int .i64 xa, .int .i64 xb, .int .i64 xc, .int .u64 (xu : Int), .slice la ln lc, .int .u64 (bw : Int), .int .i64 su, .int .i64 ho, .int .u32 (an : Int), .int .u32 (al : Int), .int .u32 (no : Int)] b' bad' A c W2 from ⟨h0', h1', hwb, hacc, hbel2⟩)
  obtain ⟨ycl, ya, yb, yc, yu, yla, yln, ylc, yl, ybw, ysu, yho, yan, yal, yno⟩ := y
  simp only at hyn hyl ha
  subst hyn
  have hmx := (AccR.cap ha).1
  have hmx2 := (AccR.cap ha).2
  have HSM := Lib.hid (bsame_calls ⟨cl, xa, xb, xc, xu, la, ln, lc, l, ⟨bw, su, ho, an, al, no⟩⟩ ⟨ycl, ya, yb, yc, yu, yla, yl.length, ylc, yl, ⟨ybw, ysu, yho, yan, yal, yno⟩⟩ w.heap.size (W2.heap.size) (W2.alloc (.cells ([.int .i64 ycl, .int .i64 ya, .int .i64 yb, .int .i64 yc, .int .u64 (yu : Int), .slice yla yl.length ylc, .int .u64 (ybw : Int), .int .i64 ysu, .int .i64 yho, .int .u32 (yan : Int), .int .u32 (yal : Int), .int .u32 (yno : Int)]).toArray 65)) ((HF0.out.row.below hbel2).below (bel_alloc (Below.refl _ _) (by have := hbel2.size; omega) _)) (hyl.below (bel_new (Below.refl _ _) _)) (by have := hbel2.size; simp; omega) (by simp) HF0.out.len (by simp only; omega))
  have HY := Lib.hid (Blk.new W2 65 [.int .i64 ycl, .int .i64 ya, .int .i64 yb, .int .i64 yc, .int .u64 (yu : Int), .slice yla yl.length ylc, .int .u64 (ybw : Int), .int .i64 ysu, .int .i64 yho, .int .u32 (yan : Int), .int .u32 (yal : Int), .int .u32 (yno : Int)])
  have HV := Lib.hid hv
  have EB := Lib.hid eb2
  have HK3 := Lib.hid (HK.out.new (.cells ([.int .i64 ycl, .int .i64 ya, .int .i64 yb, .int .i64 yc, .int .u64 (yu : Int), .slice yla yl.length ylc, .int .u64 (ybw : Int), .int .i64 ysu, .int .i64 yho, .int .u32 (yan : Int), .int .u32 (yal : Int), .int .u32 (yno : Int)]).toArray 65))
  clear hv eb2 eb hyl ha hmx hmx2 hwb hacc h0' h1' hbel2 HK H0 H1 HF HBel ht
  simp only [It.cells, It.val] at HSM HV
  simp only [It.cells]
  go_upto_region 3 with fail
  revert HSM HY HK3
  generalize World.alloc W2 _ = W3
  intro HSM HY HK3
  go_cut [27] (fun v W => CutP w [.int .i64 cl, .int .i64 xa, .int .i64 xb, .int .i64 xc, .int .u64 (xu : Int), .slice la ln lc, .int .u64 (bw : Int), .int .i64 su, .int .i64 ho, .int .u32 (an : Int), .int .u32 (al : Int), .int .u32 (no : Int)] b' bad' A c ⟨cl, xa, xb, xc, xu, l, ⟨bw, su, ho, an, al, no⟩⟩ v W)
  case first =>
    have hk := kind_calls cl
    have x0 := HK3.out.box.cell 0
    simp only [List.getElem?_cons_zero] at x0
    by_cases h0 : knd cl = 0
    · rw [h0] at hk
      go_wp2_with fail
      ((with_reducible refine (hk _).mono ?_))
      rintro e w4 ⟨rfl, rfl⟩
      clear hk x0
      go_wp2
      go_meet
      exact ⟨HK3.out, true, rfl, .inl ⟨rfl, pack_none (.inl h0)⟩⟩
    · have h0' : ((knd cl) == 0) = false := by rw [beq_eq_false_iff_ne]; exact h0
      have c1 := HK3.out.wr.cell 1
      simp only [List.getElem?_cons_zero, List.getElem?_cons_succ] at c1
      have H00 := Lib.hid h0
      cases bad' with
      | true =>
        generalize knd cl = kk at hk h0 h0'
        go_wp2_with fail
        ((with_reducible refine (hk _).mono ?_))
        rintro e w4 ⟨rfl, rfl⟩
        clear hk x0
        go_wp2
        go_meet
        exact ⟨HK3.out, true, rfl, .inl ⟨rfl, pack_none (.inr (.inl (by rw [EB.out]; rfl)))⟩⟩
      | false =>
        generalize knd cl = kk at hk h0 h0'
        have x1 := HK3.out.box.cell 1
        have x2 := HK3.out.box.cell 2
        have x3 := HK3.out.box.cell 3
        have x4 := HK3.out.box.cell 4
        have x5 := HK3.out.box.cell 5
        have x6 := HK3.out.box.cell 6
        have x7 := HK3.out.box.cell 7
        have x8 := HK3.out.box.cell 8
        have x9 := HK3.out.box.cell 9
        have x10 := HK3.out.box.cell 10
        have x11 := HK3.out.box.cell 11
        simp only [List.getElem?_cons_zero, List.getElem?_cons_succ] at x1 x2 x3 x4 x5 x6 x7 x8 x9 x10 x11
        have y0 := HY.out.cell 0
        have y1 := HY.out.cell 1
        have y2 := HY.out.cell 2
        have y3 := HY.out.cell 3
        have y4 := HY.out.cell 4
        have y5 := HY.out.cell 5
        have y6 := HY.out.cell 6
        have y7 := HY.out.cell 7
        have y8 := HY.out.cell 8
        have y9 := HY.out.cell 9
        have y10 := HY.out.cell 10
        have y11 := HY.out.cell 11
        simp only [List.getElem?_cons_zero, List.getElem?_cons_succ] at y0 y1 y2 y3 y4 y5 y6 y7 y8 y9 y10 y11
        go_wp2_with fail
        ((with_reducible refine (hk _).mono ?_))
        rintro e w4 ⟨rfl, rfl⟩
        clear hk
        go_wp2_with fail
        ((with_reducible refine HSM.out.mono ?_))
        rintro e W4 ⟨rfl, hb4⟩
        clear x0 c1 x1 x2 x3 x4 x5 x6 x7 x8 x9 x10 x11 y0 y1 y2 y3 y4 y5 y6 y7 y8 y9 y10 y11
        rw [HV.out]
        have HK4 := Lib.hid (HK3.out.below hb4)
        cases hs : PIt.same ⟨cl, xa, xb, xc, xu, l, ⟨bw, su, ho, an, al, no⟩⟩ (DSt.fields ⟨cl, xa, xb, xc, xu, l, ⟨bw, su, ho, an, al, no⟩⟩ (.wr [] false)).1
        · go_wp2
          go_meet
          exact ⟨HK4.out, true, rfl, .inl ⟨rfl, pack_none (.inr (.inr hs))⟩⟩
        · go_wp2
          go_meet
          exact ⟨HK4.out, false, rfl, .inr ⟨rfl, by
            have h5 := pack_yes H00.out (by rw [EB.out]; rfl) hs
            rw [EB.out] at h5
            exact h5⟩⟩
  case rest =>
    obtain ⟨hK, v, rfl, hv⟩ := hcut
    have r0 := hK.res.cell 0
    have r1 := hK.res.cell 1
    have r2 := hK.res.cell 2
    have g0 := hK.res.free 0
    have g1 := hK.res.free 1
    have g2 := hK.res.free 2
    simp only [List.getElem?_cons_zero, List.getElem?_cons_succ] at r0 r1 r2
    have HK := Lib.hid hK
    clear hK HSM HY HK3 HV EB
    rcases hv with ⟨rfl, hp⟩ | ⟨rfl, hp⟩
    · have HP := Lib.hid hp
      clear hp
      go_wp2
      clear r0 r1 r2 g0 g1 g2
      have HO := Lib.hid (obj_put HK.out.bel (by omega) HK.out.res (.int .i64 0) (.int .i64 0) (.slice none 0 0))
      revert HO
      generalize World.setCell (World.setCell (World.setCell wc _ _) _ _) _ _ = W5
      intro HO
      have y0 := HO.out.1.cell 0
      have y1 := HO.out.1.cell 1
      have y2 := HO.out.1.cell 2
      simp only [List.getElem?_cons_zero, List.getElem?_cons_succ] at y0 y1 y2
      refine bodyPost_ret (v := .tuple #[.agg #[.int .i64 0, .int .i64 0, .slice none 0 0], .int .i64 2]) (by simp [results, Try.results25, go_sem, y0, y1, y2]) rfl ?_
      exact packPost_no HP.out rfl HO.out.2.1
    · have HP := Lib.hid hp
      clear hp
      have x0 := HK.out.box.cell 0
      have c0 := HK.out.wr.cell 0
      simp only [List.getElem?_cons_zero] at x0 c0
      have HC := Lib.hid (show wc.cell? ⟨w.heap.size, 0, none⟩ = some (.int .i64 cl) ∧ wc.cell? ⟨w.heap.size + 2, 0, none⟩ = some (.slice A b'.length c) from ⟨x0, c0⟩)
      have HR := Lib.hid (show wc.cell? ⟨w.heap.size + 1, 0, none⟩ = some (.int .i64 0) ∧ wc.cell? ⟨w.heap.size + 1, 1, none⟩ = some (.int .i64 0) ∧ wc.cell? ⟨w.heap.size + 1, 2, none⟩ = some (.slice none 0 0) ∧ wc.frozen? ⟨w.heap.size + 1, 0, none⟩ = false ∧ wc.frozen? ⟨w.heap.size + 1, 1, none⟩ = false ∧ wc.frozen? ⟨w.heap.size + 1, 2, none⟩ = false from ⟨r0, r1, r2, g0, g1, g2⟩)
      clear x0 c0 r0 r1 r2 g0 g1 g2
      go_wp2
      refine region_seq (fun W => W.cell? ⟨w.heap.size, 0, none⟩ = some (.int .i64 cl) ∧ W.cell? ⟨w.heap.size + 2, 0, none⟩ = some (.slice A b'.length c))
        [(0, true), (1, true), (2, true), (3, true), (5, true), (6, true), (7, true), (8, true), (4, false), (9, true), (10, false), (11, true)]
        (by kernel_rfl) (by kernel_rfl) (by kernel_rfl) (by kernel_rfl) (fun _ _ _ _ _ h => h) HC.out ?_
      repeat
        refine seq_pure (v := ?_) rfl (by rfl) (fun W hW => ?_) ?_
        rotate_left
        · obtain ⟨d0, d1⟩ := hW
          go_simp
          try with_reducible rfl
        simp only [Act.put, List.setIfInBounds_toArray, List.set_cons_zero, List.set_cons_succ]
      refine seq_make rfl (by rfl) (fun K hK => ?_)
      go_simp
      ((with_reducible refine (kind_calls cl _).mono ?_))
      rintro e w6 ⟨rfl, rfl⟩
      go_simp
      refine hK _ _ (fun W => W.cell? ⟨w.heap.size, 0, none⟩ = some (.int .i64 cl) ∧ W.cell? ⟨w.heap.size + 2, 0, none⟩ = some (.slice A b'.length c)) (fun W h => h) HC.out ?_
      clear hK K
      repeat
        refine seq_pure (v := ?_) rfl (by rfl) (fun W hW => ?_) ?_
        rotate_left
        · obtain ⟨d0, d1⟩ := hW
          go_simp
          try with_reducible rfl
        simp only [Act.put, List.setIfInBounds_toArray, List.set_cons_zero, List.set_cons_succ]
      refine seq_make rfl (by rfl) (fun K hK => ?_)
      obtain ⟨r0, r1, r2, g0, g1, g2⟩ := HR.out
      go_simp
      clear r0 r1 r2 g0 g1 g2
      have HO := Lib.hid (obj_put HK.out.bel (by omega) HK.out.res (.int .i64 cl) (.int .i64 (knd cl)) (.slice A b'.length c))
      have hx0 := (((HK.out.box.other (p := ⟨w.heap.size + 1, 0, none⟩) (by simp) (.int .i64 cl)).other (p := ⟨w.heap.size + 1, 1, none⟩) (by simp) (.int .i64 (knd cl))).other (p := ⟨w.heap.size + 1, 2, none⟩) (by simp) (.slice A b'.length c)).cell 0
      have hx1 := (((HK.out.wr.other (p := ⟨w.heap.size + 1, 0, none⟩) (by simp) (.int .i64 cl)).other (p := ⟨w.heap.size + 1, 1, none⟩) (by simp) (.int .i64 (knd cl))).other (p := ⟨w.heap.size + 1, 2, none⟩) (by simp) (.slice A b'.length c)).cell 0
      have HCC := Lib.hid (And.intro hx0 hx1)
      clear hx0 hx1
      refine hK _ _ (fun W => W.cell? ⟨w.heap.size, 0, none⟩ = some (.int .i64 cl) ∧ W.cell? ⟨w.heap.size + 2, 0, none⟩ = some (.slice A b'.length c)) (fun W h => h) HCC.out ?_
      clear hK K HCC
      repeat
        refine seq_pure (v := ?_) rfl (by rfl) (fun W hW => ?_) ?_
        rotate_left
        · obtain ⟨d0, d1⟩ := hW
          go_simp
          try with_reducible rfl
        simp only [Act.put, List.setIfInBounds_toArray, List.set_cons_zero, List.set_cons_succ]
      refine seq_done ?_
      revert HO
      generalize World.setCell (World.setCell (World.setCell wc _ _) _ _) _ _ = W5
      intro HO
      have y0 := HO.out.1.cell 0
      have y1 := HO.out.1.cell 1
      have y2 := HO.out.1.cell 2
      simp only [List.getElem?_cons_zero, List.getElem?_cons_succ] at y0 y1 y2
      go_wp2
      refine bodyPost_ret (v := .tuple #[.agg #[.int .i64 cl, .int .i64 (knd cl), .slice A b'.length c], .int .i64 0]) (by simp [results, Try.results25, go_sem, y0, y1, y2]) rfl ?_
      exact ⟨⟨HO.out.2.1.os, HO.out.2.1.tape, HO.out.2.1.output, HO.out.2.1.size, HO.out.2.1.block⟩, .inr ⟨_, A, c, HP.out, rfl, HO.out.2.2 _ _ _ _ (by decide) HK.out.acc⟩⟩
end Go.Proofs.Ythmgpffpiggomaa

namespace Go.Proofs.Ythmgpffpiggomaa
open Go.RowKit

/-- What Unpack answers: an item whose list lies in memory of the call's own, or an error. -/
def UnpackPost (w : World) (o : Int × Int × List UInt8) (e : Ending) (w' : World) : Prop :=
  Below w.heap.size w w' ∧ ((unpack o = none ∧ e = .returned (.tuple #[.agg #[.int .i64 0, .int .i64 0, .int .i64 0, .int .i64 0, .int .u64 0, .slice none 0 0, .int .u64 0, .int .i64 0, .int .i64 0, .int .u32 0, .int .u32 0, .int .u32 0], .int .i64 5])) ∨
    (∃ y : It, unpack o = some y.val ∧ y.ln = y.l.length ∧ e = .returned (.tuple #[.agg y.cells.toArray, .int .i64 0]) ∧ AccI w' w.heap.size y.la y.lc y.l))

/-- An item is stored into a block of the call's own. -/
theorem item_put {w W : World} {r : Nat} {T : TypeId} {u0 u1 u2 u3 u4 u5 u6 u7 u8 u9 u10 u11 : Value} (hb : Below w.heap.size w W) (hr : w.heap.size ≤ r) (hB : Blk W r T [u0, u1, u2, u3, u4, u5, u6, u7, u8, u9, u10, u11]) (v0 v1 v2 v3 v4 v5 v6 v7 v8 v9 v10 v11 : Value) :
    Blk (World.setCell (World.setCell (World.setCell (World.setCell (World.setCell (World.setCell (World.setCell (World.setCell (World.setCell (World.setCell (World.setCell (World.setCell W ⟨r, 0, none⟩ v0) ⟨r, 1, none⟩ v1) ⟨r, 2, none⟩ v2) ⟨r, 3, none⟩ v3) ⟨r, 4, none⟩ v4) ⟨r, 5, none⟩ v5) ⟨r, 6, none⟩ v6) ⟨r, 7, none⟩ v7) ⟨r, 8, none⟩ v8) ⟨r, 9, none⟩ v9) ⟨r, 10, none⟩ v10) ⟨r, 11, none⟩ v11) r T [v0, v1, v2, v3, v4, v5, v6, v7, v8, v9, v10, v11] ∧ Below w.heap.size w (World.setCell (World.setCell (World.setCell (World.setCell (World.setCell (World.setCell (World.setCell (World.setCell (World.setCell (World.setCell (World.setCell (World.setCell W ⟨r, 0, none⟩ v0) ⟨r, 1, none⟩ v1) ⟨r, 2, none⟩ v2) ⟨r, 3, none⟩ v3) ⟨r, 4, none⟩ v4) ⟨r, 5, none⟩ v5) ⟨r, 6, none⟩ v6) ⟨r, 7, none⟩ v7) ⟨r, 8, none⟩ v8) ⟨r, 9, none⟩ v9) ⟨r, 10, none⟩ v10) ⟨r, 11, none⟩ v11) ∧
    (∀ (B c : Nat) (A : Option Addr) (l : List Int), T ≠ 3 → AccI W B A c l → AccI (World.setCell (World.setCell (World.setCell (World.setCell (World.setCell (World.setCell (World.setCell (World.setCell (World.setCell (World.setCell (World.setCell (World.setCell W ⟨r, 0, none⟩ v0) ⟨r, 1, none⟩ v1) ⟨r, 2, none⟩ v2) ⟨r, 3, none⟩ v3) ⟨r, 4, none⟩ v4) ⟨r, 5, none⟩ v5) ⟨r, 6, none⟩ v6) ⟨r, 7, none⟩ v7) ⟨r, 8, none⟩ v8) ⟨r, 9, none⟩ v9) ⟨r, 10, none⟩ v10) ⟨r, 11, none⟩ v11) B A c l) := by
  refine ⟨((((((((((((hB.set 0 (v0)).set 1 (v1)).set 2 (v2)).set 3 (v3)).set 4 (v4)).set 5 (v5)).set 6 (v6)).set 7 (v7)).set 8 (v8)).set 9 (v9)).set 10 (v10)).set 11 (v11)), ((((((((((((hb.setCell (p := ⟨r, 0, none⟩) hr v0).setCell (p := ⟨r, 1, none⟩) hr v1).setCell (p := ⟨r, 2, none⟩) hr v2).setCell (p := ⟨r, 3, none⟩) hr v3).setCell (p := ⟨r, 4, none⟩) hr v4).setCell (p := ⟨r, 5, none⟩) hr v5).setCell (p := ⟨r, 6, none⟩) hr v6).setCell (p := ⟨r, 7, none⟩) hr v7).setCell (p := ⟨r, 8, none⟩) hr v8).setCell (p := ⟨r, 9, none⟩) hr v9).setCell (p := ⟨r, 10, none⟩) hr v10).setCell (p := ⟨r, 11, none⟩) hr v11), ?_⟩
  intro B c A l hT ha
  refine AccR.kept ha (upd_trans (upd_trans (upd_trans (upd_trans (upd_trans (upd_trans (upd_trans (upd_trans (upd_trans (upd_trans (upd_trans (upd_set_p W r 0 (v0)) (upd_set_p _ _ 1 (v1))) (upd_set_p _ _ 2 (v2))) (upd_set_p _ _ 3 (v3))) (upd_set_p _ _ 4 (v4))) (upd_set_p _ _ 5 (v5))) (upd_set_p _ _ 6 (v6))) (upd_set_p _ _ 7 (v7))) (upd_set_p _ _ 8 (v8))) (upd_set_p _ _ 9 (v9))) (upd_set_p _ _ 10 (v10))) (upd_set_p _ _ 11 (v11))) ?_
  intro k hk e
  exact typ_ne (accr_typ ha hk) hB.typ (Ne.symm hT) (by injection e with e; exact e.symm)

/-- What is known once it is decided whether the class and the type are right. -/
def CutUn (w : World) (cl ty : Int) (s : Value) (v : Value) (W : World) : Prop :=
  (Blk W w.heap.size 67 [.int .i64 cl, .int .i64 ty, s] ∧ Blk W (w.heap.size + 1) 65 [.int .i64 0, .int .i64 0, .int .i64 0, .int .i64 0, .int .u64 0, .slice none 0 0, .int .u64 0, .int .i64 0, .int .i64 0, .int .u32 0, .int .u32 0, .int .u32 0] ∧ Below w.heap.size w W) ∧ ∃ u, v = .bool u ∧ ((u = true ∧ (knd cl = 0 ∨ ty ≠ knd cl)) ∨ (u = false ∧ ¬ knd cl = 0 ∧ ty = knd cl))
/-- What is known once it is decided whether all was read. -/
def CutV (w : World) (o : Int × Int × List UInt8) (q : Nat) (v : Value) (W : World) : Prop :=
  ∃ y : It, (Blk W (w.heap.size + 1) 65 [.int .i64 0, .int .i64 0, .int .i64 0, .int .i64 0, .int .u64 0, .slice none 0 0, .int .u64 0, .int .i64 0, .int .i64 0, .int .u32 0, .int .u32 0, .int .u32 0] ∧ Blk W q 65 y.cells ∧ y.ln = y.l.length ∧ AccI W w.heap.size y.la y.lc y.l ∧ Below w.heap.size w W) ∧ ∃ u, v = .bool u ∧ ((u = true ∧ unpack o = none) ∨ (u = false ∧ unpack o = some y.val))

theorem unpack_none {o : Int × Int × List UInt8} (h : knd o.1 = 0 ∨ o.2.1 ≠ knd o.1 ∨ (DSt.fields (.blank o.1) (.rd o.2.2 0 0 false)).2.done = false) : unpack o = none := by
  unfold unpack
  by_cases hk : knd o.1 = 0
  · rw [if_pos hk]
  · rw [if_neg hk]
    by_cases ht : o.2.1 = knd o.1
    · rw [if_pos ht]
      rcases h with h | h | h
      · exact absurd h hk
      · exact absurd ht h
      · rw [h]; rfl
    · rw [if_neg ht]
theorem unpack_yes {o : Int × Int × List UInt8} (h1 : ¬ knd o.1 = 0) (h2 : o.2.1 = knd o.1) (h3 : (DSt.fields (.blank o.1) (.rd o.2.2 0 0 false)).2.done = true) : unpack o = some (DSt.fields (.blank o.1) (.rd o.2.2 0 0 false)).1 := by
  unfold unpack
  rw [if_neg h1, if_pos h2, if_pos h3]

set_option maxRecDepth 100000 in
set_option maxHeartbeats 3200000 in
theorem unpack_calls (cl ty : Int) (a : Option Addr) (n c : Nat) (l : List UInt8) (w : World) (h : Bts w w.heap.size a n l) (hn : n ≤ 140737488355328) :
    Calls Try.prog 37 #[.agg #[.int .i64 cl, .int .i64 ty, .slice a n c]] w (UnpackPost w (cl, ty, l)) := by
  have hn1 := Blk.new (w.alloc (.cells (([.int .i64 cl, .int .i64 ty, .slice a n c] : List Value).toArray) 67)) 65 [.int .i64 0, .int .i64 0, .int .i64 0, .int .i64 0, .int .u64 0, .slice none 0 0, .int .u64 0, .int .i64 0, .int .i64 0, .int .u32 0, .int .u32 0, .int .u32 0]
  simp only [World.size_alloc] at hn1
  have H0 := Lib.hid ((Blk.new w 67 [.int .i64 cl, .int .i64 ty, .slice a n c]).alloc (.cells ([.int .i64 0, .int .i64 0, .int .i64 0, .int .i64 0, .int .u64 0, .slice none 0 0, .int .u64 0, .int .i64 0, .int .i64 0, .int .u32 0, .int .u32 0, .int .u32 0] : List Value).toArray 65))
  have H1 := Lib.hid hn1
  have HB := Lib.hid (bel_new (bel_new (Below.refl w.heap.size w) (.cells (([.int .i64 cl, .int .i64 ty, .slice a n c] : List Value).toArray) 67)) (.cells ([.int .i64 0, .int .i64 0, .int .i64 0, .int .i64 0, .int .u64 0, .slice none 0 0, .int .u64 0, .int .i64 0, .int .i64 0, .int .u32 0, .int .u32 0, .int .u32 0] : List Value).toArray 65))
  have HT := Lib.hid h
  clear hn1 h
  go_enter Try.func37, Try.ntmps37
  go_upto_region 1 with fail
  revert H0 H1 HB
  generalize World.alloc (World.alloc w _) _ = W1
  intro H0 H1 HB
  go_cut [17] (fun v W => CutUn w cl ty (.slice a n c) v W)
  case first =>
    have x0 := H0.out.cell 0
    have x1 := H0.out.cell 1
    simp only [List.getElem?_cons_zero, List.getElem?_cons_succ] at x0 x1
    have HC := Lib.hid (And.intro x0 x1)
    clear x0 x1
    have hk := kind_calls cl
    by_cases h0 : knd cl = 0
    · rw [h0] at hk
      go_wp2
      refine region_seq (fun W => W.cell? ⟨w.heap.size, 0, none⟩ = some (.int .i64 cl) ∧ W.cell? ⟨w.heap.size, 1, none⟩ = some (.int .i64 ty))
        [(0, true), (1, true), (2, false), (3, true), (4, true), (5, true), (6, true), (7, true), (8, true), (9, true), (10, true), (11, true)]
        (by kernel_rfl) (by kernel_rfl) (by kernel_rfl) (by kernel_rfl) (fun _ _ _ _ _ h => h) HC.out ?_
      repeat
        first
        | (refine seq_pure (v := ?_) rfl (by rfl) (fun W hW => ?_) ?_
           rotate_left
           · obtain ⟨d0, d1⟩ := hW
             go_simp
             try with_reducible rfl
           simp only [Act.put, List.setIfInBounds_toArray, List.set_cons_zero, List.set_cons_succ])
        | (refine seq_skip rfl (by rfl) ?_
           simp only [Act.put, List.setIfInBounds_toArray, List.set_cons_zero, List.set_cons_succ])
      refine seq_make rfl (by rfl) (fun K hK => ?_)
      go_simp
      ((with_reducible refine (hk _).mono ?_))
      rintro e w6 ⟨rfl, rfl⟩
      go_simp
      refine hK _ _ (fun W => W.cell? ⟨w.heap.size, 0, none⟩ = some (.int .i64 cl) ∧ W.cell? ⟨w.heap.size, 1, none⟩ = some (.int .i64 ty)) (fun W h => h) HC.out ?_
      clear hK K hk
      repeat
        first
        | (refine seq_pure (v := ?_) rfl (by rfl) (fun W hW => ?_) ?_
           rotate_left
           · obtain ⟨d0, d1⟩ := hW
             go_simp
             try with_reducible rfl
           simp only [Act.put, List.setIfInBounds_toArray, List.set_cons_zero, List.set_cons_succ])
        | (refine seq_skip rfl (by rfl) ?_
           simp only [Act.put, List.setIfInBounds_toArray, List.set_cons_zero, List.set_cons_succ])
      refine seq_done ?_
      go_wp2
      go_meet
      exact ⟨⟨H0.out.drew, H1.out.drew, bel_drewN HB.out 1⟩, true, rfl, .inl ⟨rfl, .inl h0⟩⟩
    · have HK0 := Lib.hid h0
      obtain ⟨kk, hkk⟩ : ∃ kk, kk = knd cl := ⟨_, rfl⟩
      rw [← hkk] at hk h0
      have h0' : (kk == 0) = false := by rw [beq_eq_false_iff_ne]; exact h0
      have HKK := Lib.hid hkk
      clear hkk
      by_cases ht : ty = kk
      · have HTY := Lib.hid ht
        have ht' : (ty == kk) = true := by rw [beq_iff_eq]; exact ht
        have ht2 : (ty != kk) = false := by simp [ht]
        clear ht
        go_wp2
        refine region_seq (fun W => W.cell? ⟨w.heap.size, 0, none⟩ = some (.int .i64 cl) ∧ W.cell? ⟨w.heap.size, 1, none⟩ = some (.int .i64 ty))
          [(0, true), (1, true), (2, false), (3, true), (4, true), (5, true), (6, true), (7, true), (8, true), (9, false), (10, true), (11, true)]
          (by kernel_rfl) (by kernel_rfl) (by kernel_rfl) (by kernel_rfl) (fun _ _ _ _ _ h => h) HC.out ?_
        repeat
          first
          | (refine seq_pure (v := ?_) rfl (by rfl) (fun W hW => ?_) ?_
             rotate_left
             · obtain ⟨d0, d1⟩ := hW
               go_simp
               try with_reducible rfl
             simp only [Act.put, List.setIfInBounds_toArray, List.set_cons_zero, List.set_cons_succ])
          | (refine seq_skip rfl (by rfl) ?_
             simp only [Act.put, List.setIfInBounds_toArray, List.set_cons_zero, List.set_cons_succ])
        refine seq_make rfl (by rfl) (fun K hK => ?_)
        go_simp
        ((with_reducible refine (hk _).mono ?_))
        rintro e w6 ⟨rfl, rfl⟩
        go_simp
        refine hK _ _ (fun W => W.cell? ⟨w.heap.size, 0, none⟩ = some (.int .i64 cl) ∧ W.cell? ⟨w.heap.size, 1, none⟩ = some (.int .i64 ty)) (fun W h => h) HC.out ?_
        clear hK K
        repeat
          first
          | (refine seq_pure (v := ?_) rfl (by rfl) (fun W hW => ?_) ?_
             rotate_left
             · obtain ⟨d0, d1⟩ := hW
               go_simp
               try with_reducible rfl
             simp only [Act.put, List.setIfInBounds_toArray, List.set_cons_zero, List.set_cons_succ])
          | (refine seq_skip rfl (by rfl) ?_
             simp only [Act.put, List.setIfInBounds_toArray, List.set_cons_zero, List.set_cons_succ])
        refine seq_make rfl (by rfl) (fun K hK => ?_)
        go_simp
        ((with_reducible refine (hk _).mono ?_))
        rintro e w6 ⟨rfl, rfl⟩
        go_simp
        refine hK _ _ (fun W => W.cell? ⟨w.heap.size, 0, none⟩ = some (.int .i64 cl) ∧ W.cell? ⟨w.heap.size, 1, none⟩ = some (.int .i64 ty)) (fun W h => h) HC.out ?_
        clear hK K hk
        repeat
          first
          | (refine seq_pure (v := ?_) rfl (by rfl) (fun W hW => ?_) ?_
             rotate_left
             · obtain ⟨d0, d1⟩ := hW
               go_simp
               try with_reducible rfl
             simp only [Act.put, List.setIfInBounds_toArray, List.set_cons_zero, List.set_cons_succ])
          | (refine seq_skip rfl (by rfl) ?_
             simp only [Act.put, List.setIfInBounds_toArray, List.set_cons_zero, List.set_cons_succ])
        refine seq_done ?_
        go_wp2
        go_meet
        exact ⟨⟨H0.out.drew, H1.out.drew, bel_drewN HB.out 1⟩, false, rfl, .inr ⟨rfl, HK0.out, by rw [← HKK.out]; exact HTY.out⟩⟩
      · have HTY := Lib.hid ht
        have ht' : (ty == kk) = false := by rw [beq_eq_false_iff_ne]; exact ht
        have ht2 : (ty != kk) = true := by simp [ht]
        clear ht
        go_wp2
        refine region_seq (fun W => W.cell? ⟨w.heap.size, 0, none⟩ = some (.int .i64 cl) ∧ W.cell? ⟨w.heap.size, 1, none⟩ = some (.int .i64 ty))
          [(0, true), (1, true), (2, false), (3, true), (4, true), (5, true), (6, true), (7, true), (8, true), (9, false), (10, true), (11, true)]
          (by kernel_rfl) (by kernel_rfl) (by kernel_rfl) (by kernel_rfl) (fun _ _ _ _ _ h => h) HC.out ?_
        repeat
          first
          | (refine seq_pure (v := ?_) rfl (by rfl) (fun W hW => ?_) ?_
             rotate_left
             · obtain ⟨d0, d1⟩ := hW
               go_simp
               try with_reducible rfl
             simp only [Act.put, List.setIfInBounds_toArray, List.set_cons_zero, List.set_cons_succ])
          | (refine seq_skip rfl (by rfl) ?_
             simp only [Act.put, List.setIfInBounds_toArray, List.set_cons_zero, List.set_cons_succ])
        refine seq_make rfl (by rfl) (fun K hK => ?_)
        go_simp
        ((with_reducible refine (hk _).mono ?_))
        rintro e w6 ⟨rfl, rfl⟩
        go_simp
        refine hK _ _ (fun W => W.cell? ⟨w.heap.size, 0, none⟩ = some (.int .i64 cl) ∧ W.cell? ⟨w.heap.size, 1, none⟩ = some (.int .i64 ty)) (fun W h => h) HC.out ?_
        clear hK K
        repeat
          first
          | (refine seq_pure (v := ?_) rfl (by rfl) (fun W hW => ?_) ?_
             rotate_left
             · obtain ⟨d0, d1⟩ := hW
               go_simp
               try with_reducible rfl
             simp only [Act.put, List.setIfInBounds_toArray, List.set_cons_zero, List.set_cons_succ])
          | (refine seq_skip rfl (by rfl) ?_
             simp only [Act.put, List.setIfInBounds_toArray, List.set_cons_zero, List.set_cons_succ])
        refine seq_make rfl (by rfl) (fun K hK => ?_)
        go_simp
        ((with_reducible refine (hk _).mono ?_))
        rintro e w6 ⟨rfl, rfl⟩
        go_simp
        refine hK _ _ (fun W => W.cell? ⟨w.heap.size, 0, none⟩ = some (.int .i64 cl) ∧ W.cell? ⟨w.heap.size, 1, none⟩ = some (.int .i64 ty)) (fun W h => h) HC.out ?_
        clear hK K hk
        repeat
          first
          | (refine seq_pure (v := ?_) rfl (by rfl) (fun W hW => ?_) ?_
             rotate_left
             · obtain ⟨d0, d1⟩ := hW
               go_simp
               try with_reducible rfl
             simp only [Act.put, List.setIfInBounds_toArray, List.set_cons_zero, List.set_cons_succ])
          | (refine seq_skip rfl (by rfl) ?_
             simp only [Act.put, List.setIfInBounds_toArray, List.set_cons_zero, List.set_cons_succ])
        refine seq_done ?_
        go_wp2
        go_meet
        exact ⟨⟨H0.out.drew, H1.out.drew, bel_drewN HB.out 1⟩, true, rfl, .inl ⟨rfl, .inr (by rw [← HKK.out]; exact HTY.out)⟩⟩
  case rest =>
    obtain ⟨⟨h0, h1, hb⟩, v, rfl, hv⟩ := hcut
    clear H0 H1 HB
    have H0 := Lib.hid h0
    have H1 := Lib.hid h1
    have HB := Lib.hid hb
    clear h0 h1 hb
    rcases hv with ⟨rfl, hp⟩ | ⟨rfl, hk, hty⟩
    · have HP := Lib.hid (show unpack (cl, ty, l) = none from unpack_none (by rcases hp with h | h; exact .inl h; exact .inr (.inl h)))
      clear hp
      have r0 := H1.out.cell 0
      have g0 := H1.out.free 0
      have r1 := H1.out.cell 1
      have g1 := H1.out.free 1
      have r2 := H1.out.cell 2
      have g2 := H1.out.free 2
      have r3 := H1.out.cell 3
      have g3 := H1.out.free 3
      have r4 := H1.out.cell 4
      have g4 := H1.out.free 4
      have r5 := H1.out.cell 5
      have g5 := H1.out.free 5
      have r6 := H1.out.cell 6
      have g6 := H1.out.free 6
      have r7 := H1.out.cell 7
      have g7 := H1.out.free 7
      have r8 := H1.out.cell 8
      have g8 := H1.out.free 8
      have r9 := H1.out.cell 9
      have g9 := H1.out.free 9
      have r10 := H1.out.cell 10
      have g10 := H1.out.free 10
      have r11 := H1.out.cell 11
      have g11 := H1.out.free 11
      simp only [List.getElem?_cons_zero, List.getElem?_cons_succ] at r0 r1 r2 r3 r4 r5 r6 r7 r8 r9 r10 r11
      go_wp2
      clear r0 g0 r1 g1 r2 g2 r3 g3 r4 g4 r5 g5 r6 g6 r7 g7 r8 g8 r9 g9 r10 g10 r11 g11
      have HO := Lib.hid (item_put HB.out (by omega) H1.out (.int .i64 0) (.int .i64 0) (.int .i64 0) (.int .i64 0) (.int .u64 0) (.slice none 0 0) (.int .u64 0) (.int .i64 0) (.int .i64 0) (.int .u32 0) (.int .u32 0) (.int .u32 0))
      revert HO
      generalize World.setCell (World.setCell (World.setCell (World.setCell (World.setCell (World.setCell (World.setCell (World.setCell (World.setCell (World.setCell (World.setCell (World.setCell wc _ _) _ _) _ _) _ _) _ _) _ _) _ _) _ _) _ _) _ _) _ _) _ _ = W5
      intro HO
      have y0 := HO.out.1.cell 0
      have y1 := HO.out.1.cell 1
      have y2 := HO.out.1.cell 2
      have y3 := HO.out.1.cell 3
      have y4 := HO.out.1.cell 4
      have y5 := HO.out.1.cell 5
      have y6 := HO.out.1.cell 6
      have y7 := HO.out.1.cell 7
      have y8 := HO.out.1.cell 8
      have y9 := HO.out.1.cell 9
      have y10 := HO.out.1.cell 10
      have y11 := HO.out.1.cell 11
      simp only [List.getElem?_cons_zero, List.getElem?_cons_succ] at y0 y1 y2 y3 y4 y5 y6 y7 y8 y9 y10 y11
      refine bodyPost_ret (v := .tuple #[.agg #[.int .i64 0, .int .i64 0, .int .i64 0, .int .i64 0, .int .u64 0, .slice none 0 0, .int .u64 0, .int .i64 0, .int .i64 0, .int .u32 0, .int .u32 0, .int .u32 0], .int .i64 5]) (by simp [results, Try.results37, go_sem, y0, y1, y2, y3, y4, y5, y6, y7, y8, y9, y10, y11]) rfl ?_
      exact ⟨HO.out.2.1, .inl ⟨HP.out, rfl⟩⟩
    · have HKN := Lib.hid hk
      have HTY := Lib.hid hty
      clear hk hty
      have x2 := H0.out.cell 2
      simp only [List.getElem?_cons_zero, List.getElem?_cons_succ] at x2
      have hcn := new_calls a n c l wc ((HT.out.below HB.out).more HB.out.size) hn
      go_wp2_with fail
      ((with_reducible refine hcn.mono ?_))
      rintro e W2 ⟨r, g, rfl, hr, hg, hrd, hb2⟩
      clear hcn x2
      have HRD := Lib.hid (hrd.bel (bel_new (Below.refl _ _) (.cells (([.pointer (some ⟨r, 0, none⟩), .bool false] : List Value).toArray) 111)))
      have HP := Lib.hid (Blk.new W2 111 [.pointer (some ⟨r, 0, none⟩), .bool false])
      have H02 := Lib.hid ((H0.out.below hb2).alloc (.cells (([.pointer (some ⟨r, 0, none⟩), .bool false] : List Value).toArray) 111))
      have H12 := Lib.hid ((H1.out.below hb2).alloc (.cells (([.pointer (some ⟨r, 0, none⟩), .bool false] : List Value).toArray) 111))
      have HB2 := Lib.hid (bel_new (bel_more HB.out (Nat.le_refl _) hb2) (.cells (([.pointer (some ⟨r, 0, none⟩), .bool false] : List Value).toArray) 111))
      have hlt := H1.out.lt
      have HN := Lib.hid (show w.heap.size + 1 < r ∧ w.heap.size + 1 < W2.heap.size by have := hb2.size; omega)
      clear H0 H1 HB hr hg hrd hb2 hlt
      go_upto_region 4 with fail
      revert HRD HP H02 H12 HB2
      generalize World.alloc W2 _ = W3
      intro HRD HP H02 H12 HB2
      obtain ⟨p, hp⟩ : ∃ p, p = W2.heap.size := ⟨_, rfl⟩
      rw [← hp] at HP HN ⊢
      clear hp
      have hd : Dir W3 w.heap.size [p, r] 109 p (.rd l 0 0 false) := ⟨rfl, r, g, rfl, by have := HN.out; omega, by have := HN.out; omega, HP.out, HRD.out⟩
      have hc : Calls Try.prog 52 #[.iface 109 (.pointer (some ⟨p, 0, none⟩)), .agg #[.int .i64 cl, .int .i64 0, .int .i64 0, .int .i64 0, .int .u64 0, .slice none 0 0, .int .u64 0, .int .i64 0, .int .i64 0, .int .u32 0, .int .u32 0, .int .u32 0]] W3 (FldPost W3 w.heap.size [p, r] 109 p (DSt.fields (.blank cl) (.rd l 0 0 false))) :=
        fields_calls hd ⟨cl, 0, 0, 0, 0, none, 0, 0, [], Wnt.zero⟩ Row.nil (Nat.zero_le _) (by simp) (by simp [Wnt.zero]) (by simp [Wnt.zero]) (by simp [Wnt.zero]) (by simp [DSt.len]) HB2.out.size
      clear hd
      have x0 := H02.out.cell 0
      simp only [List.getElem?_cons_zero] at x0
      go_wp2_with fail
      ((with_reducible refine hc.mono ?_))
      rintro e W4 ⟨y, rfl, hv, ha, hyn, hd, ht⟩
      clear hc x0
      obtain ⟨i', err', bad', e4, hi', _⟩ := run_rd_inv (rqs ((DSt.rd l 0 0 false).many 0) (.blank cl)) l 0 0 false (Nat.zero_le _)
      have e5 : (DSt.fields (.blank cl) (.rd l 0 0 false)).2 = .rd l i' err' bad' := e4
      rw [e5] at hd
      obtain ⟨_, r', g', hS, _, _, hpb, hrd⟩ := hd
      obtain rfl : r = r' := by simpa using hS
      have h12 := H12.out.same (ht.block _ H12.out.lt (by have := HN.out; simp; omega))
      have hb4 := Turn.bel HB2.out (Nat.le_refl _) ht (by have := HN.out; simp; omega)
      have HPB := Lib.hid (hpb.alloc (.cells y.cells.toArray 65))
      have HRD4 := Lib.hid (hrd.bel (bel_new (Below.refl _ _) (.cells y.cells.toArray 65)))
      have HY := Lib.hid (Blk.new W4 65 y.cells)
      have H14 := Lib.hid (h12.alloc (.cells y.cells.toArray 65))
      have HA := Lib.hid ((AccR.lower ha HB2.out.size).alloc (.cells y.cells.toArray 65))
      have HB4 := Lib.hid (bel_new hb4 (.cells y.cells.toArray 65))
      have HYN := Lib.hid hyn
      have HV := Lib.hid hv
      have HE := Lib.hid e5
      clear hpb hrd h12 ha hb4 hyn hv e4 e5 ht HRD HP H02 H12 HB2 hS
      obtain ⟨ycl, ya, yb, yc, yu, yla, yln, ylc, yl, ybw, ysu, yho, yan, yal, yno⟩ := y
      simp only [It.cells] at HPB HRD4 HY H14 HA HB4 ⊢
      go_upto_region 5 with fail
      revert HPB HRD4 HY H14 HA HB4
      generalize World.alloc W4 _ = W5
      intro HPB HRD4 HY H14 HA HB4
      obtain ⟨q, hq⟩ : ∃ q, q = W4.heap.size := ⟨_, rfl⟩
      rw [← hq] at HY ⊢
      clear hq
      go_cut [49] (fun v W => CutV w (cl, ty, l) q v W)
      case first =>
        have c0 := HPB.out.cell 0
        have c1 := HPB.out.cell 1
        simp only [List.getElem?_cons_zero, List.getElem?_cons_succ] at c0 c1
        cases bad' with
        | true =>
          go_wp2
          go_meet
          exact ⟨⟨ycl, ya, yb, yc, yu, yla, yln, ylc, yl, ⟨ybw, ysu, yho, yan, yal, yno⟩⟩, ⟨H14.out, HY.out, HYN.out, HA.out, HB4.out⟩, true, rfl, .inl ⟨rfl, unpack_none (.inr (.inr (by rw [HE.out]; rfl)))⟩⟩
        | false =>
          have he := err_calls HRD4.out
          by_cases h0 : err' = 0
          · subst h0
            have hl := left_calls HRD4.out
            obtain ⟨d, hd⟩ : ∃ d : Nat, l.length = i' + d := ⟨l.length - i', by omega⟩
            have hdd : (l.length : Int) - (i' : Int) = (d : Int) := by omega
            rw [hdd] at hl
            clear hdd
            go_wp2_with fail
            ((with_reducible refine he.mono ?_))
            rintro e w6 ⟨rfl, rfl⟩
            go_wp2_with fail
            ((with_reducible refine hl.mono ?_))
            rintro e w6 ⟨rfl, m, rfl⟩
            by_cases h1 : d = 0
            · subst h1
              have HD := Lib.hid hd
              clear hd he hl
              go_wp2
              go_meet
              refine ⟨⟨ycl, ya, yb, yc, yu, yla, yln, ylc, yl, ⟨ybw, ysu, yho, yan, yal, yno⟩⟩, ⟨H14.out.drewN m, HY.out.drewN m, HYN.out, AccR.drewN HA.out m, bel_drewN HB4.out m⟩, false, rfl, .inr ⟨rfl, ?_⟩⟩
              rw [HV.out]
              refine unpack_yes HKN.out HTY.out ?_
              rw [HE.out]
              simp [DSt.done, HD.out]
            · have h1' : ((d : Int) == 0) = false := by rw [beq_eq_false_iff_ne]; omega
              have h1'' : ¬ (d : Int) = 0 := by omega
              have HD := Lib.hid hd
              have HNZ := Lib.hid h1
              have HB0 := Lib.hid (show ((d : Int) != 0) = true from bne_iff_ne.2 h1'')
              clear hd he hl
              go_wp2
              go_meet
              refine ⟨⟨ycl, ya, yb, yc, yu, yla, yln, ylc, yl, ⟨ybw, ysu, yho, yan, yal, yno⟩⟩, ⟨H14.out.drewN m, HY.out.drewN m, HYN.out, AccR.drewN HA.out m, bel_drewN HB4.out m⟩, true, by rw [HB0.out], .inl ⟨rfl, unpack_none (.inr (.inr ?_))⟩⟩
              rw [HE.out]
              have := HNZ.out
              have := HD.out
              simp [DSt.done]
              omega
          · have HNZ := Lib.hid h0
            go_wp2_with fail
            ((with_reducible refine he.mono ?_))
            rintro e w6 ⟨rfl, rfl⟩
            clear he
            go_wp2
            go_meet
            refine ⟨⟨ycl, ya, yb, yc, yu, yla, yln, ylc, yl, ⟨ybw, ysu, yho, yan, yal, yno⟩⟩, ⟨H14.out, HY.out, HYN.out, HA.out, HB4.out⟩, true, rfl, .inl ⟨rfl, unpack_none (.inr (.inr ?_))⟩⟩
            rw [HE.out]
            simp [DSt.done, HNZ.out]
      case rest =>
        obtain ⟨y, ⟨h1, h2, h3, h4, h5⟩, v, rfl, hv⟩ := hcut
        clear HPB HRD4 HY H14 HA HB4 HYN HV HE HN HKN HTY
        have H1 := Lib.hid h1
        have H2 := Lib.hid h2
        have H3 := Lib.hid h3
        have H4 := Lib.hid h4
        have HB := Lib.hid h5
        clear h1 h2 h3 h4 h5
        have r0 := H1.out.cell 0
        have g0 := H1.out.free 0
        have r1 := H1.out.cell 1
        have g1 := H1.out.free 1
        have r2 := H1.out.cell 2
        have g2 := H1.out.free 2
        have r3 := H1.out.cell 3
        have g3 := H1.out.free 3
        have r4 := H1.out.cell 4
        have g4 := H1.out.free 4
        have r5 := H1.out.cell 5
        have g5 := H1.out.free 5
        have r6 := H1.out.cell 6
        have g6 := H1.out.free 6
        have r7 := H1.out.cell 7
        have g7 := H1.out.free 7
        have r8 := H1.out.cell 8
        have g8 := H1.out.free 8
        have r9 := H1.out.cell 9
        have g9 := H1.out.free 9
        have r10 := H1.out.cell 10
        have g10 := H1.out.free 10
        have r11 := H1.out.cell 11
        have g11 := H1.out.free 11
        simp only [List.getElem?_cons_zero, List.getElem?_cons_succ] at r0 r1 r2 r3 r4 r5 r6 r7 r8 r9 r10 r11
        rcases hv with ⟨rfl, hp⟩ | ⟨rfl, hp⟩
        · have HP := Lib.hid hp
          clear hp
          go_wp2
          clear r0 g0 r1 g1 r2 g2 r3 g3 r4 g4 r5 g5 r6 g6 r7 g7 r8 g8 r9 g9 r10 g10 r11 g11
          have HO := Lib.hid (item_put HB.out (by omega) H1.out (.int .i64 0) (.int .i64 0) (.int .i64 0) (.int .i64 0) (.int .u64 0) (.slice none 0 0) (.int .u64 0) (.int .i64 0) (.int .i64 0) (.int .u32 0) (.int .u32 0) (.int .u32 0))
          revert HO
          generalize World.setCell (World.setCell (World.setCell (World.setCell (World.setCell (World.setCell (World.setCell (World.setCell (World.setCell (World.setCell (World.setCell (World.setCell wc _ _) _ _) _ _) _ _) _ _) _ _) _ _) _ _) _ _) _ _) _ _) _ _ = W6
          intro HO
          have y0 := HO.out.1.cell 0
          have y1 := HO.out.1.cell 1
          have y2 := HO.out.1.cell 2
          have y3 := HO.out.1.cell 3
          have y4 := HO.out.1.cell 4
          have y5 := HO.out.1.cell 5
          have y6 := HO.out.1.cell 6
          have y7 := HO.out.1.cell 7
          have y8 := HO.out.1.cell 8
          have y9 := HO.out.1.cell 9
          have y10 := HO.out.1.cell 10
          have y11 := HO.out.1.cell 11
          simp only [List.getElem?_cons_zero, List.getElem?_cons_succ] at y0 y1 y2 y3 y4 y5 y6 y7 y8 y9 y10 y11
          refine bodyPost_ret (v := .tuple #[.agg #[.int .i64 0, .int .i64 0, .int .i64 0, .int .i64 0, .int .u64 0, .slice none 0 0, .int .u64 0, .int .i64 0, .int .i64 0, .int .u32 0, .int .u32 0, .int .u32 0], .int .i64 5]) (by simp [results, Try.results37, go_sem, y0, y1, y2, y3, y4, y5, y6, y7, y8, y9, y10, y11]) rfl ?_
          exact ⟨HO.out.2.1, .inl ⟨HP.out, rfl⟩⟩
        · have HP := Lib.hid hp
          clear hp
          obtain ⟨ycl, ya, yb, yc, yu, yla, yln, ylc, yl, ybw, ysu, yho, yan, yal, yno⟩ := y
          simp only [It.cells] at H2
          have b0 := H2.out.cell 0
          have b1 := H2.out.cell 1
          have b2 := H2.out.cell 2
          have b3 := H2.out.cell 3
          have b4 := H2.out.cell 4
          have b5 := H2.out.cell 5
          have b6 := H2.out.cell 6
          have b7 := H2.out.cell 7
          have b8 := H2.out.cell 8
          have b9 := H2.out.cell 9
          have b10 := H2.out.cell 10
          have b11 := H2.out.cell 11
          simp only [List.getElem?_cons_zero, List.getElem?_cons_succ] at b0 b1 b2 b3 b4 b5 b6 b7 b8 b9 b10 b11
          go_wp2
          clear r0 g0 r1 g1 r2 g2 r3 g3 r4 g4 r5 g5 r6 g6 r7 g7 r8 g8 r9 g9 r10 g10 r11 g11 b0 b1 b2 b3 b4 b5 b6 b7 b8 b9 b10 b11
          have HO := Lib.hid (item_put HB.out (by omega) H1.out (.int .i64 ycl) (.int .i64 ya) (.int .i64 yb) (.int .i64 yc) (.int .u64 (yu : Int)) (.slice yla yln ylc) (.int .u64 (ybw : Int)) (.int .i64 ysu) (.int .i64 yho) (.int .u32 (yan : Int)) (.int .u32 (yal : Int)) (.int .u32 (yno : Int)))
          revert HO
          generalize World.setCell (World.setCell (World.setCell (World.setCell (World.setCell (World.setCell (World.setCell (World.setCell (World.setCell (World.setCell (World.setCell (World.setCell wc _ _) _ _) _ _) _ _) _ _) _ _) _ _) _ _) _ _) _ _) _ _) _ _ = W6
          intro HO
          have y0 := HO.out.1.cell 0
          have y1 := HO.out.1.cell 1
          have y2 := HO.out.1.cell 2
          have y3 := HO.out.1.cell 3
          have y4 := HO.out.1.cell 4
          have y5 := HO.out.1.cell 5
          have y6 := HO.out.1.cell 6
          have y7 := HO.out.1.cell 7
          have y8 := HO.out.1.cell 8
          have y9 := HO.out.1.cell 9
          have y10 := HO.out.1.cell 10
          have y11 := HO.out.1.cell 11
          simp only [List.getElem?_cons_zero, List.getElem?_cons_succ] at y0 y1 y2 y3 y4 y5 y6 y7 y8 y9 y10 y11
          refine bodyPost_ret (v := .tuple #[.agg #[.int .i64 ycl, .int .i64 ya, .int .i64 yb, .int .i64 yc, .int .u64 (yu : Int), .slice yla yln ylc, .int .u64 (ybw : Int), .int .i64 ysu, .int .i64 yho, .int .u32 (yan : Int), .int .u32 (yal : Int), .int .u32 (yno : Int)], .int .i64 0]) (by simp [results, Try.results37, go_sem, y0, y1, y2, y3, y4, y5, y6, y7, y8, y9, y10, y11]) rfl ?_
          exact ⟨HO.out.2.1, .inr ⟨⟨ycl, ya, yb, yc, yu, yla, yln, ylc, yl, ⟨ybw, ysu, yho, yan, yal, yno⟩⟩, HP.out, H3.out, rfl, HO.out.2.2 _ _ _ _ (by decide) H4.out⟩⟩
end Go.Proofs.Ythmgpffpiggomaa
