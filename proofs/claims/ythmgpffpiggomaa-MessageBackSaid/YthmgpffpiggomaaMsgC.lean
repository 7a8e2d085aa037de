/-
  What the parts of a message read into it. Conditions: the message's lists, and the item's, read as numbers, and do not lie in the message's block.
-/
import Derived.Test.YthmgpffpiggomaaMsgB
namespace Go.Proofs.Ythmgpffpiggomaa
open Go.RowKit

/-- A slice of these numbers does not lie in block 'q'. -/
def Off (q : Nat) (a : Option Addr) (n : Nat) : Prop := 0 < n → ∀ k, blk a = some k → k ≠ q
theorem Off.zero (q : Nat) (a : Option Addr) : Off q a 0 := fun h => absurd h (by omega)
theorem off_below {w : World} {B q n : Nat} {a : Option Addr} {l : List Int} (h : Row ei w B a n l) (hq : B ≤ q) : Off q a n := by
  intro hn k hk e
  have hn' := h.1
  obtain ⟨b, o, rfl, hb, _⟩ := h.2 hn
  injection hk with hk
  have hk' : b = k := hk
  omega
theorem off_acc {w : World} {base c q : Nat} {A : Option Addr} {l : List Int} {T : TypeId} {vs : List Value} (h : AccI w base A c l) (hq : Blk w q T vs) (hT : T ≠ 3) : Off q A l.length :=
  fun _ _ hk => typ_ne (accr_typ h hk) hq.typ (Ne.symm hT)
theorem row_off {w w' : World} {q n : Nat} {a : Option Addr} {l : List Int} (h : Row ei w w.heap.size a n l) (ho : Off q a n) (hg : w.grownBy w' (some q)) : Row ei w' w'.heap.size a n l := by
  refine ⟨h.1, fun hn => ?_⟩
  have hn' := h.1
  obtain ⟨b, o, rfl, hb, hc⟩ := h.2 hn
  have hne := ho hn b rfl
  exact ⟨b, o, rfl, Nat.lt_of_lt_of_le hb hg.size, fun i hi => (World.cell?_of_block (w := w) (hg.block b hb (fun e => hne (by injection e)))).trans (hc i hi)⟩
/-- A message, an item, of which no list lies in block 'q'. -/
def Mem (w : World) (q : Nat) (m : Ms) : Prop := FineM w w.heap.size m ∧ Off q m.ra m.rn ∧ Off q m.oa m.on
def MemI (w : World) (q : Nat) (x : It) : Prop := Fine w w.heap.size x ∧ Off q x.la x.ln
theorem Mem.grown {w w' : World} {q : Nat} {m : Ms} (h : Mem w q m) (hg : w.grownBy w' (some q)) : Mem w' q m :=
  ⟨⟨row_off h.1.row h.2.1 hg, h.1.len, row_off h.1.row2 h.2.2 hg, h.1.len2, h.1.bw, h.1.any, h.1.all, h.1.non⟩, h.2⟩
theorem MemI.grown {w w' : World} {q : Nat} {x : It} (h : MemI w q x) (hg : w.grownBy w' (some q)) : MemI w' q x :=
  ⟨⟨row_off h.1.row h.2 hg, h.1.len, h.1.u, h.1.any, h.1.all, h.1.non⟩, h.2⟩
theorem Mem.bel {w w' : World} {q : Nat} {m : Ms} (h : Mem w q m) (hb : Below w.heap.size w w') : Mem w' q m := ⟨(h.1.below hb).more hb.size, h.2⟩
theorem MemI.bel {w w' : World} {q : Nat} {x : It} (h : MemI w q x) (hb : Below w.heap.size w w') : MemI w' q x := ⟨h.1.up hb, h.2⟩

/-- What a part's reading leaves behind. -/
def RdPost (w : World) (q : Nat) (M : Ms) (x : It) (y : PMs) (e : Ending) (w' : World) : Prop :=
  e = .returned (.tuple #[]) ∧ ∃ m : Ms, m.val = y ∧ Blk w' q 37 m.cells ∧ Mem w' q m ∧ w.grownBy w' (some q) ∧
    ∀ Q : Option Addr → Nat → List Int → Prop, Q M.ra M.rn M.r → Q M.oa M.on M.o → Q x.la x.ln x.l → Q m.ra m.rn m.r ∧ Q m.oa m.on m.o

set_option maxRecDepth 100000 in
theorem rhop_calls (M : Ms) (x : It) (w : World) (q : Nat) (hb : Blk w q 37 M.cells) (hm : Mem w q M) (hx : MemI w q x) :
    Calls Try.prog 68 #[.pointer (some ⟨q, 0, none⟩), .agg x.cells.toArray] w (RdPost w q M x (Prt.hop.rd M.val x.val)) := by
  obtain ⟨ty, tl, kt, ku, kh, kl, fr, pe, se, ⟨bw, su, ho, an, al, no⟩, ra, rn, rc, r, oa, on, oc, o, lb, wh, co⟩ := M
  obtain ⟨xcl, xa, xb, xc, xu, xla, xln, xlc, xl, ⟨xbw, xsu, xho, xan, xal, xno⟩⟩ := x
  simp only [Ms.cells] at hb
  simp only [It.cells]
  have g6 := hb.free 6
  have b6 := hb.cell 6
  simp only [List.getElem?_cons_zero, List.getElem?_cons_succ] at b6
  have hlt := hb.lt
  have HM := Lib.hid hm
  have HX := Lib.hid hx
  have HB := Lib.hid hb
  clear hb hm hx
  go_enter Try.func68, Try.ntmps68
  go_wp2
  go_end0
  have hg := upd_trans (upd_trans (World.grownBy.refl w _) (upd_set _ q 6 (.int .i64 xa))) (World.grownBy_alloc _ (.cells ([.int .i64 xcl, .int .i64 xa, .int .i64 xb, .int .i64 xc, .int .u64 (xu : Int), .slice xla xln xlc, .int .u64 (xbw : Int), .int .i64 xsu, .int .i64 xho, .int .u32 (xan : Int), .int .u32 (xal : Int), .int .u32 (xno : Int)] : List Value).toArray 65) _)
  exact ⟨rfl, ⟨ty, tl, kt, ku, kh, kl, xa, pe, se, ⟨bw, su, ho, an, al, no⟩, ra, rn, rc, r, oa, on, oc, o, lb, wh, co⟩, rfl, Blk.alloc ((HB.out).set 6 (.int .i64 xa)) _, Mem.grown (w := w) ⟨⟨HM.out.1.row, HM.out.1.len, HM.out.1.row2, HM.out.1.len2, HM.out.1.bw, HM.out.1.any, HM.out.1.all, HM.out.1.non⟩, HM.out.2⟩ hg, hg, fun _ h1 h2 _ => ⟨h1, h2⟩⟩

set_option maxRecDepth 100000 in
theorem rtim_calls (M : Ms) (x : It) (w : World) (q : Nat) (hb : Blk w q 37 M.cells) (hm : Mem w q M) (hx : MemI w q x) :
    Calls Try.prog 70 #[.pointer (some ⟨q, 0, none⟩), .agg x.cells.toArray] w (RdPost w q M x (Prt.tim.rd M.val x.val)) := by
  obtain ⟨ty, tl, kt, ku, kh, kl, fr, pe, se, ⟨bw, su, ho, an, al, no⟩, ra, rn, rc, r, oa, on, oc, o, lb, wh, co⟩ := M
  obtain ⟨xcl, xa, xb, xc, xu, xla, xln, xlc, xl, ⟨xbw, xsu, xho, xan, xal, xno⟩⟩ := x
  simp only [Ms.cells] at hb
  simp only [It.cells]
  have g7 := hb.free 7
  have b7 := hb.cell 7
  simp only [List.getElem?_cons_zero, List.getElem?_cons_succ] at b7
  have hlt := hb.lt
  have HM := Lib.hid hm
  have HX := Lib.hid hx
  have HB := Lib.hid hb
  clear hb hm hx
  go_enter Try.func70, Try.ntmps70
  go_wp2
  go_end0
  have hg := upd_trans (upd_trans (World.grownBy.refl w _) (upd_set _ q 7 (.int .i64 (wrap64 (xu : Int))))) (World.grownBy_alloc _ (.cells ([.int .i64 xcl, .int .i64 xa, .int .i64 xb, .int .i64 xc, .int .u64 (xu : Int), .slice xla xln xlc, .int .u64 (xbw : Int), .int .i64 xsu, .int .i64 xho, .int .u32 (xan : Int), .int .u32 (xal : Int), .int .u32 (xno : Int)] : List Value).toArray 65) _)
  exact ⟨rfl, ⟨ty, tl, kt, ku, kh, kl, fr, (wrap64 (xu : Int)), se, ⟨bw, su, ho, an, al, no⟩, ra, rn, rc, r, oa, on, oc, o, lb, wh, co⟩, rfl, Blk.alloc ((HB.out).set 7 (.int .i64 (wrap64 (xu : Int)))) _, Mem.grown (w := w) ⟨⟨HM.out.1.row, HM.out.1.len, HM.out.1.row2, HM.out.1.len2, HM.out.1.bw, HM.out.1.any, HM.out.1.all, HM.out.1.non⟩, HM.out.2⟩ hg, hg, fun _ h1 h2 _ => ⟨h1, h2⟩⟩

set_option maxRecDepth 100000 in
theorem rser_calls (M : Ms) (x : It) (w : World) (q : Nat) (hb : Blk w q 37 M.cells) (hm : Mem w q M) (hx : MemI w q x) :
    Calls Try.prog 83 #[.pointer (some ⟨q, 0, none⟩), .agg x.cells.toArray] w (RdPost w q M x (Prt.ser.rd M.val x.val)) := by
  obtain ⟨ty, tl, kt, ku, kh, kl, fr, pe, se, ⟨bw, su, ho, an, al, no⟩, ra, rn, rc, r, oa, on, oc, o, lb, wh, co⟩ := M
  obtain ⟨xcl, xa, xb, xc, xu, xla, xln, xlc, xl, ⟨xbw, xsu, xho, xan, xal, xno⟩⟩ := x
  simp only [Ms.cells] at hb
  simp only [It.cells]
  have g8 := hb.free 8
  have b8 := hb.cell 8
  simp only [List.getElem?_cons_zero, List.getElem?_cons_succ] at b8
  have hlt := hb.lt
  have HM := Lib.hid hm
  have HX := Lib.hid hx
  have HB := Lib.hid hb
  clear hb hm hx
  go_enter Try.func83, Try.ntmps83
  go_wp2
  go_end0
  have hg := upd_trans (upd_trans (World.grownBy.refl w _) (upd_set _ q 8 (.int .i64 (wrap64 (xu : Int))))) (World.grownBy_alloc _ (.cells ([.int .i64 xcl, .int .i64 xa, .int .i64 xb, .int .i64 xc, .int .u64 (xu : Int), .slice xla xln xlc, .int .u64 (xbw : Int), .int .i64 xsu, .int .i64 xho, .int .u32 (xan : Int), .int .u32 (xal : Int), .int .u32 (xno : Int)] : List Value).toArray 65) _)
  exact ⟨rfl, ⟨ty, tl, kt, ku, kh, kl, fr, pe, (wrap64 (xu : Int)), ⟨bw, su, ho, an, al, no⟩, ra, rn, rc, r, oa, on, oc, o, lb, wh, co⟩, rfl, Blk.alloc ((HB.out).set 8 (.int .i64 (wrap64 (xu : Int)))) _, Mem.grown (w := w) ⟨⟨HM.out.1.row, HM.out.1.len, HM.out.1.row2, HM.out.1.len2, HM.out.1.bw, HM.out.1.any, HM.out.1.all, HM.out.1.non⟩, HM.out.2⟩ hg, hg, fun _ h1 h2 _ => ⟨h1, h2⟩⟩

set_option maxRecDepth 100000 in
theorem rrou_calls (M : Ms) (x : It) (w : World) (q : Nat) (hb : Blk w q 37 M.cells) (hm : Mem w q M) (hx : MemI w q x) :
    Calls Try.prog 72 #[.pointer (some ⟨q, 0, none⟩), .agg x.cells.toArray] w (RdPost w q M x (Prt.rou.rd M.val x.val)) := by
  obtain ⟨ty, tl, kt, ku, kh, kl, fr, pe, se, ⟨bw, su, ho, an, al, no⟩, ra, rn, rc, r, oa, on, oc, o, lb, wh, co⟩ := M
  obtain ⟨xcl, xa, xb, xc, xu, xla, xln, xlc, xl, ⟨xbw, xsu, xho, xan, xal, xno⟩⟩ := x
  simp only [Ms.cells] at hb
  simp only [It.cells]
  have g15 := hb.free 15
  have b15 := hb.cell 15
  simp only [List.getElem?_cons_zero, List.getElem?_cons_succ] at b15
  have hlt := hb.lt
  have HM := Lib.hid hm
  have HX := Lib.hid hx
  have HB := Lib.hid hb
  clear hb hm hx
  go_enter Try.func72, Try.ntmps72
  go_wp2
  go_end0
  have hg := upd_trans (upd_trans (World.grownBy.refl w _) (upd_set _ q 15 (.slice xla xln xlc))) (World.grownBy_alloc _ (.cells ([.int .i64 xcl, .int .i64 xa, .int .i64 xb, .int .i64 xc, .int .u64 (xu : Int), .slice xla xln xlc, .int .u64 (xbw : Int), .int .i64 xsu, .int .i64 xho, .int .u32 (xan : Int), .int .u32 (xal : Int), .int .u32 (xno : Int)] : List Value).toArray 65) _)
  exact ⟨rfl, ⟨ty, tl, kt, ku, kh, kl, fr, pe, se, ⟨bw, su, ho, an, al, no⟩, xla, xln, xlc, xl, oa, on, oc, o, lb, wh, co⟩, rfl, Blk.alloc ((HB.out).set 15 (.slice xla xln xlc)) _, Mem.grown (w := w) ⟨⟨HX.out.1.row, HX.out.1.len, HM.out.1.row2, HM.out.1.len2, HM.out.1.bw, HM.out.1.any, HM.out.1.all, HM.out.1.non⟩, HX.out.2, HM.out.2.2⟩ hg, hg, fun _ _ h2 h3 => ⟨h3, h2⟩⟩

set_option maxRecDepth 100000 in
theorem rrcd_calls (M : Ms) (x : It) (w : World) (q : Nat) (hb : Blk w q 37 M.cells) (hm : Mem w q M) (hx : MemI w q x) :
    Calls Try.prog 81 #[.pointer (some ⟨q, 0, none⟩), .agg x.cells.toArray] w (RdPost w q M x (Prt.rcd.rd M.val x.val)) := by
  obtain ⟨ty, tl, kt, ku, kh, kl, fr, pe, se, ⟨bw, su, ho, an, al, no⟩, ra, rn, rc, r, oa, on, oc, o, lb, wh, co⟩ := M
  obtain ⟨xcl, xa, xb, xc, xu, xla, xln, xlc, xl, ⟨xbw, xsu, xho, xan, xal, xno⟩⟩ := x
  simp only [Ms.cells] at hb
  simp only [It.cells]
  have g16 := hb.free 16
  have b16 := hb.cell 16
  simp only [List.getElem?_cons_zero, List.getElem?_cons_succ] at b16
  have hlt := hb.lt
  have HM := Lib.hid hm
  have HX := Lib.hid hx
  have HB := Lib.hid hb
  clear hb hm hx
  go_enter Try.func81, Try.ntmps81
  go_wp2
  go_end0
  have hg := upd_trans (upd_trans (World.grownBy.refl w _) (upd_set _ q 16 (.slice xla xln xlc))) (World.grownBy_alloc _ (.cells ([.int .i64 xcl, .int .i64 xa, .int .i64 xb, .int .i64 xc, .int .u64 (xu : Int), .slice xla xln xlc, .int .u64 (xbw : Int), .int .i64 xsu, .int .i64 xho, .int .u32 (xan : Int), .int .u32 (xal : Int), .int .u32 (xno : Int)] : List Value).toArray 65) _)
  exact ⟨rfl, ⟨ty, tl, kt, ku, kh, kl, fr, pe, se, ⟨bw, su, ho, an, al, no⟩, ra, rn, rc, r, xla, xln, xlc, xl, lb, wh, co⟩, rfl, Blk.alloc ((HB.out).set 16 (.slice xla xln xlc)) _, Mem.grown (w := w) ⟨⟨HM.out.1.row, HM.out.1.len, HX.out.1.row, HX.out.1.len, HM.out.1.bw, HM.out.1.any, HM.out.1.all, HM.out.1.non⟩, HM.out.2.1, HX.out.2⟩ hg, hg, fun _ h1 _ h3 => ⟨h1, h3⟩⟩

set_option maxRecDepth 100000 in
theorem rlab_calls (M : Ms) (x : It) (w : World) (q : Nat) (hb : Blk w q 37 M.cells) (hm : Mem w q M) (hx : MemI w q x) :
    Calls Try.prog 85 #[.pointer (some ⟨q, 0, none⟩), .agg x.cells.toArray] w (RdPost w q M x (Prt.lab.rd M.val x.val)) := by
  obtain ⟨ty, tl, kt, ku, kh, kl, fr, pe, se, ⟨bw, su, ho, an, al, no⟩, ra, rn, rc, r, oa, on, oc, o, lb, wh, co⟩ := M
  obtain ⟨xcl, xa, xb, xc, xu, xla, xln, xlc, xl, ⟨xbw, xsu, xho, xan, xal, xno⟩⟩ := x
  simp only [Ms.cells] at hb
  simp only [It.cells]
  have g17 := hb.free 17
  have b17 := hb.cell 17
  simp only [List.getElem?_cons_zero, List.getElem?_cons_succ] at b17
  have hlt := hb.lt
  have HM := Lib.hid hm
  have HX := Lib.hid hx
  have HB := Lib.hid hb
  clear hb hm hx
  go_enter Try.func85, Try.ntmps85
  go_wp2
  go_end0
  have hg := upd_trans (upd_trans (World.grownBy.refl w _) (upd_set _ q 17 (.int .i64 xa))) (World.grownBy_alloc _ (.cells ([.int .i64 xcl, .int .i64 xa, .int .i64 xb, .int .i64 xc, .int .u64 (xu : Int), .slice xla xln xlc, .int .u64 (xbw : Int), .int .i64 xsu, .int .i64 xho, .int .u32 (xan : Int), .int .u32 (xal : Int), .int .u32 (xno : Int)] : List Value).toArray 65) _)
  exact ⟨rfl, ⟨ty, tl, kt, ku, kh, kl, fr, pe, se, ⟨bw, su, ho, an, al, no⟩, ra, rn, rc, r, oa, on, oc, o, xa, wh, co⟩, rfl, Blk.alloc ((HB.out).set 17 (.int .i64 xa)) _, Mem.grown (w := w) ⟨⟨HM.out.1.row, HM.out.1.len, HM.out.1.row2, HM.out.1.len2, HM.out.1.bw, HM.out.1.any, HM.out.1.all, HM.out.1.non⟩, HM.out.2⟩ hg, hg, fun _ h1 h2 _ => ⟨h1, h2⟩⟩

set_option maxRecDepth 100000 in
theorem rbwd_calls (c : Int) (M : Ms) (x : It) (w : World) (q : Nat) (hb : Blk w q 37 M.cells) (hm : Mem w q M) (hx : MemI w q x) :
    Calls Try.prog 79 #[.pointer (some ⟨q, 0, none⟩), .agg x.cells.toArray] w (RdPost w q M x ((Prt.bwd c).rd M.val x.val)) := by
  obtain ⟨ty, tl, kt, ku, kh, kl, fr, pe, se, ⟨bw, su, ho, an, al, no⟩, ra, rn, rc, r, oa, on, oc, o, lb, wh, co⟩ := M
  obtain ⟨xcl, xa, xb, xc, xu, xla, xln, xlc, xl, ⟨xbw, xsu, xho, xan, xal, xno⟩⟩ := x
  simp only [Ms.cells] at hb
  simp only [It.cells]
  have g9 := hb.free 9
  have b9 := hb.cell 9
  simp only [List.getElem?_cons_zero, List.getElem?_cons_succ] at b9
  have hlt := hb.lt
  have HM := Lib.hid hm
  have HX := Lib.hid hx
  have HB := Lib.hid hb
  clear hb hm hx
  go_enter Try.func79, Try.ntmps79
  go_wp2
  go_end0
  have hg := upd_trans (upd_trans (World.grownBy.refl w _) (upd_set _ q 9 (.int .u64 (xu : Int)))) (World.grownBy_alloc _ (.cells ([.int .i64 xcl, .int .i64 xa, .int .i64 xb, .int .i64 xc, .int .u64 (xu : Int), .slice xla xln xlc, .int .u64 (xbw : Int), .int .i64 xsu, .int .i64 xho, .int .u32 (xan : Int), .int .u32 (xal : Int), .int .u32 (xno : Int)] : List Value).toArray 65) _)
  exact ⟨rfl, ⟨ty, tl, kt, ku, kh, kl, fr, pe, se, ⟨xu, su, ho, an, al, no⟩, ra, rn, rc, r, oa, on, oc, o, lb, wh, co⟩, rfl, Blk.alloc ((HB.out).set 9 (.int .u64 (xu : Int))) _, Mem.grown (w := w) ⟨⟨HM.out.1.row, HM.out.1.len, HM.out.1.row2, HM.out.1.len2, HX.out.1.u, HM.out.1.any, HM.out.1.all, HM.out.1.non⟩, HM.out.2⟩ hg, hg, fun _ h1 h2 _ => ⟨h1, h2⟩⟩

set_option maxRecDepth 100000 in
theorem ralw_calls (c x0 : Int) (M : Ms) (x : It) (w : World) (q : Nat) (hb : Blk w q 37 M.cells) (hm : Mem w q M) (hx : MemI w q x) :
    Calls Try.prog 96 #[.pointer (some ⟨q, 0, none⟩), .agg x.cells.toArray] w (RdPost w q M x ((Prt.alw c x0).rd M.val x.val)) := by
  obtain ⟨ty, tl, kt, ku, kh, kl, fr, pe, se, ⟨bw, su, ho, an, al, no⟩, ra, rn, rc, r, oa, on, oc, o, lb, wh, co⟩ := M
  obtain ⟨xcl, xa, xb, xc, xu, xla, xln, xlc, xl, ⟨xbw, xsu, xho, xan, xal, xno⟩⟩ := x
  simp only [Ms.cells] at hb
  simp only [It.cells]
  have hlt := hb.lt
  have HM := Lib.hid hm
  have HX := Lib.hid hx
  have HB := Lib.hid hb
  clear hb hm hx
  go_enter Try.func96, Try.ntmps96
  go_wp2
  go_end0
  have hg := upd_trans (World.grownBy.refl w (some q)) (World.grownBy_alloc _ (.cells ([.int .i64 xcl, .int .i64 xa, .int .i64 xb, .int .i64 xc, .int .u64 (xu : Int), .slice xla xln xlc, .int .u64 (xbw : Int), .int .i64 xsu, .int .i64 xho, .int .u32 (xan : Int), .int .u32 (xal : Int), .int .u32 (xno : Int)] : List Value).toArray 65) _)
  exact ⟨rfl, ⟨ty, tl, kt, ku, kh, kl, fr, pe, se, ⟨bw, su, ho, an, al, no⟩, ra, rn, rc, r, oa, on, oc, o, lb, wh, co⟩, rfl, Blk.alloc (HB.out) _, Mem.grown (w := w) HM.out hg, hg, fun _ h1 h2 _ => ⟨h1, h2⟩⟩

set_option maxRecDepth 100000 in
theorem ratt_calls (M : Ms) (x : It) (w : World) (q : Nat) (hb : Blk w q 37 M.cells) (hm : Mem w q M) (hx : MemI w q x) :
    Calls Try.prog 75 #[.pointer (some ⟨q, 0, none⟩), .agg x.cells.toArray] w (RdPost w q M x (Prt.att.rd M.val x.val)) := by
  obtain ⟨ty, tl, kt, ku, kh, kl, fr, pe, se, ⟨bw, su, ho, an, al, no⟩, ra, rn, rc, r, oa, on, oc, o, lb, wh, co⟩ := M
  obtain ⟨xcl, xa, xb, xc, xu, xla, xln, xlc, xl, ⟨xbw, xsu, xho, xan, xal, xno⟩⟩ := x
  simp only [Ms.cells] at hb
  simp only [It.cells]
  have g9 := hb.free 9
  have g10 := hb.free 10
  have g11 := hb.free 11
  have g12 := hb.free 12
  have g13 := hb.free 13
  have g14 := hb.free 14
  have b9 := hb.cell 9
  have b10 := hb.cell 10
  have b11 := hb.cell 11
  have b12 := hb.cell 12
  have b13 := hb.cell 13
  have b14 := hb.cell 14
  simp only [List.getElem?_cons_zero, List.getElem?_cons_succ] at b9 b10 b11 b12 b13 b14
  have hlt := hb.lt
  have HM := Lib.hid hm
  have HX := Lib.hid hx
  have HB := Lib.hid hb
  clear hb hm hx
  go_enter Try.func75, Try.ntmps75
  go_wp2
  go_end0
  have hg := upd_trans (upd_trans (upd_trans (upd_trans (upd_trans (upd_trans (upd_trans (World.grownBy.refl w _) (upd_set _ q 9 (.int .u64 (bw : Int)))) (upd_set _ q 10 (.int .i64 xsu))) (upd_set _ q 11 (.int .i64 xho))) (upd_set _ q 12 (.int .u32 (xan : Int)))) (upd_set _ q 13 (.int .u32 (xal : Int)))) (upd_set _ q 14 (.int .u32 (xno : Int)))) (World.grownBy_alloc _ (.cells ([.int .i64 xcl, .int .i64 xa, .int .i64 xb, .int .i64 xc, .int .u64 (xu : Int), .slice xla xln xlc, .int .u64 (bw : Int), .int .i64 xsu, .int .i64 xho, .int .u32 (xan : Int), .int .u32 (xal : Int), .int .u32 (xno : Int)] : List Value).toArray 65) _)
  exact ⟨rfl, ⟨ty, tl, kt, ku, kh, kl, fr, pe, se, ⟨bw, xsu, xho, xan, xal, xno⟩, ra, rn, rc, r, oa, on, oc, o, lb, wh, co⟩, rfl, Blk.alloc (((((((HB.out).set 9 (.int .u64 (bw : Int))).set 10 (.int .i64 xsu)).set 11 (.int .i64 xho)).set 12 (.int .u32 (xan : Int))).set 13 (.int .u32 (xal : Int))).set 14 (.int .u32 (xno : Int))) _, Mem.grown (w := w) ⟨⟨HM.out.1.row, HM.out.1.len, HM.out.1.row2, HM.out.1.len2, HM.out.1.bw, HX.out.1.any, HX.out.1.all, HX.out.1.non⟩, HM.out.2⟩ hg, hg, fun _ h1 h2 _ => ⟨h1, h2⟩⟩

/-- Three numbers of an item. -/
def It3 (W : World) (b : Nat) (xa xb xc : Int) : Prop := W.cell? ⟨b, 1, none⟩ = some (.int .i64 xa) ∧ W.cell? ⟨b, 2, none⟩ = some (.int .i64 xb) ∧ W.cell? ⟨b, 3, none⟩ = some (.int .i64 xc)
theorem It3.of {W : World} {b : Nat} {T : TypeId} {v0 : Value} {xa xb xc : Int} {vs : List Value} (h : Blk W b T (v0 :: .int .i64 xa :: .int .i64 xb :: .int .i64 xc :: vs)) : It3 W b xa xb xc := ⟨h.cell 1, h.cell 2, h.cell 3⟩

set_option maxRecDepth 100000 in
set_option maxHeartbeats 800000 in
theorem rses_calls (M : Ms) (x : It) (w : World) (q : Nat) (hb : Blk w q 37 M.cells) (hm : Mem w q M) (hx : MemI w q x) :
    Calls Try.prog 66 #[.pointer (some ⟨q, 0, none⟩), .agg x.cells.toArray] w (RdPost w q M x (Prt.ses.rd M.val x.val)) := by
  obtain ⟨ty, tl, kt, ku, kh, kl, fr, pe, se, ⟨bw, su, ho, an, al, no⟩, ra, rn, rc, r, oa, on, oc, o, lb, wh, co⟩ := M
  obtain ⟨xcl, xa, xb, xc, xu, xla, xln, xlc, xl, ⟨xbw, xsu, xho, xan, xal, xno⟩⟩ := x
  simp only [Ms.cells] at hb
  simp only [It.cells]
  have hne : q ≠ w.heap.size := Nat.ne_of_lt hb.lt
  have HI1 := Lib.hid (Blk.new w 65 [.int .i64 xcl, .int .i64 xa, .int .i64 xb, .int .i64 xc, .int .u64 (xu : Int), .slice xla xln xlc, .int .u64 (xbw : Int), .int .i64 xsu, .int .i64 xho, .int .u32 (xan : Int), .int .u32 (xal : Int), .int .u32 (xno : Int)])
  have HQ1 := Lib.hid (hb.alloc (.cells ([.int .i64 xcl, .int .i64 xa, .int .i64 xb, .int .i64 xc, .int .u64 (xu : Int), .slice xla xln xlc, .int .u64 (xbw : Int), .int .i64 xsu, .int .i64 xho, .int .u32 (xan : Int), .int .u32 (xal : Int), .int .u32 (xno : Int)] : List Value).toArray 65))
  have HG := Lib.hid (World.grownBy_alloc w (.cells ([.int .i64 xcl, .int .i64 xa, .int .i64 xb, .int .i64 xc, .int .u64 (xu : Int), .slice xla xln xlc, .int .u64 (xbw : Int), .int .i64 xsu, .int .i64 xho, .int .u32 (xan : Int), .int .u32 (xal : Int), .int .u32 (xno : Int)] : List Value).toArray 65) (some q))
  have HM := Lib.hid hm
  clear hb hm hx
  go_enter Try.func66, Try.ntmps66
  go_upto_region 1 with fail
  revert HI1 HQ1 HG
  generalize World.alloc w _ = w1
  intro HI1 HQ1 HG
  have g2 := HQ1.out.free 2
  have b2 := HQ1.out.cell 2
  have g3 := HQ1.out.free 3
  have b3 := HQ1.out.cell 3
  have g4 := HQ1.out.free 4
  have b4 := HQ1.out.cell 4
  simp only [List.getElem?_cons_zero, List.getElem?_cons_succ] at b2 b3 b4
  have S := Lib.hid (It3.of HI1.out)
  have S0 := Lib.hid (It3.of ((HI1.out).other (p := ⟨q, 2, none⟩) hne (.int .i64 xa)))
  have S1 := Lib.hid (It3.of (((HI1.out).other (p := ⟨q, 2, none⟩) hne (.int .i64 xa)).other (p := ⟨q, 3, none⟩) hne (.int .i64 xb)))
  have S2 := Lib.hid (It3.of ((((HI1.out).other (p := ⟨q, 2, none⟩) hne (.int .i64 xa)).other (p := ⟨q, 3, none⟩) hne (.int .i64 xb)).other (p := ⟨q, 4, none⟩) hne (.int .i64 xc)))
  go_wp2
  refine region_seq (fun W => It3 W w.heap.size xa xb xc)
    [(0, true), (1, true), (2, true), (3, true), (4, true), (5, true), (6, true), (7, true), (8, true), (9, true), (10, true), (11, true), (12, false), (13, true), (14, true), (15, true), (16, false), (17, true), (18, true), (19, true), (20, false)]
    (by kernel_rfl) (by kernel_rfl) (by kernel_rfl) (by kernel_rfl) (fun _ _ _ _ _ h => h) S.out ?_
  repeat
    refine seq_pure (v := ?_) rfl (by rfl) (fun W hW => ?_) ?_
    rotate_left
    · obtain ⟨d1, d2, d3⟩ := hW
      go_simp
      try with_reducible rfl
    simp only [Act.put, List.setIfInBounds_toArray, List.set_cons_zero, List.set_cons_succ]
  refine seq_make rfl (by rfl) (fun K hK => ?_)
  go_simp
  refine hK _ _ (fun W => It3 W w.heap.size xa xb xc) (fun W h => h) S0.out ?_
  clear hK K
  repeat
    refine seq_pure (v := ?_) rfl (by rfl) (fun W hW => ?_) ?_
    rotate_left
    · obtain ⟨d1, d2, d3⟩ := hW
      go_simp
      try with_reducible rfl
    simp only [Act.put, List.setIfInBounds_toArray, List.set_cons_zero, List.set_cons_succ]
  refine seq_make rfl (by rfl) (fun K hK => ?_)
  go_simp
  refine hK _ _ (fun W => It3 W w.heap.size xa xb xc) (fun W h => h) S1.out ?_
  clear hK K
  repeat
    refine seq_pure (v := ?_) rfl (by rfl) (fun W hW => ?_) ?_
    rotate_left
    · obtain ⟨d1, d2, d3⟩ := hW
      go_simp
      try with_reducible rfl
    simp only [Act.put, List.setIfInBounds_toArray, List.set_cons_zero, List.set_cons_succ]
  refine seq_make rfl (by rfl) (fun K hK => ?_)
  go_simp
  refine hK _ _ (fun W => It3 W w.heap.size xa xb xc) (fun W h => h) S2.out ?_
  clear hK K
  refine seq_done ?_
  go_wp2
  go_end0
  have hg := upd_trans HG.out (upd_trans (upd_trans (upd_trans (World.grownBy.refl w1 _) (upd_set _ q 2 (.int .i64 xa))) (upd_set _ q 3 (.int .i64 xb))) (upd_set _ q 4 (.int .i64 xc)))
  exact ⟨rfl, ⟨ty, tl, xa, xb, xc, kl, fr, pe, se, ⟨bw, su, ho, an, al, no⟩, ra, rn, rc, r, oa, on, oc, o, lb, wh, co⟩, rfl, (((HQ1.out).set 2 (.int .i64 xa)).set 3 (.int .i64 xb)).set 4 (.int .i64 xc), Mem.grown (w := w) ⟨⟨HM.out.1.row, HM.out.1.len, HM.out.1.row2, HM.out.1.len2, HM.out.1.bw, HM.out.1.any, HM.out.1.all, HM.out.1.non⟩, HM.out.2⟩ (upd_drewN hg 1), upd_drewN hg 1, fun _ h1 h2 _ => ⟨h1, h2⟩⟩

set_option maxRecDepth 100000 in
set_option maxHeartbeats 800000 in
theorem rlsp_calls (c : Int) (M : Ms) (x : It) (w : World) (q : Nat) (hb : Blk w q 37 M.cells) (hm : Mem w q M) (hx : MemI w q x) :
    Calls Try.prog 77 #[.pointer (some ⟨q, 0, none⟩), .agg x.cells.toArray] w (RdPost w q M x ((Prt.lsp c).rd M.val x.val)) := by
  obtain ⟨ty, tl, kt, ku, kh, kl, fr, pe, se, ⟨bw, su, ho, an, al, no⟩, ra, rn, rc, r, oa, on, oc, o, lb, wh, co⟩ := M
  obtain ⟨xcl, xa, xb, xc, xu, xla, xln, xlc, xl, ⟨xbw, xsu, xho, xan, xal, xno⟩⟩ := x
  simp only [Ms.cells] at hb
  simp only [It.cells]
  have hne : q ≠ w.heap.size := Nat.ne_of_lt hb.lt
  have HI1 := Lib.hid (Blk.new w 65 [.int .i64 xcl, .int .i64 xa, .int .i64 xb, .int .i64 xc, .int .u64 (xu : Int), .slice xla xln xlc, .int .u64 (xbw : Int), .int .i64 xsu, .int .i64 xho, .int .u32 (xan : Int), .int .u32 (xal : Int), .int .u32 (xno : Int)])
  have HQ1 := Lib.hid (hb.alloc (.cells ([.int .i64 xcl, .int .i64 xa, .int .i64 xb, .int .i64 xc, .int .u64 (xu : Int), .slice xla xln xlc, .int .u64 (xbw : Int), .int .i64 xsu, .int .i64 xho, .int .u32 (xan : Int), .int .u32 (xal : Int), .int .u32 (xno : Int)] : List Value).toArray 65))
  have HG := Lib.hid (World.grownBy_alloc w (.cells ([.int .i64 xcl, .int .i64 xa, .int .i64 xb, .int .i64 xc, .int .u64 (xu : Int), .slice xla xln xlc, .int .u64 (xbw : Int), .int .i64 xsu, .int .i64 xho, .int .u32 (xan : Int), .int .u32 (xal : Int), .int .u32 (xno : Int)] : List Value).toArray 65) (some q))
  have HM := Lib.hid hm
  clear hb hm hx
  go_enter Try.func77, Try.ntmps77
  go_upto_region 1 with fail
  revert HI1 HQ1 HG
  generalize World.alloc w _ = w1
  intro HI1 HQ1 HG
  have g4 := HQ1.out.free 4
  have b4 := HQ1.out.cell 4
  have g5 := HQ1.out.free 5
  have b5 := HQ1.out.cell 5
  simp only [List.getElem?_cons_zero, List.getElem?_cons_succ] at b4 b5
  have S := Lib.hid (It3.of HI1.out)
  have S0 := Lib.hid (It3.of ((HI1.out).other (p := ⟨q, 4, none⟩) hne (.int .i64 xa)))
  have S1 := Lib.hid (It3.of (((HI1.out).other (p := ⟨q, 4, none⟩) hne (.int .i64 xa)).other (p := ⟨q, 5, none⟩) hne (.int .i64 xb)))
  go_wp2
  refine region_seq (fun W => It3 W w.heap.size xa xb xc)
    [(0, true), (1, true), (2, true), (3, true), (4, true), (5, true), (6, true), (7, true), (8, true), (9, false), (10, true), (11, true), (12, true), (13, false)]
    (by kernel_rfl) (by kernel_rfl) (by kernel_rfl) (by kernel_rfl) (fun _ _ _ _ _ h => h) S.out ?_
  repeat
    refine seq_pure (v := ?_) rfl (by rfl) (fun W hW => ?_) ?_
    rotate_left
    · obtain ⟨d1, d2, d3⟩ := hW
      go_simp
      try with_reducible rfl
    simp only [Act.put, List.setIfInBounds_toArray, List.set_cons_zero, List.set_cons_succ]
  refine seq_make rfl (by rfl) (fun K hK => ?_)
  go_simp
  refine hK _ _ (fun W => It3 W w.heap.size xa xb xc) (fun W h => h) S0.out ?_
  clear hK K
  repeat
    refine seq_pure (v := ?_) rfl (by rfl) (fun W hW => ?_) ?_
    rotate_left
    · obtain ⟨d1, d2, d3⟩ := hW
      go_simp
      try with_reducible rfl
    simp only [Act.put, List.setIfInBounds_toArray, List.set_cons_zero, List.set_cons_succ]
  refine seq_make rfl (by rfl) (fun K hK => ?_)
  go_simp
  refine hK _ _ (fun W => It3 W w.heap.size xa xb xc) (fun W h => h) S1.out ?_
  clear hK K
  refine seq_done ?_
  go_wp2
  go_end0
  have hg := upd_trans HG.out (upd_trans (upd_trans (World.grownBy.refl w1 _) (upd_set _ q 4 (.int .i64 xa))) (upd_set _ q 5 (.int .i64 xb)))
  exact ⟨rfl, ⟨ty, tl, kt, ku, xa, xb, fr, pe, se, ⟨bw, su, ho, an, al, no⟩, ra, rn, rc, r, oa, on, oc, o, lb, wh, co⟩, rfl, ((HQ1.out).set 4 (.int .i64 xa)).set 5 (.int .i64 xb), Mem.grown (w := w) ⟨⟨HM.out.1.row, HM.out.1.len, HM.out.1.row2, HM.out.1.len2, HM.out.1.bw, HM.out.1.any, HM.out.1.all, HM.out.1.non⟩, HM.out.2⟩ (upd_drewN hg 1), upd_drewN hg 1, fun _ h1 h2 _ => ⟨h1, h2⟩⟩

set_option maxRecDepth 100000 in
set_option maxHeartbeats 800000 in
theorem rfau_calls (M : Ms) (x : It) (w : World) (q : Nat) (hb : Blk w q 37 M.cells) (hm : Mem w q M) (hx : MemI w q x) :
    Calls Try.prog 87 #[.pointer (some ⟨q, 0, none⟩), .agg x.cells.toArray] w (RdPost w q M x (Prt.fau.rd M.val x.val)) := by
  obtain ⟨ty, tl, kt, ku, kh, kl, fr, pe, se, ⟨bw, su, ho, an, al, no⟩, ra, rn, rc, r, oa, on, oc, o, lb, wh, co⟩ := M
  obtain ⟨xcl, xa, xb, xc, xu, xla, xln, xlc, xl, ⟨xbw, xsu, xho, xan, xal, xno⟩⟩ := x
  simp only [Ms.cells] at hb
  simp only [It.cells]
  have hne : q ≠ w.heap.size := Nat.ne_of_lt hb.lt
  have HI1 := Lib.hid (Blk.new w 65 [.int .i64 xcl, .int .i64 xa, .int .i64 xb, .int .i64 xc, .int .u64 (xu : Int), .slice xla xln xlc, .int .u64 (xbw : Int), .int .i64 xsu, .int .i64 xho, .int .u32 (xan : Int), .int .u32 (xal : Int), .int .u32 (xno : Int)])
  have HQ1 := Lib.hid (hb.alloc (.cells ([.int .i64 xcl, .int .i64 xa, .int .i64 xb, .int .i64 xc, .int .u64 (xu : Int), .slice xla xln xlc, .int .u64 (xbw : Int), .int .i64 xsu, .int .i64 xho, .int .u32 (xan : Int), .int .u32 (xal : Int), .int .u32 (xno : Int)] : List Value).toArray 65))
  have HG := Lib.hid (World.grownBy_alloc w (.cells ([.int .i64 xcl, .int .i64 xa, .int .i64 xb, .int .i64 xc, .int .u64 (xu : Int), .slice xla xln xlc, .int .u64 (xbw : Int), .int .i64 xsu, .int .i64 xho, .int .u32 (xan : Int), .int .u32 (xal : Int), .int .u32 (xno : Int)] : List Value).toArray 65) (some q))
  have HM := Lib.hid hm
  clear hb hm hx
  go_enter Try.func87, Try.ntmps87
  go_upto_region 1 with fail
  revert HI1 HQ1 HG
  generalize World.alloc w _ = w1
  intro HI1 HQ1 HG
  have g18 := HQ1.out.free 18
  have b18 := HQ1.out.cell 18
  have g19 := HQ1.out.free 19
  have b19 := HQ1.out.cell 19
  simp only [List.getElem?_cons_zero, List.getElem?_cons_succ] at b18 b19
  have S := Lib.hid (It3.of HI1.out)
  have S0 := Lib.hid (It3.of ((HI1.out).other (p := ⟨q, 18, none⟩) hne (.int .i64 xa)))
  have S1 := Lib.hid (It3.of (((HI1.out).other (p := ⟨q, 18, none⟩) hne (.int .i64 xa)).other (p := ⟨q, 19, none⟩) hne (.int .i64 xb)))
  go_wp2
  refine region_seq (fun W => It3 W w.heap.size xa xb xc)
    [(0, true), (1, true), (2, true), (3, true), (4, true), (5, true), (6, true), (7, true), (8, false), (9, true), (10, true), (11, false)]
    (by kernel_rfl) (by kernel_rfl) (by kernel_rfl) (by kernel_rfl) (fun _ _ _ _ _ h => h) S.out ?_
  repeat
    refine seq_pure (v := ?_) rfl (by rfl) (fun W hW => ?_) ?_
    rotate_left
    · obtain ⟨d1, d2, d3⟩ := hW
      go_simp
      try with_reducible rfl
    simp only [Act.put, List.setIfInBounds_toArray, List.set_cons_zero, List.set_cons_succ]
  refine seq_make rfl (by rfl) (fun K hK => ?_)
  go_simp
  refine hK _ _ (fun W => It3 W w.heap.size xa xb xc) (fun W h => h) S0.out ?_
  clear hK K
  repeat
    refine seq_pure (v := ?_) rfl (by rfl) (fun W hW => ?_) ?_
    rotate_left
    · obtain ⟨d1, d2, d3⟩ := hW
      go_simp
      try with_reducible rfl
    simp only [Act.put, List.setIfInBounds_toArray, List.set_cons_zero, List.set_cons_succ]
  refine seq_make rfl (by rfl) (fun K hK => ?_)
  go_simp
  refine hK _ _ (fun W => It3 W w.heap.size xa xb xc) (fun W h => h) S1.out ?_
  clear hK K
  refine seq_done ?_
  go_wp2
  go_end0
  have hg := upd_trans HG.out (upd_trans (upd_trans (World.grownBy.refl w1 _) (upd_set _ q 18 (.int .i64 xa))) (upd_set _ q 19 (.int .i64 xb)))
  exact ⟨rfl, ⟨ty, tl, kt, ku, kh, kl, fr, pe, se, ⟨bw, su, ho, an, al, no⟩, ra, rn, rc, r, oa, on, oc, o, lb, xa, xb⟩, rfl, ((HQ1.out).set 18 (.int .i64 xa)).set 19 (.int .i64 xb), Mem.grown (w := w) ⟨⟨HM.out.1.row, HM.out.1.len, HM.out.1.row2, HM.out.1.len2, HM.out.1.bw, HM.out.1.any, HM.out.1.all, HM.out.1.non⟩, HM.out.2⟩ (upd_drewN hg 1), upd_drewN hg 1, fun _ h1 h2 _ => ⟨h1, h2⟩⟩
end Go.Proofs.Ythmgpffpiggomaa
