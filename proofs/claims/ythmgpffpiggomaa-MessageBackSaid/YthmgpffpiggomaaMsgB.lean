/-
  A message as it lies in memory. No condition: definitions and their simplest consequences.
-/
import Derived.Test.YthmgpffpiggomaaMsgA
namespace Go.Proofs.Ythmgpffpiggomaa
open Go.RowKit

/-- A message as it lies in memory, and the numbers that its lists read as. -/
structure Ms where
  ty : Int
  tl : Int
  kt : Int
  ku : Int
  kh : Int
  kl : Int
  fr : Int
  pe : Int
  se : Int
  w : Wnt
  ra : Option Addr
  rn : Nat
  rc : Nat
  r : List Int
  oa : Option Addr
  on : Nat
  oc : Nat
  o : List Int
  lb : Int
  wh : Int
  co : Int
def Ms.val (m : Ms) : PMs := ⟨m.ty, m.tl, m.kt, m.ku, m.kh, m.kl, m.fr, m.pe, m.se, m.w, m.r, m.o, m.lb, m.wh, m.co⟩
def Ms.cells (m : Ms) : List Value := [.int .i64 m.ty, .int .i64 m.tl, .int .i64 m.kt, .int .i64 m.ku, .int .i64 m.kh, .int .i64 m.kl, .int .i64 m.fr, .int .i64 m.pe, .int .i64 m.se, .int .u64 (m.w.bw : Int), .int .i64 m.w.setup, .int .i64 m.w.hold, .int .u32 (m.w.any : Int), .int .u32 (m.w.all : Int), .int .u32 (m.w.non : Int), .slice m.ra m.rn m.rc, .slice m.oa m.on m.oc, .int .i64 m.lb, .int .i64 m.wh, .int .i64 m.co]
def Ms.bare (ty tl : Int) : Ms := ⟨ty, tl, 0, 0, 0, 0, 0, 0, 0, Wnt.zero, none, 0, 0, [], none, 0, 0, [], 0, 0, 0⟩

theorem ms_one (m : Ms) : ∀ u ∈ m.cells, u.oneCell' = true := by
  intro u hu
  simp only [Ms.cells, List.mem_cons, List.not_mem_nil, or_false] at hu
  rcases hu with rfl | rfl | rfl | rfl | rfl | rfl | rfl | rfl | rfl | rfl | rfl | rfl | rfl | rfl | rfl | rfl | rfl | rfl | rfl | rfl <;> rfl
theorem it_one (x : It) : ∀ u ∈ x.cells, u.oneCell' = true := by
  intro u hu
  simp only [It.cells, List.mem_cons, List.not_mem_nil, or_false] at hu
  rcases hu with rfl | rfl | rfl | rfl | rfl | rfl | rfl | rfl | rfl | rfl | rfl | rfl <;> rfl

/-- What a message must be like to be read: its lists read as numbers. -/
structure FineM (w : World) (B : Nat) (m : Ms) : Prop where
  row : Row ei w B m.ra m.rn m.r
  len : m.rn ≤ maxLen
  row2 : Row ei w B m.oa m.on m.o
  len2 : m.on ≤ maxLen
  bw : m.w.bw < 18446744073709551616
  any : m.w.any < 4294967296
  all : m.w.all < 4294967296
  non : m.w.non < 4294967296
theorem FineM.below {w w' : World} {B : Nat} {m : Ms} (h : FineM w B m) (hb : Below B w w') : FineM w' B m := ⟨h.row.below hb, h.len, h.row2.below hb, h.len2, h.bw, h.any, h.all, h.non⟩
theorem FineM.more {w : World} {B B' : Nat} {m : Ms} (h : FineM w B m) (hb : B ≤ B') : FineM w B' m := ⟨h.row.more hb, h.len, h.row2.more hb, h.len2, h.bw, h.any, h.all, h.non⟩
theorem FineM.bare (w : World) (B : Nat) (ty tl : Int) : FineM w B (.bare ty tl) := ⟨Row.nil, Nat.zero_le _, Row.nil, Nat.zero_le _, by simp [Ms.bare, Wnt.zero], by simp [Ms.bare, Wnt.zero], by simp [Ms.bare, Wnt.zero], by simp [Ms.bare, Wnt.zero]⟩

/-- What a part's writing answers: an item whose list lies where the message's do. -/
def WrPost (w : World) (B : Nat) (y : PIt) (e : Ending) (w' : World) : Prop :=
  ∃ x : It, e = .returned (.agg x.cells.toArray) ∧ x.val = y ∧ Fine w' B x ∧ Below w.heap.size w w'

theorem u64_lt (n : Int) : u64 n < 18446744073709551616 := by unfold u64; omega
theorem fine_no {w : World} {B : Nat} (cl a b c : Int) (u : Nat) (h : u < 18446744073709551616) : Fine w B ⟨cl, a, b, c, u, none, 0, 0, [], Wnt.zero⟩ := ⟨Row.nil, Nat.zero_le _, h, by simp [Wnt.zero], by simp [Wnt.zero], by simp [Wnt.zero]⟩
set_option maxRecDepth 100000 in
theorem wses_calls (M : Ms) (w : World) (B : Nat) (_hB : B ≤ w.heap.size) (h : FineM w B M) : Calls Try.prog 65 #[.agg M.cells.toArray] w (WrPost w B (Prt.ses.wr M.val)) := by
  have HF := Lib.hid h
  clear h
  obtain ⟨ty, tl, kt, ku, kh, kl, fr, pe, se, ⟨bw, su, ho, an, al, no⟩, ra, rn, rc, r, oa, on, oc, o, lb, wh, co⟩ := M
  simp only [Ms.cells]
  go_enter Try.func65, Try.ntmps65
  go_wp2
  have HB := Lib.hid (bel_new (bel_new (Below.refl w.heap.size w) (.cells ((Ms.cells ⟨ty, tl, kt, ku, kh, kl, fr, pe, se, ⟨bw, su, ho, an, al, no⟩, ra, rn, rc, r, oa, on, oc, o, lb, wh, co⟩).toArray) 37)) (.cells (#[.int .i64 1, .int .i64 kt, .int .i64 ku, .int .i64 kh, .int .u64 0, .slice none 0 0, .int .u64 0, .int .i64 0, .int .i64 0, .int .u32 0, .int .u32 0, .int .u32 0] : Array Value) 65))
  refine bodyPost_ret (v := .agg #[.int .i64 1, .int .i64 kt, .int .i64 ku, .int .i64 kh, .int .u64 0, .slice none 0 0, .int .u64 0, .int .i64 0, .int .i64 0, .int .u32 0, .int .u32 0, .int .u32 0]) (by simp [results, Try.results65, go_sem]) rfl ?_
  exact ⟨⟨1, kt, ku, kh, 0, none, 0, 0, [], Wnt.zero⟩, rfl, rfl, fine_no _ _ _ _ _ (by omega), HB.out⟩
set_option maxRecDepth 100000 in
theorem whop_calls (M : Ms) (w : World) (B : Nat) (_hB : B ≤ w.heap.size) (h : FineM w B M) : Calls Try.prog 67 #[.agg M.cells.toArray] w (WrPost w B (Prt.hop.wr M.val)) := by
  have HF := Lib.hid h
  clear h
  obtain ⟨ty, tl, kt, ku, kh, kl, fr, pe, se, ⟨bw, su, ho, an, al, no⟩, ra, rn, rc, r, oa, on, oc, o, lb, wh, co⟩ := M
  simp only [Ms.cells]
  go_enter Try.func67, Try.ntmps67
  go_wp2
  have HB := Lib.hid (bel_new (bel_new (Below.refl w.heap.size w) (.cells ((Ms.cells ⟨ty, tl, kt, ku, kh, kl, fr, pe, se, ⟨bw, su, ho, an, al, no⟩, ra, rn, rc, r, oa, on, oc, o, lb, wh, co⟩).toArray) 37)) (.cells (#[.int .i64 3, .int .i64 fr, .int .i64 0, .int .i64 0, .int .u64 0, .slice none 0 0, .int .u64 0, .int .i64 0, .int .i64 0, .int .u32 0, .int .u32 0, .int .u32 0] : Array Value) 65))
  refine bodyPost_ret (v := .agg #[.int .i64 3, .int .i64 fr, .int .i64 0, .int .i64 0, .int .u64 0, .slice none 0 0, .int .u64 0, .int .i64 0, .int .i64 0, .int .u32 0, .int .u32 0, .int .u32 0]) (by simp [results, Try.results67, go_sem]) rfl ?_
  exact ⟨⟨3, fr, 0, 0, 0, none, 0, 0, [], Wnt.zero⟩, rfl, rfl, fine_no _ _ _ _ _ (by omega), HB.out⟩
set_option maxRecDepth 100000 in
theorem wtim_calls (M : Ms) (w : World) (B : Nat) (_hB : B ≤ w.heap.size) (h : FineM w B M) : Calls Try.prog 69 #[.agg M.cells.toArray] w (WrPost w B (Prt.tim.wr M.val)) := by
  have HF := Lib.hid h
  clear h
  obtain ⟨ty, tl, kt, ku, kh, kl, fr, pe, se, ⟨bw, su, ho, an, al, no⟩, ra, rn, rc, r, oa, on, oc, o, lb, wh, co⟩ := M
  simp only [Ms.cells]
  have q := u64_wrap pe
  go_enter Try.func69, Try.ntmps69
  go_wp2
  have HB := Lib.hid (bel_new (bel_new (Below.refl w.heap.size w) (.cells ((Ms.cells ⟨ty, tl, kt, ku, kh, kl, fr, pe, se, ⟨bw, su, ho, an, al, no⟩, ra, rn, rc, r, oa, on, oc, o, lb, wh, co⟩).toArray) 37)) (.cells (#[.int .i64 5, .int .i64 0, .int .i64 0, .int .i64 0, .int .u64 ((u64 pe) : Int), .slice none 0 0, .int .u64 0, .int .i64 0, .int .i64 0, .int .u32 0, .int .u32 0, .int .u32 0] : Array Value) 65))
  refine bodyPost_ret (v := .agg #[.int .i64 5, .int .i64 0, .int .i64 0, .int .i64 0, .int .u64 ((u64 pe) : Int), .slice none 0 0, .int .u64 0, .int .i64 0, .int .i64 0, .int .u32 0, .int .u32 0, .int .u32 0]) (by simp [results, Try.results69, go_sem]) rfl ?_
  exact ⟨⟨5, 0, 0, 0, (u64 pe), none, 0, 0, [], Wnt.zero⟩, rfl, rfl, fine_no _ _ _ _ _ (u64_lt _), HB.out⟩
set_option maxRecDepth 100000 in
theorem wser_calls (M : Ms) (w : World) (B : Nat) (_hB : B ≤ w.heap.size) (h : FineM w B M) : Calls Try.prog 82 #[.agg M.cells.toArray] w (WrPost w B (Prt.ser.wr M.val)) := by
  have HF := Lib.hid h
  clear h
  obtain ⟨ty, tl, kt, ku, kh, kl, fr, pe, se, ⟨bw, su, ho, an, al, no⟩, ra, rn, rc, r, oa, on, oc, o, lb, wh, co⟩ := M
  simp only [Ms.cells]
  have q := u64_wrap se
  go_enter Try.func82, Try.ntmps82
  go_wp2
  have HB := Lib.hid (bel_new (bel_new (Below.refl w.heap.size w) (.cells ((Ms.cells ⟨ty, tl, kt, ku, kh, kl, fr, pe, se, ⟨bw, su, ho, an, al, no⟩, ra, rn, rc, r, oa, on, oc, o, lb, wh, co⟩).toArray) 37)) (.cells (#[.int .i64 23, .int .i64 0, .int .i64 0, .int .i64 0, .int .u64 ((u64 se) : Int), .slice none 0 0, .int .u64 0, .int .i64 0, .int .i64 0, .int .u32 0, .int .u32 0, .int .u32 0] : Array Value) 65))
  refine bodyPost_ret (v := .agg #[.int .i64 23, .int .i64 0, .int .i64 0, .int .i64 0, .int .u64 ((u64 se) : Int), .slice none 0 0, .int .u64 0, .int .i64 0, .int .i64 0, .int .u32 0, .int .u32 0, .int .u32 0]) (by simp [results, Try.results82, go_sem]) rfl ?_
  exact ⟨⟨23, 0, 0, 0, (u64 se), none, 0, 0, [], Wnt.zero⟩, rfl, rfl, fine_no _ _ _ _ _ (u64_lt _), HB.out⟩
set_option maxRecDepth 100000 in
theorem wrou_calls (M : Ms) (w : World) (B : Nat) (hB : B ≤ w.heap.size) (h : FineM w B M) : Calls Try.prog 71 #[.agg M.cells.toArray] w (WrPost w B (Prt.rou.wr M.val)) := by
  have HF := Lib.hid h
  clear h
  obtain ⟨ty, tl, kt, ku, kh, kl, fr, pe, se, ⟨bw, su, ho, an, al, no⟩, ra, rn, rc, r, oa, on, oc, o, lb, wh, co⟩ := M
  simp only [Ms.cells]
  go_enter Try.func71, Try.ntmps71
  go_wp2
  have HB := Lib.hid (bel_new (bel_new (Below.refl w.heap.size w) (.cells ((Ms.cells ⟨ty, tl, kt, ku, kh, kl, fr, pe, se, ⟨bw, su, ho, an, al, no⟩, ra, rn, rc, r, oa, on, oc, o, lb, wh, co⟩).toArray) 37)) (.cells (#[.int .i64 20, .int .i64 0, .int .i64 0, .int .i64 0, .int .u64 0, .slice ra rn rc, .int .u64 0, .int .i64 0, .int .i64 0, .int .u32 0, .int .u32 0, .int .u32 0] : Array Value) 65))
  refine bodyPost_ret (v := .agg #[.int .i64 20, .int .i64 0, .int .i64 0, .int .i64 0, .int .u64 0, .slice ra rn rc, .int .u64 0, .int .i64 0, .int .i64 0, .int .u32 0, .int .u32 0, .int .u32 0]) (by simp [results, Try.results71, go_sem]) rfl ?_
  exact ⟨⟨20, 0, 0, 0, 0, ra, rn, rc, r, Wnt.zero⟩, rfl, rfl, ⟨(HF.out.row.below (HB.out.mono hB)), HF.out.len, by simp, by simp [Wnt.zero], by simp [Wnt.zero], by simp [Wnt.zero]⟩, HB.out⟩
set_option maxRecDepth 100000 in
theorem wrcd_calls (M : Ms) (w : World) (B : Nat) (hB : B ≤ w.heap.size) (h : FineM w B M) : Calls Try.prog 80 #[.agg M.cells.toArray] w (WrPost w B (Prt.rcd.wr M.val)) := by
  have HF := Lib.hid h
  clear h
  obtain ⟨ty, tl, kt, ku, kh, kl, fr, pe, se, ⟨bw, su, ho, an, al, no⟩, ra, rn, rc, r, oa, on, oc, o, lb, wh, co⟩ := M
  simp only [Ms.cells]
  go_enter Try.func80, Try.ntmps80
  go_wp2
  have HB := Lib.hid (bel_new (bel_new (Below.refl w.heap.size w) (.cells ((Ms.cells ⟨ty, tl, kt, ku, kh, kl, fr, pe, se, ⟨bw, su, ho, an, al, no⟩, ra, rn, rc, r, oa, on, oc, o, lb, wh, co⟩).toArray) 37)) (.cells (#[.int .i64 21, .int .i64 0, .int .i64 0, .int .i64 0, .int .u64 0, .slice oa on oc, .int .u64 0, .int .i64 0, .int .i64 0, .int .u32 0, .int .u32 0, .int .u32 0] : Array Value) 65))
  refine bodyPost_ret (v := .agg #[.int .i64 21, .int .i64 0, .int .i64 0, .int .i64 0, .int .u64 0, .slice oa on oc, .int .u64 0, .int .i64 0, .int .i64 0, .int .u32 0, .int .u32 0, .int .u32 0]) (by simp [results, Try.results80, go_sem]) rfl ?_
  exact ⟨⟨21, 0, 0, 0, 0, oa, on, oc, o, Wnt.zero⟩, rfl, rfl, ⟨(HF.out.row2.below (HB.out.mono hB)), HF.out.len2, by simp, by simp [Wnt.zero], by simp [Wnt.zero], by simp [Wnt.zero]⟩, HB.out⟩
set_option maxRecDepth 100000 in
theorem watt_calls (M : Ms) (w : World) (B : Nat) (_hB : B ≤ w.heap.size) (h : FineM w B M) : Calls Try.prog 74 #[.agg M.cells.toArray] w (WrPost w B (Prt.att.wr M.val)) := by
  have HF := Lib.hid h
  clear h
  obtain ⟨ty, tl, kt, ku, kh, kl, fr, pe, se, ⟨bw, su, ho, an, al, no⟩, ra, rn, rc, r, oa, on, oc, o, lb, wh, co⟩ := M
  simp only [Ms.cells]
  go_enter Try.func74, Try.ntmps74
  go_wp2
  have HB := Lib.hid (bel_new (bel_new (Below.refl w.heap.size w) (.cells ((Ms.cells ⟨ty, tl, kt, ku, kh, kl, fr, pe, se, ⟨0, su, ho, an, al, no⟩, ra, rn, rc, r, oa, on, oc, o, lb, wh, co⟩).toArray) 37)) (.cells (#[.int .i64 207, .int .i64 0, .int .i64 0, .int .i64 0, .int .u64 0, .slice none 0 0, .int .u64 0, .int .i64 su, .int .i64 ho, .int .u32 (an : Int), .int .u32 (al : Int), .int .u32 (no : Int)] : Array Value) 65))
  refine bodyPost_ret (v := .agg #[.int .i64 207, .int .i64 0, .int .i64 0, .int .i64 0, .int .u64 0, .slice none 0 0, .int .u64 0, .int .i64 su, .int .i64 ho, .int .u32 (an : Int), .int .u32 (al : Int), .int .u32 (no : Int)]) (by simp [results, Try.results74, go_sem]) rfl ?_
  exact ⟨⟨207, 0, 0, 0, 0, none, 0, 0, [], ⟨0, su, ho, an, al, no⟩⟩, rfl, rfl, ⟨Row.nil, Nat.zero_le _, by simp, HF.out.any, HF.out.all, HF.out.non⟩, HB.out⟩
set_option maxRecDepth 100000 in
theorem wlab_calls (M : Ms) (w : World) (B : Nat) (_hB : B ≤ w.heap.size) (h : FineM w B M) : Calls Try.prog 84 #[.agg M.cells.toArray] w (WrPost w B (Prt.lab.wr M.val)) := by
  have HF := Lib.hid h
  clear h
  obtain ⟨ty, tl, kt, ku, kh, kl, fr, pe, se, ⟨bw, su, ho, an, al, no⟩, ra, rn, rc, r, oa, on, oc, o, lb, wh, co⟩ := M
  simp only [Ms.cells]
  go_enter Try.func84, Try.ntmps84
  go_wp2
  have HB := Lib.hid (bel_new (bel_new (Below.refl w.heap.size w) (.cells ((Ms.cells ⟨ty, tl, kt, ku, kh, kl, fr, pe, se, ⟨bw, su, ho, an, al, no⟩, ra, rn, rc, r, oa, on, oc, o, lb, wh, co⟩).toArray) 37)) (.cells (#[.int .i64 16, .int .i64 lb, .int .i64 0, .int .i64 0, .int .u64 0, .slice none 0 0, .int .u64 0, .int .i64 0, .int .i64 0, .int .u32 0, .int .u32 0, .int .u32 0] : Array Value) 65))
  refine bodyPost_ret (v := .agg #[.int .i64 16, .int .i64 lb, .int .i64 0, .int .i64 0, .int .u64 0, .slice none 0 0, .int .u64 0, .int .i64 0, .int .i64 0, .int .u32 0, .int .u32 0, .int .u32 0]) (by simp [results, Try.results84, go_sem]) rfl ?_
  exact ⟨⟨16, lb, 0, 0, 0, none, 0, 0, [], Wnt.zero⟩, rfl, rfl, fine_no _ _ _ _ _ (by omega), HB.out⟩
set_option maxRecDepth 100000 in
theorem wfau_calls (M : Ms) (w : World) (B : Nat) (_hB : B ≤ w.heap.size) (h : FineM w B M) : Calls Try.prog 86 #[.agg M.cells.toArray] w (WrPost w B (Prt.fau.wr M.val)) := by
  have HF := Lib.hid h
  clear h
  obtain ⟨ty, tl, kt, ku, kh, kl, fr, pe, se, ⟨bw, su, ho, an, al, no⟩, ra, rn, rc, r, oa, on, oc, o, lb, wh, co⟩ := M
  simp only [Ms.cells]
  go_enter Try.func86, Try.ntmps86
  go_wp2
  have HB := Lib.hid (bel_new (bel_new (Below.refl w.heap.size w) (.cells ((Ms.cells ⟨ty, tl, kt, ku, kh, kl, fr, pe, se, ⟨bw, su, ho, an, al, no⟩, ra, rn, rc, r, oa, on, oc, o, lb, wh, co⟩).toArray) 37)) (.cells (#[.int .i64 6, .int .i64 wh, .int .i64 co, .int .i64 0, .int .u64 0, .slice none 0 0, .int .u64 0, .int .i64 0, .int .i64 0, .int .u32 0, .int .u32 0, .int .u32 0] : Array Value) 65))
  refine bodyPost_ret (v := .agg #[.int .i64 6, .int .i64 wh, .int .i64 co, .int .i64 0, .int .u64 0, .slice none 0 0, .int .u64 0, .int .i64 0, .int .i64 0, .int .u32 0, .int .u32 0, .int .u32 0]) (by simp [results, Try.results86, go_sem]) rfl ?_
  exact ⟨⟨6, wh, co, 0, 0, none, 0, 0, [], Wnt.zero⟩, rfl, rfl, fine_no _ _ _ _ _ (by omega), HB.out⟩
set_option maxRecDepth 100000 in
theorem wlsp_calls (c : Int) (g : Nat) (M : Ms) (w : World) (B : Nat) (_hB : B ≤ w.heap.size) (h : FineM w B M) (hc : Blk w g 3 [.int .i64 c]) : Calls Try.prog 76 #[.agg M.cells.toArray, .pointer (some ⟨g, 0, none⟩)] w (WrPost w B ((Prt.lsp c).wr M.val)) := by
  have HF := Lib.hid h
  clear h
  obtain ⟨ty, tl, kt, ku, kh, kl, fr, pe, se, ⟨bw, su, ho, an, al, no⟩, ra, rn, rc, r, oa, on, oc, o, lb, wh, co⟩ := M
  simp only [Ms.cells]
  have x0 := hc.cell 0
  have hlt := hc.lt
  simp only [List.getElem?_cons_zero] at x0
  clear hc
  go_enter Try.func76, Try.ntmps76
  go_wp2
  have HB := Lib.hid (bel_new (bel_new (Below.refl w.heap.size w) (.cells ((Ms.cells ⟨ty, tl, kt, ku, kh, kl, fr, pe, se, ⟨bw, su, ho, an, al, no⟩, ra, rn, rc, r, oa, on, oc, o, lb, wh, co⟩).toArray) 37)) (.cells (#[.int .i64 c, .int .i64 kh, .int .i64 kl, .int .i64 0, .int .u64 0, .slice none 0 0, .int .u64 0, .int .i64 0, .int .i64 0, .int .u32 0, .int .u32 0, .int .u32 0] : Array Value) 65))
  refine bodyPost_ret (v := .agg #[.int .i64 c, .int .i64 kh, .int .i64 kl, .int .i64 0, .int .u64 0, .slice none 0 0, .int .u64 0, .int .i64 0, .int .i64 0, .int .u32 0, .int .u32 0, .int .u32 0]) (by simp [results, Try.results76, go_sem]) rfl ?_
  exact ⟨⟨c, kh, kl, 0, 0, none, 0, 0, [], Wnt.zero⟩, rfl, rfl, fine_no _ _ _ _ _ (by omega), HB.out⟩
set_option maxRecDepth 100000 in
theorem wbwd_calls (c : Int) (g : Nat) (M : Ms) (w : World) (B : Nat) (_hB : B ≤ w.heap.size) (h : FineM w B M) (hc : Blk w g 3 [.int .i64 c]) : Calls Try.prog 78 #[.agg M.cells.toArray, .pointer (some ⟨g, 0, none⟩)] w (WrPost w B ((Prt.bwd c).wr M.val)) := by
  have HF := Lib.hid h
  clear h
  obtain ⟨ty, tl, kt, ku, kh, kl, fr, pe, se, ⟨bw, su, ho, an, al, no⟩, ra, rn, rc, r, oa, on, oc, o, lb, wh, co⟩ := M
  simp only [Ms.cells]
  have x0 := hc.cell 0
  have hlt := hc.lt
  simp only [List.getElem?_cons_zero] at x0
  clear hc
  go_enter Try.func78, Try.ntmps78
  go_wp2
  have HB := Lib.hid (bel_new (bel_new (Below.refl w.heap.size w) (.cells ((Ms.cells ⟨ty, tl, kt, ku, kh, kl, fr, pe, se, ⟨bw, su, ho, an, al, no⟩, ra, rn, rc, r, oa, on, oc, o, lb, wh, co⟩).toArray) 37)) (.cells (#[.int .i64 c, .int .i64 0, .int .i64 0, .int .i64 0, .int .u64 (bw : Int), .slice none 0 0, .int .u64 0, .int .i64 0, .int .i64 0, .int .u32 0, .int .u32 0, .int .u32 0] : Array Value) 65))
  refine bodyPost_ret (v := .agg #[.int .i64 c, .int .i64 0, .int .i64 0, .int .i64 0, .int .u64 (bw : Int), .slice none 0 0, .int .u64 0, .int .i64 0, .int .i64 0, .int .u32 0, .int .u32 0, .int .u32 0]) (by simp [results, Try.results78, go_sem]) rfl ?_
  exact ⟨⟨c, 0, 0, 0, bw, none, 0, 0, [], Wnt.zero⟩, rfl, rfl, fine_no _ _ _ _ _ HF.out.bw, HB.out⟩
set_option maxRecDepth 100000 in
theorem walw_calls (c x : Int) (g : Nat) (M : Ms) (w : World) (B : Nat) (_hB : B ≤ w.heap.size) (h : FineM w B M) (hc : Blk w g 65 (It.cells ⟨c, x, 0, 0, 0, none, 0, 0, [], Wnt.zero⟩)) : Calls Try.prog 95 #[.agg M.cells.toArray, .pointer (some ⟨g, 0, none⟩)] w (WrPost w B ((Prt.alw c x).wr M.val)) := by
  have HF := Lib.hid h
  clear h
  obtain ⟨ty, tl, kt, ku, kh, kl, fr, pe, se, ⟨bw, su, ho, an, al, no⟩, ra, rn, rc, r, oa, on, oc, o, lb, wh, co⟩ := M
  simp only [Ms.cells]
  simp only [It.cells, Wnt.zero] at hc
  have x0 := hc.cell 0
  have x1 := hc.cell 1
  have x2 := hc.cell 2
  have x3 := hc.cell 3
  have x4 := hc.cell 4
  have x5 := hc.cell 5
  have x6 := hc.cell 6
  have x7 := hc.cell 7
  have x8 := hc.cell 8
  have x9 := hc.cell 9
  have x10 := hc.cell 10
  have x11 := hc.cell 11
  have hlt := hc.lt
  simp only [List.getElem?_cons_zero, List.getElem?_cons_succ] at x0 x1 x2 x3 x4 x5 x6 x7 x8 x9 x10 x11
  clear hc
  go_enter Try.func95, Try.ntmps95
  go_wp2
  have HB := Lib.hid (bel_new (bel_new (Below.refl w.heap.size w) (.cells ((Ms.cells ⟨ty, tl, kt, ku, kh, kl, fr, pe, se, ⟨bw, su, ho, an, al, no⟩, ra, rn, rc, r, oa, on, oc, o, lb, wh, co⟩).toArray) 37)) (.cells (#[.int .i64 c, .int .i64 x, .int .i64 0, .int .i64 0, .int .u64 0, .slice none 0 0, .int .u64 0, .int .i64 0, .int .i64 0, .int .u32 0, .int .u32 0, .int .u32 0] : Array Value) 65))
  refine bodyPost_ret (v := .agg #[.int .i64 c, .int .i64 x, .int .i64 0, .int .i64 0, .int .u64 0, .slice none 0 0, .int .u64 0, .int .i64 0, .int .i64 0, .int .u32 0, .int .u32 0, .int .u32 0]) (by simp [results, Try.results95, go_sem]) rfl ?_
  exact ⟨⟨c, x, 0, 0, 0, none, 0, 0, [], Wnt.zero⟩, rfl, rfl, fine_no _ _ _ _ _ (by omega), HB.out⟩
end Go.Proofs.Ythmgpffpiggomaa
