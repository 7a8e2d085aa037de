/-
  The parts of a message as they lie in memory: function values, with what they hold. Contracts of the functions that make them. No condition.
-/
import Derived.Test.YthmgpffpiggomaaMsgC
import Derived.Shelf.Abstract
import Derived.Laws.EntriesVeiled
namespace Go.Proofs.Ythmgpffpiggomaa
open Go.RowKit

/-- A part as it lies in memory: its two functions, and what the first one holds. -/
structure PtV where
  p : Prt
  wf : FuncId
  wc : Array Value
  rf : FuncId
def ep8 (q : PtV) : List Value := [.func (.func q.wf) #[] q.wc, .func (.func q.rf) #[] #[]]
theorem ep8_length (q : PtV) : (ep8 q).length = 2 := rfl
theorem ep8_one (q : PtV) : ∀ u ∈ ep8 q, u.oneCell' = true := by
  intro u hu
  simp [ep8] at hu
  rcases hu with rfl | rfl <;> rfl
theorem infoPart : (Try.prog.info? 63).map (fun i => (i.zero, i.size, i.bytes)) = some (some (.agg #[.nilFunc, .nilFunc]), 2, 16) := by kernel_rfl

/-- The functions of a part are those, and hold what they must. -/
def PtOk (w : World) (q : PtV) : Prop :=
  match q.p with
  | .ses => q.wf = 65 ∧ q.rf = 66 ∧ q.wc = #[]
  | .hop => q.wf = 67 ∧ q.rf = 68 ∧ q.wc = #[]
  | .tim => q.wf = 69 ∧ q.rf = 70 ∧ q.wc = #[]
  | .ser => q.wf = 82 ∧ q.rf = 83 ∧ q.wc = #[]
  | .rou => q.wf = 71 ∧ q.rf = 72 ∧ q.wc = #[]
  | .rcd => q.wf = 80 ∧ q.rf = 81 ∧ q.wc = #[]
  | .att => q.wf = 74 ∧ q.rf = 75 ∧ q.wc = #[]
  | .lab => q.wf = 84 ∧ q.rf = 85 ∧ q.wc = #[]
  | .fau => q.wf = 86 ∧ q.rf = 87 ∧ q.wc = #[]
  | .lsp c => q.wf = 76 ∧ q.rf = 77 ∧ ∃ g, q.wc = #[.pointer (some ⟨g, 0, none⟩)] ∧ Blk w g 3 [.int .i64 c]
  | .bwd c => q.wf = 78 ∧ q.rf = 79 ∧ ∃ g, q.wc = #[.pointer (some ⟨g, 0, none⟩)] ∧ Blk w g 3 [.int .i64 c]
  | .alw c x => q.wf = 95 ∧ q.rf = 96 ∧ ∃ g, q.wc = #[.pointer (some ⟨g, 0, none⟩)] ∧ Blk w g 65 (It.cells ⟨c, x, 0, 0, 0, none, 0, 0, [], Wnt.zero⟩)
/-- Blocks of these two types stay. -/
def Kp (w w' : World) : Prop := ∀ k T vs, Blk w k T vs → (T = 3 ∨ T = 65) → w'.heap[k]? = w.heap[k]?
theorem Kp.bel {w w' : World} (h : Below w.heap.size w w') : Kp w w' := fun k _ _ hb _ => h.block k hb.lt
theorem Kp.turn {w w' : World} {r : Nat} {T : TypeId} (ht : Typ w r T) (hT : T ≠ 3 ∧ T ≠ 65) (hg : w.grownBy w' (some r)) : Kp w w' := fun k U vs hb hU => hg.block k hb.lt (fun e => by
  injection e with e
  refine typ_ne hb.typ ht ?_ e
  rcases hU with rfl | rfl
  · exact Ne.symm hT.1
  · exact Ne.symm hT.2)
theorem Kp.row {α : Type} {enc : α → List Value} {n : Nat} {w w' : World} {base c : Nat} {T : TypeId} {A : Option Addr} {l : List α} (h : AccR enc n w base T A c l) (hT : T ≠ 3 ∧ T ≠ 65) (hg : w.grownBy w' (blk A)) : Kp w w' := fun k U vs hb hU => hg.block k hb.lt (fun e => by
  refine typ_ne hb.typ (accr_typ h e.symm) ?_ rfl
  rcases hU with rfl | rfl
  · exact Ne.symm hT.1
  · exact Ne.symm hT.2)
theorem PtOk.kp {w w' : World} {q : PtV} (h : PtOk w q) (hk : Kp w w') : PtOk w' q := by
  obtain ⟨p, wf, wc, rf⟩ := q
  cases p <;> simp only [PtOk] at h ⊢
  all_goals first
    | exact h
    | (obtain ⟨h1, h2, g, h3, h4⟩ := h
       exact ⟨h1, h2, g, h3, h4.same (hk _ _ _ h4 (by simp))⟩)
theorem PtOk.bel {w w' : World} {q : PtV} (h : PtOk w q) (hb : Below w.heap.size w w') : PtOk w' q := h.kp (Kp.bel hb)
/-- What a part writes, whichever it is. -/
theorem part_writes {w : World} {q : PtV} (h : PtOk w q) (M : Ms) (B : Nat) (hB : B ≤ w.heap.size) (hm : FineM w B M) :
    (∀ (args : Array Value) (w : World), (callFunc q.wf args).run Try.prog w = .ok (.enter q.wf args) w) ∧ Calls Try.prog q.wf (#[.agg M.cells.toArray] ++ q.wc) w (WrPost w B (q.p.wr M.val)) := by
  obtain ⟨p, wf, wc, rf⟩ := q
  cases p <;> simp only [PtOk] at h
  case ses => obtain ⟨rfl, rfl, rfl⟩ := h; exact ⟨enters_of Try.func65 (by kernel_rfl) rfl, wses_calls M w B hB hm⟩
  case hop => obtain ⟨rfl, rfl, rfl⟩ := h; exact ⟨enters_of Try.func67 (by kernel_rfl) rfl, whop_calls M w B hB hm⟩
  case tim => obtain ⟨rfl, rfl, rfl⟩ := h; exact ⟨enters_of Try.func69 (by kernel_rfl) rfl, wtim_calls M w B hB hm⟩
  case ser => obtain ⟨rfl, rfl, rfl⟩ := h; exact ⟨enters_of Try.func82 (by kernel_rfl) rfl, wser_calls M w B hB hm⟩
  case rou => obtain ⟨rfl, rfl, rfl⟩ := h; exact ⟨enters_of Try.func71 (by kernel_rfl) rfl, wrou_calls M w B hB hm⟩
  case rcd => obtain ⟨rfl, rfl, rfl⟩ := h; exact ⟨enters_of Try.func80 (by kernel_rfl) rfl, wrcd_calls M w B hB hm⟩
  case att => obtain ⟨rfl, rfl, rfl⟩ := h; exact ⟨enters_of Try.func74 (by kernel_rfl) rfl, watt_calls M w B hB hm⟩
  case lab => obtain ⟨rfl, rfl, rfl⟩ := h; exact ⟨enters_of Try.func84 (by kernel_rfl) rfl, wlab_calls M w B hB hm⟩
  case fau => obtain ⟨rfl, rfl, rfl⟩ := h; exact ⟨enters_of Try.func86 (by kernel_rfl) rfl, wfau_calls M w B hB hm⟩
  case lsp c => obtain ⟨rfl, rfl, g, rfl, hg⟩ := h; exact ⟨enters_of Try.func76 (by kernel_rfl) rfl, wlsp_calls c g M w B hB hm hg⟩
  case bwd c => obtain ⟨rfl, rfl, g, rfl, hg⟩ := h; exact ⟨enters_of Try.func78 (by kernel_rfl) rfl, wbwd_calls c g M w B hB hm hg⟩
  case alw c x => obtain ⟨rfl, rfl, g, rfl, hg⟩ := h; exact ⟨enters_of Try.func95 (by kernel_rfl) rfl, walw_calls c x g M w B hB hm hg⟩
/-- What a part reads, whichever it is. -/
theorem part_reads {w : World} {q : PtV} (h : PtOk w q) (M : Ms) (x : It) (r : Nat) (hb : Blk w r 37 M.cells) (hm : Mem w r M) (hx : MemI w r x) :
    (∀ (args : Array Value) (w : World), (callFunc q.rf args).run Try.prog w = .ok (.enter q.rf args) w) ∧ Calls Try.prog q.rf #[.pointer (some ⟨r, 0, none⟩), .agg x.cells.toArray] w (RdPost w r M x (q.p.rd M.val x.val)) := by
  obtain ⟨p, wf, wc, rf⟩ := q
  cases p <;> simp only [PtOk] at h
  case ses => obtain ⟨rfl, rfl, rfl⟩ := h; exact ⟨enters_of Try.func66 (by kernel_rfl) rfl, rses_calls M x w r hb hm hx⟩
  case hop => obtain ⟨rfl, rfl, rfl⟩ := h; exact ⟨enters_of Try.func68 (by kernel_rfl) rfl, rhop_calls M x w r hb hm hx⟩
  case tim => obtain ⟨rfl, rfl, rfl⟩ := h; exact ⟨enters_of Try.func70 (by kernel_rfl) rfl, rtim_calls M x w r hb hm hx⟩
  case ser => obtain ⟨rfl, rfl, rfl⟩ := h; exact ⟨enters_of Try.func83 (by kernel_rfl) rfl, rser_calls M x w r hb hm hx⟩
  case rou => obtain ⟨rfl, rfl, rfl⟩ := h; exact ⟨enters_of Try.func72 (by kernel_rfl) rfl, rrou_calls M x w r hb hm hx⟩
  case rcd => obtain ⟨rfl, rfl, rfl⟩ := h; exact ⟨enters_of Try.func81 (by kernel_rfl) rfl, rrcd_calls M x w r hb hm hx⟩
  case att => obtain ⟨rfl, rfl, rfl⟩ := h; exact ⟨enters_of Try.func75 (by kernel_rfl) rfl, ratt_calls M x w r hb hm hx⟩
  case lab => obtain ⟨rfl, rfl, rfl⟩ := h; exact ⟨enters_of Try.func85 (by kernel_rfl) rfl, rlab_calls M x w r hb hm hx⟩
  case fau => obtain ⟨rfl, rfl, rfl⟩ := h; exact ⟨enters_of Try.func87 (by kernel_rfl) rfl, rfau_calls M x w r hb hm hx⟩
  case lsp c => obtain ⟨rfl, rfl, g, rfl, hg⟩ := h; exact ⟨enters_of Try.func77 (by kernel_rfl) rfl, rlsp_calls c M x w r hb hm hx⟩
  case bwd c => obtain ⟨rfl, rfl, g, rfl, hg⟩ := h; exact ⟨enters_of Try.func79 (by kernel_rfl) rfl, rbwd_calls c M x w r hb hm hx⟩
  case alw c y => obtain ⟨rfl, rfl, g, rfl, hg⟩ := h; exact ⟨enters_of Try.func96 (by kernel_rfl) rfl, ralw_calls c y M x w r hb hm hx⟩

/-- A part that a call makes. -/
def PartPost (w : World) (p : Prt) (e : Ending) (w' : World) : Prop := ∃ q : PtV, e = .returned (.agg (ep8 q).toArray) ∧ q.p = p ∧ PtOk w' q ∧ Below w.heap.size w w'

theorem hop8_calls (w : World) : Calls Try.prog 40 #[] w (PartPost w .hop) := by
  go_enter Try.func40, Try.ntmps40
  go_wp2
  refine bodyPost_ret (v := .agg #[.func (.func 67) #[] #[], .func (.func 68) #[] #[]]) (by simp [results, Try.results40, go_sem]) rfl ?_
  exact ⟨⟨.hop, 67, #[], 68⟩, rfl, rfl, ⟨rfl, rfl, rfl⟩, bel_new (Below.refl _ _) _⟩
theorem times8_calls (w : World) : Calls Try.prog 41 #[] w (PartPost w .tim) := by
  go_enter Try.func41, Try.ntmps41
  go_wp2
  refine bodyPost_ret (v := .agg #[.func (.func 69) #[] #[], .func (.func 70) #[] #[]]) (by simp [results, Try.results41, go_sem]) rfl ?_
  exact ⟨⟨.tim, 69, #[], 70⟩, rfl, rfl, ⟨rfl, rfl, rfl⟩, bel_new (Below.refl _ _) _⟩
theorem serial8_calls (w : World) : Calls Try.prog 48 #[] w (PartPost w .ser) := by
  go_enter Try.func48, Try.ntmps48
  go_wp2
  refine bodyPost_ret (v := .agg #[.func (.func 82) #[] #[], .func (.func 83) #[] #[]]) (by simp [results, Try.results48, go_sem]) rfl ?_
  exact ⟨⟨.ser, 82, #[], 83⟩, rfl, rfl, ⟨rfl, rfl, rfl⟩, bel_new (Below.refl _ _) _⟩
theorem route8_calls (w : World) : Calls Try.prog 42 #[] w (PartPost w .rou) := by
  go_enter Try.func42, Try.ntmps42
  go_wp2
  refine bodyPost_ret (v := .agg #[.func (.func 71) #[] #[], .func (.func 72) #[] #[]]) (by simp [results, Try.results42, go_sem]) rfl ?_
  exact ⟨⟨.rou, 71, #[], 72⟩, rfl, rfl, ⟨rfl, rfl, rfl⟩, bel_new (Below.refl _ _) _⟩
theorem record8_calls (w : World) : Calls Try.prog 47 #[] w (PartPost w .rcd) := by
  go_enter Try.func47, Try.ntmps47
  go_wp2
  refine bodyPost_ret (v := .agg #[.func (.func 80) #[] #[], .func (.func 81) #[] #[]]) (by simp [results, Try.results47, go_sem]) rfl ?_
  exact ⟨⟨.rcd, 80, #[], 81⟩, rfl, rfl, ⟨rfl, rfl, rfl⟩, bel_new (Below.refl _ _) _⟩
theorem attributes8_calls (w : World) : Calls Try.prog 44 #[] w (PartPost w .att) := by
  go_enter Try.func44, Try.ntmps44
  go_wp2
  refine bodyPost_ret (v := .agg #[.func (.func 74) #[] #[], .func (.func 75) #[] #[]]) (by simp [results, Try.results44, go_sem]) rfl ?_
  exact ⟨⟨.att, 74, #[], 75⟩, rfl, rfl, ⟨rfl, rfl, rfl⟩, bel_new (Below.refl _ _) _⟩
theorem label8_calls (w : World) : Calls Try.prog 50 #[] w (PartPost w .lab) := by
  go_enter Try.func50, Try.ntmps50
  go_wp2
  refine bodyPost_ret (v := .agg #[.func (.func 84) #[] #[], .func (.func 85) #[] #[]]) (by simp [results, Try.results50, go_sem]) rfl ?_
  exact ⟨⟨.lab, 84, #[], 85⟩, rfl, rfl, ⟨rfl, rfl, rfl⟩, bel_new (Below.refl _ _) _⟩
theorem fault8_calls (w : World) : Calls Try.prog 51 #[] w (PartPost w .fau) := by
  go_enter Try.func51, Try.ntmps51
  go_wp2
  refine bodyPost_ret (v := .agg #[.func (.func 86) #[] #[], .func (.func 87) #[] #[]]) (by simp [results, Try.results51, go_sem]) rfl ?_
  exact ⟨⟨.fau, 86, #[], 87⟩, rfl, rfl, ⟨rfl, rfl, rfl⟩, bel_new (Below.refl _ _) _⟩
theorem lsp8_calls (c : Int) (w : World) : Calls Try.prog 45 #[.int .i64 c] w (PartPost w (.lsp c)) := by
  go_enter Try.func45, Try.ntmps45
  go_wp2
  refine bodyPost_ret (v := .agg #[.func (.func 76) #[] #[.pointer (some ⟨w.heap.size, 0, none⟩)], .func (.func 77) #[] #[]]) (by simp [results, Try.results45, go_sem]) rfl ?_
  exact ⟨⟨.lsp c, 76, #[.pointer (some ⟨w.heap.size, 0, none⟩)], 77⟩, rfl, rfl, ⟨rfl, rfl, w.heap.size, rfl, (Blk.new w 3 [.int .i64 c]).alloc _⟩, bel_new (bel_new (Below.refl _ _) _) _⟩
theorem bandwidth8_calls (c : Int) (w : World) : Calls Try.prog 46 #[.int .i64 c] w (PartPost w (.bwd c)) := by
  go_enter Try.func46, Try.ntmps46
  go_wp2
  refine bodyPost_ret (v := .agg #[.func (.func 78) #[] #[.pointer (some ⟨w.heap.size, 0, none⟩)], .func (.func 79) #[] #[]]) (by simp [results, Try.results46, go_sem]) rfl ?_
  exact ⟨⟨.bwd c, 78, #[.pointer (some ⟨w.heap.size, 0, none⟩)], 79⟩, rfl, rfl, ⟨rfl, rfl, w.heap.size, rfl, (Blk.new w 3 [.int .i64 c]).alloc _⟩, bel_new (bel_new (Below.refl _ _) _) _⟩
theorem always8_calls (c x : Int) (w : World) : Calls Try.prog 73 #[.agg (It.cells ⟨c, x, 0, 0, 0, none, 0, 0, [], Wnt.zero⟩).toArray] w (PartPost w (.alw c x)) := by
  simp only [It.cells, Wnt.zero]
  go_enter Try.func73, Try.ntmps73
  go_wp2
  refine bodyPost_ret (v := .agg #[.func (.func 95) #[] #[.pointer (some ⟨w.heap.size, 0, none⟩)], .func (.func 96) #[] #[]]) (by simp [results, Try.results73, go_sem]) rfl ?_
  exact ⟨⟨.alw c x, 95, #[.pointer (some ⟨w.heap.size, 0, none⟩)], 96⟩, rfl, rfl, ⟨rfl, rfl, w.heap.size, rfl, (Blk.new w 65 (It.cells ⟨c, x, 0, 0, 0, none, 0, 0, [], Wnt.zero⟩)).alloc _⟩, bel_new (bel_new (Below.refl _ _) _) _⟩
theorem request8_calls (w : World) : Calls Try.prog 43 #[] w (PartPost w (.alw 19 2048)) := by
  have HB := Lib.hid (Blk.new w 63 [.nilFunc, .nilFunc])
  have HL := Lib.hid (bel_new (Below.refl _ w) (.cells ([.nilFunc, .nilFunc] : List Value).toArray 63))
  go_enter Try.func43, Try.ntmps43
  go_wp2_with fail
  revert HB HL
  generalize World.alloc w _ = w1
  intro HB HL
  refine (always8_calls 19 2048 w1).mono ?_
  rintro e w2 ⟨⟨p, wf, wc, rf⟩, rfl, rfl, hok, hb⟩
  have hB := HB.out.below hb
  have x0 := hB.cell 0
  have x1 := hB.cell 1
  have f0 := hB.free 0
  have f1 := hB.free 1
  simp only [List.getElem?_cons_zero, List.getElem?_cons_succ] at x0 x1
  have HB2 := Lib.hid hB
  have HO := Lib.hid hok
  have HL2 := Lib.hid (bel_more HL.out (Nat.le_refl _) hb)
  clear hB hok hb HB HL
  simp only [ep8]
  go_wp2
  refine bodyPost_ret (v := .agg #[.func (.func wf) #[] wc, .func (.func rf) #[] #[]]) (by simp [results, Try.results43, go_sem, x0, x1]) rfl ?_
  have hg := upd_trans (upd_set w2 w.heap.size 0 (.func (.func wf) #[] wc)) (upd_set _ w.heap.size 1 (.func (.func rf) #[] #[]))
  exact ⟨⟨.alw 19 2048, wf, wc, rf⟩, rfl, rfl, HO.out.kp (Kp.turn HB2.out.typ (by decide) hg), bel_upd HL2.out hg (Nat.le_refl _) (Nat.le_refl _)⟩
theorem style8_calls (w : World) : Calls Try.prog 49 #[] w (PartPost w (.alw 8 0)) := by
  have HB := Lib.hid (Blk.new w 63 [.nilFunc, .nilFunc])
  have HL := Lib.hid (bel_new (Below.refl _ w) (.cells ([.nilFunc, .nilFunc] : List Value).toArray 63))
  go_enter Try.func49, Try.ntmps49
  go_wp2_with fail
  revert HB HL
  generalize World.alloc w _ = w1
  intro HB HL
  refine (always8_calls 8 0 w1).mono ?_
  rintro e w2 ⟨⟨p, wf, wc, rf⟩, rfl, rfl, hok, hb⟩
  have hB := HB.out.below hb
  have x0 := hB.cell 0
  have x1 := hB.cell 1
  have f0 := hB.free 0
  have f1 := hB.free 1
  simp only [List.getElem?_cons_zero, List.getElem?_cons_succ] at x0 x1
  have HB2 := Lib.hid hB
  have HO := Lib.hid hok
  have HL2 := Lib.hid (bel_more HL.out (Nat.le_refl _) hb)
  clear hB hok hb HB HL
  simp only [ep8]
  go_wp2
  refine bodyPost_ret (v := .agg #[.func (.func wf) #[] wc, .func (.func rf) #[] #[]]) (by simp [results, Try.results49, go_sem, x0, x1]) rfl ?_
  have hg := upd_trans (upd_set w2 w.heap.size 0 (.func (.func wf) #[] wc)) (upd_set _ w.heap.size 1 (.func (.func rf) #[] #[]))
  exact ⟨⟨.alw 8 0, wf, wc, rf⟩, rfl, rfl, HO.out.kp (Kp.turn HB2.out.typ (by decide) hg), bel_upd HL2.out hg (Nat.le_refl _) (Nat.le_refl _)⟩
end Go.Proofs.Ythmgpffpiggomaa
