/-
  The parts of a message of any type, as contents lists them in memory. No condition.
-/
import Derived.Test.YthmgpffpiggomaaMsgD
namespace Go.Proofs.Ythmgpffpiggomaa
open Go.RowKit

section
variable {α : Type} {enc : α → List Value} {k : Nat} {w : World} {g base B : Nat} {T : TypeId} {l : List α}
theorem blk_accr (hk : ∀ x, (enc x).length = k) (h : Blk w g T (l.flatMap enc)) (hb : base ≤ g) (hl : l.length ≤ 140737488355328) : AccR enc k w base T (some ⟨g, 0, none⟩) l.length l :=
  ⟨flat_length hk l, .inr ⟨g, l.length, (l.flatMap enc).toArray, rfl, hb, h, Nat.le_refl _, by unfold maxLen; omega, by simp [flat_length hk], List.take_of_length_le (by simp [flat_length hk])⟩⟩
theorem blk_row (h : Blk w g T (l.flatMap enc)) (hg : g < B) : Row enc w B (some ⟨g, 0, none⟩) l.length l :=
  ⟨rfl, fun _ => ⟨g, 0, rfl, hg, fun i hi => by
    have := h.cell (0 + i)
    rw [this]
    simp⟩⟩
end
theorem oks_snoc {w w' : World} {l : List PtV} {q : PtV} (h : ∀ x ∈ l, PtOk w x) (hb : Below w.heap.size w w') (hq : PtOk w' q) : ∀ x ∈ l ++ [q], PtOk w' x := by
  intro x hx
  rcases List.mem_append.1 hx with hx | hx
  · exact (h x hx).bel hb
  · obtain rfl := List.mem_singleton.1 hx
    exact hq

/-- Parts that a call makes. -/
def PartsPost (w : World) (ps : List Prt) (e : Ending) (w' : World) : Prop :=
  ∃ A c qs, e = .returned (.slice A qs.length c) ∧ qs.map PtV.p = ps ∧ AccR ep8 2 w' w.heap.size 63 A c qs ∧ (∀ q ∈ qs, PtOk w' q) ∧ Below w.heap.size w w'

theorem session8_calls (qs : List PtV) (a : Option Addr) (n c : Nat) (w : World) (h : Row ep8 w w.heap.size a n qs) (hok : ∀ q ∈ qs, PtOk w q) (hn : n ≤ 1000) :
    Calls Try.prog 39 #[.slice a n c] w (PartsPost w (.ses :: qs.map PtV.p)) := by
  have hb1 := bel_new (Below.refl _ w) (.cells #[.func (.func 65) #[] #[], .func (.func 66) #[] #[]] 63)
  have hb2 := bel_new hb1 (.cells #[.func (.func 65) #[] #[], .func (.func 66) #[] #[]] 63)
  have ha := blk_accr (l := [(⟨.ses, 65, #[], 66⟩ : PtV)]) ep8_length (Blk.new (w.alloc (.cells #[.func (.func 65) #[] #[], .func (.func 66) #[] #[]] 63)) 63 ([(⟨.ses, 65, #[], 66⟩ : PtV)].flatMap ep8)) (base := w.heap.size) (by simp) (by simp)
  have hr := h.below hb2
  obtain ⟨A, c', w', r1, r2, r3, _⟩ := accr_append (P := Try.prog) ep8_length ep8_one (by omega) ha (cc := c) hr (ty := 58) Try.underlying58 infoPart rfl (by simp; omega) (by simp; omega) (by simp; omega)
  have hbel := belr_acc hb2 ha r3
  have hok2 := oks_snoc (l := []) (w := w.alloc (.cells #[.func (.func 65) #[] #[], .func (.func 66) #[] #[]] 63)) (by simp) (Below.refl _ _) (show PtOk (w.alloc (.cells #[.func (.func 65) #[] #[], .func (.func 66) #[] #[]] 63)) ⟨.ses, 65, #[], 66⟩ from ⟨rfl, rfl, rfl⟩)
  have hq : ∀ q ∈ [(⟨.ses, 65, #[], 66⟩ : PtV)] ++ qs, PtOk w' q := by
    intro q hq
    rcases List.mem_append.1 hq with hq | hq
    · obtain rfl := List.mem_singleton.1 hq; exact ⟨rfl, rfl, rfl⟩
    · exact ((hok q hq).bel hb2).kp (Kp.row ha (by decide) r3)
  have HF := Lib.hid (show PartsPost w (.ses :: qs.map PtV.p) (.returned (.slice A (1 + n) c')) w' from ⟨A, c', _, by simp [h.1, Nat.add_comm], by simp, r2, hq, hbel⟩)
  simp only [World.size_alloc, List.length_cons, List.length_nil] at r1
  have HR := Lib.hid r1
  clear hb1 hb2 ha hr r1 r2 r3 hbel hok2 hq hok h
  go_enter Try.func39, Try.ntmps39
  go_wp2_with (at_builtin; refine step_append (o := ⟨some 8, _, _, _, _, _⟩) rfl rfl rfl rfl HR.out ?_)
  go_ret
  exact HF.out

set_option maxRecDepth 100000 in
set_option maxHeartbeats 800000 in
theorem contents1_calls (w : World) : Calls Try.prog 24 #[.int .i64 1] w (PartsPost w (prts 1)) := by
  have HK0 := Lib.hid (Below.refl w.heap.size w)
  have HO0 := Lib.hid (show ∀ q ∈ ([] : List PtV), PtOk w q by simp)
  go_enter Try.func24, Try.ntmps24
  go_wp2_with fail
  ((with_reducible refine (hop8_calls _).mono ?_))
  rintro e w1 ⟨⟨p, f1, c1, g1⟩, rfl, rfl, hok, hb⟩
  have HO1 := Lib.hid (oks_snoc HO0.out hb hok)
  have HK1 := Lib.hid (bel_more HK0.out (Nat.le_refl _) hb)
  clear hok hb HO0 HK0
  simp only [ep8]
  go_wp2_with fail
  ((with_reducible refine (times8_calls _).mono ?_))
  rintro e w2 ⟨⟨p, f2, c2, g2⟩, rfl, rfl, hok, hb⟩
  have HO2 := Lib.hid (oks_snoc HO1.out hb hok)
  have HK2 := Lib.hid (bel_more HK1.out (Nat.le_refl _) hb)
  clear hok hb HO1 HK1
  simp only [ep8]
  go_wp2_with fail
  ((with_reducible refine (route8_calls _).mono ?_))
  rintro e w3 ⟨⟨p, f3, c3, g3⟩, rfl, rfl, hok, hb⟩
  have HO3 := Lib.hid (oks_snoc HO2.out hb hok)
  have HK3 := Lib.hid (bel_more HK2.out (Nat.le_refl _) hb)
  clear hok hb HO2 HK2
  simp only [ep8]
  go_wp2_with fail
  ((with_reducible refine (request8_calls _).mono ?_))
  rintro e w4 ⟨⟨p, f4, c4, g4⟩, rfl, rfl, hok, hb⟩
  have HO4 := Lib.hid (oks_snoc HO3.out hb hok)
  have HK4 := Lib.hid (bel_more HK3.out (Nat.le_refl _) hb)
  clear hok hb HO3 HK3
  simp only [ep8]
  go_wp2_with fail
  ((with_reducible refine (attributes8_calls _).mono ?_))
  rintro e w5 ⟨⟨p, f5, c5, g5⟩, rfl, rfl, hok, hb⟩
  have HO5 := Lib.hid (oks_snoc HO4.out hb hok)
  have HK5 := Lib.hid (bel_more HK4.out (Nat.le_refl _) hb)
  clear hok hb HO4 HK4
  simp only [ep8]
  go_wp2_with fail
  ((with_reducible refine (lsp8_calls 11 _).mono ?_))
  rintro e w6 ⟨⟨p, f6, c6, g6⟩, rfl, rfl, hok, hb⟩
  have HO6 := Lib.hid (oks_snoc HO5.out hb hok)
  have HK6 := Lib.hid (bel_more HK5.out (Nat.le_refl _) hb)
  clear hok hb HO5 HK5
  simp only [ep8]
  go_wp2_with fail
  ((with_reducible refine (bandwidth8_calls 12 _).mono ?_))
  rintro e w7 ⟨⟨p, f7, c7, g7⟩, rfl, rfl, hok, hb⟩
  have HO7 := Lib.hid (oks_snoc HO6.out hb hok)
  have HK7 := Lib.hid (bel_more HK6.out (Nat.le_refl _) hb)
  clear hok hb HO6 HK6
  simp only [ep8]
  go_wp2_with fail
  ((with_reducible refine (record8_calls _).mono ?_))
  rintro e w8 ⟨⟨p, f8, c8, g8⟩, rfl, rfl, hok, hb⟩
  have HO8 := Lib.hid (oks_snoc HO7.out hb hok)
  have HK8 := Lib.hid (bel_more HK7.out (Nat.le_refl _) hb)
  clear hok hb HO7 HK7
  simp only [ep8]
  have HB := Lib.hid (bel_new (Below.refl _ w8) (.cells (([⟨.hop, f1, c1, g1⟩, ⟨.tim, f2, c2, g2⟩, ⟨.rou, f3, c3, g3⟩, ⟨.alw 19 2048, f4, c4, g4⟩, ⟨.att, f5, c5, g5⟩, ⟨.lsp 11, f6, c6, g6⟩, ⟨.bwd 12, f7, c7, g7⟩, ⟨.rcd, f8, c8, g8⟩] : List PtV).flatMap ep8).toArray 63))
  have HR := Lib.hid (blk_row (B := w8.heap.size + 1) (Blk.new w8 63 (([⟨.hop, f1, c1, g1⟩, ⟨.tim, f2, c2, g2⟩, ⟨.rou, f3, c3, g3⟩, ⟨.alw 19 2048, f4, c4, g4⟩, ⟨.att, f5, c5, g5⟩, ⟨.lsp 11, f6, c6, g6⟩, ⟨.bwd 12, f7, c7, g7⟩, ⟨.rcd, f8, c8, g8⟩] : List PtV).flatMap ep8)) (Nat.lt_succ_self _))
  go_wp2_with fail
  refine (session8_calls [⟨.hop, f1, c1, g1⟩, ⟨.tim, f2, c2, g2⟩, ⟨.rou, f3, c3, g3⟩, ⟨.alw 19 2048, f4, c4, g4⟩, ⟨.att, f5, c5, g5⟩, ⟨.lsp 11, f6, c6, g6⟩, ⟨.bwd 12, f7, c7, g7⟩, ⟨.rcd, f8, c8, g8⟩] (some ⟨w8.heap.size, 0, none⟩) 8 8 _ ?_ ?_ (by omega)).mono ?_
  · exact (by rw [World.size_alloc]; exact HR.out)
  · exact fun q hq => (HO8.out q hq).bel HB.out
  rintro e w' ⟨A, c, qs, rfl, hm, ha, hok, hb⟩
  have HF := Lib.hid (show PartsPost w (prts 1) (.returned (.slice A qs.length c)) w' from ⟨A, c, qs, rfl, hm, ha.lower (Nat.le_trans HK8.out.size HB.out.size), hok, bel_more (bel_more HK8.out (Nat.le_refl _) HB.out) (Nat.le_refl _) hb⟩)
  clear hm ha hok hb HO8 HK8 HB HR
  go_wp2
  go_ret
  exact HF.out

set_option maxRecDepth 100000 in
set_option maxHeartbeats 800000 in
theorem contents2_calls (w : World) : Calls Try.prog 24 #[.int .i64 2] w (PartsPost w (prts 2)) := by
  have HK0 := Lib.hid (Below.refl w.heap.size w)
  have HO0 := Lib.hid (show ∀ q ∈ ([] : List PtV), PtOk w q by simp)
  go_enter Try.func24, Try.ntmps24
  go_wp2_with fail
  ((with_reducible refine (hop8_calls _).mono ?_))
  rintro e w1 ⟨⟨p, f1, c1, g1⟩, rfl, rfl, hok, hb⟩
  have HO1 := Lib.hid (oks_snoc HO0.out hb hok)
  have HK1 := Lib.hid (bel_more HK0.out (Nat.le_refl _) hb)
  clear hok hb HO0 HK0
  simp only [ep8]
  go_wp2_with fail
  ((with_reducible refine (times8_calls _).mono ?_))
  rintro e w2 ⟨⟨p, f2, c2, g2⟩, rfl, rfl, hok, hb⟩
  have HO2 := Lib.hid (oks_snoc HO1.out hb hok)
  have HK2 := Lib.hid (bel_more HK1.out (Nat.le_refl _) hb)
  clear hok hb HO1 HK1
  simp only [ep8]
  go_wp2_with fail
  ((with_reducible refine (serial8_calls _).mono ?_))
  rintro e w3 ⟨⟨p, f3, c3, g3⟩, rfl, rfl, hok, hb⟩
  have HO3 := Lib.hid (oks_snoc HO2.out hb hok)
  have HK3 := Lib.hid (bel_more HK2.out (Nat.le_refl _) hb)
  clear hok hb HO2 HK2
  simp only [ep8]
  go_wp2_with fail
  ((with_reducible refine (style8_calls _).mono ?_))
  rintro e w4 ⟨⟨p, f4, c4, g4⟩, rfl, rfl, hok, hb⟩
  have HO4 := Lib.hid (oks_snoc HO3.out hb hok)
  have HK4 := Lib.hid (bel_more HK3.out (Nat.le_refl _) hb)
  clear hok hb HO3 HK3
  simp only [ep8]
  go_wp2_with fail
  ((with_reducible refine (bandwidth8_calls 9 _).mono ?_))
  rintro e w5 ⟨⟨p, f5, c5, g5⟩, rfl, rfl, hok, hb⟩
  have HO5 := Lib.hid (oks_snoc HO4.out hb hok)
  have HK5 := Lib.hid (bel_more HK4.out (Nat.le_refl _) hb)
  clear hok hb HO4 HK4
  simp only [ep8]
  go_wp2_with fail
  ((with_reducible refine (lsp8_calls 10 _).mono ?_))
  rintro e w6 ⟨⟨p, f6, c6, g6⟩, rfl, rfl, hok, hb⟩
  have HO6 := Lib.hid (oks_snoc HO5.out hb hok)
  have HK6 := Lib.hid (bel_more HK5.out (Nat.le_refl _) hb)
  clear hok hb HO5 HK5
  simp only [ep8]
  go_wp2_with fail
  ((with_reducible refine (label8_calls _).mono ?_))
  rintro e w7 ⟨⟨p, f7, c7, g7⟩, rfl, rfl, hok, hb⟩
  have HO7 := Lib.hid (oks_snoc HO6.out hb hok)
  have HK7 := Lib.hid (bel_more HK6.out (Nat.le_refl _) hb)
  clear hok hb HO6 HK6
  simp only [ep8]
  have HB := Lib.hid (bel_new (Below.refl _ w7) (.cells (([⟨.hop, f1, c1, g1⟩, ⟨.tim, f2, c2, g2⟩, ⟨.ser, f3, c3, g3⟩, ⟨.alw 8 0, f4, c4, g4⟩, ⟨.bwd 9, f5, c5, g5⟩, ⟨.lsp 10, f6, c6, g6⟩, ⟨.lab, f7, c7, g7⟩] : List PtV).flatMap ep8).toArray 63))
  have HR := Lib.hid (blk_row (B := w7.heap.size + 1) (Blk.new w7 63 (([⟨.hop, f1, c1, g1⟩, ⟨.tim, f2, c2, g2⟩, ⟨.ser, f3, c3, g3⟩, ⟨.alw 8 0, f4, c4, g4⟩, ⟨.bwd 9, f5, c5, g5⟩, ⟨.lsp 10, f6, c6, g6⟩, ⟨.lab, f7, c7, g7⟩] : List PtV).flatMap ep8)) (Nat.lt_succ_self _))
  go_wp2_with fail
  refine (session8_calls [⟨.hop, f1, c1, g1⟩, ⟨.tim, f2, c2, g2⟩, ⟨.ser, f3, c3, g3⟩, ⟨.alw 8 0, f4, c4, g4⟩, ⟨.bwd 9, f5, c5, g5⟩, ⟨.lsp 10, f6, c6, g6⟩, ⟨.lab, f7, c7, g7⟩] (some ⟨w7.heap.size, 0, none⟩) 7 7 _ ?_ ?_ (by omega)).mono ?_
  · exact (by rw [World.size_alloc]; exact HR.out)
  · exact fun q hq => (HO7.out q hq).bel HB.out
  rintro e w' ⟨A, c, qs, rfl, hm, ha, hok, hb⟩
  have HF := Lib.hid (show PartsPost w (prts 2) (.returned (.slice A qs.length c)) w' from ⟨A, c, qs, rfl, hm, ha.lower (Nat.le_trans HK7.out.size HB.out.size), hok, bel_more (bel_more HK7.out (Nat.le_refl _) HB.out) (Nat.le_refl _) hb⟩)
  clear hm ha hok hb HO7 HK7 HB HR
  go_wp2
  go_ret
  exact HF.out

set_option maxRecDepth 100000 in
set_option maxHeartbeats 800000 in
theorem contents3_calls (w : World) : Calls Try.prog 24 #[.int .i64 3] w (PartsPost w (prts 3)) := by
  have HK0 := Lib.hid (Below.refl w.heap.size w)
  have HO0 := Lib.hid (show ∀ q ∈ ([] : List PtV), PtOk w q by simp)
  go_enter Try.func24, Try.ntmps24
  go_wp2_with fail
  ((with_reducible refine (fault8_calls _).mono ?_))
  rintro e w1 ⟨⟨p, f1, c1, g1⟩, rfl, rfl, hok, hb⟩
  have HO1 := Lib.hid (oks_snoc HO0.out hb hok)
  have HK1 := Lib.hid (bel_more HK0.out (Nat.le_refl _) hb)
  clear hok hb HO0 HK0
  simp only [ep8]
  go_wp2_with fail
  ((with_reducible refine (lsp8_calls 11 _).mono ?_))
  rintro e w2 ⟨⟨p, f2, c2, g2⟩, rfl, rfl, hok, hb⟩
  have HO2 := Lib.hid (oks_snoc HO1.out hb hok)
  have HK2 := Lib.hid (bel_more HK1.out (Nat.le_refl _) hb)
  clear hok hb HO1 HK1
  simp only [ep8]
  have HB := Lib.hid (bel_new (Below.refl _ w2) (.cells (([⟨.fau, f1, c1, g1⟩, ⟨.lsp 11, f2, c2, g2⟩] : List PtV).flatMap ep8).toArray 63))
  have HR := Lib.hid (blk_row (B := w2.heap.size + 1) (Blk.new w2 63 (([⟨.fau, f1, c1, g1⟩, ⟨.lsp 11, f2, c2, g2⟩] : List PtV).flatMap ep8)) (Nat.lt_succ_self _))
  go_wp2_with fail
  refine (session8_calls [⟨.fau, f1, c1, g1⟩, ⟨.lsp 11, f2, c2, g2⟩] (some ⟨w2.heap.size, 0, none⟩) 2 2 _ ?_ ?_ (by omega)).mono ?_
  · exact (by rw [World.size_alloc]; exact HR.out)
  · exact fun q hq => (HO2.out q hq).bel HB.out
  rintro e w' ⟨A, c, qs, rfl, hm, ha, hok, hb⟩
  have HF := Lib.hid (show PartsPost w (prts 3) (.returned (.slice A qs.length c)) w' from ⟨A, c, qs, rfl, hm, ha.lower (Nat.le_trans HK2.out.size HB.out.size), hok, bel_more (bel_more HK2.out (Nat.le_refl _) HB.out) (Nat.le_refl _) hb⟩)
  clear hm ha hok hb HO2 HK2 HB HR
  go_wp2
  go_ret
  exact HF.out

set_option maxRecDepth 100000 in
set_option maxHeartbeats 800000 in
theorem contents4_calls (w : World) : Calls Try.prog 24 #[.int .i64 4] w (PartsPost w (prts 4)) := by
  have HK0 := Lib.hid (Below.refl w.heap.size w)
  have HO0 := Lib.hid (show ∀ q ∈ ([] : List PtV), PtOk w q by simp)
  go_enter Try.func24, Try.ntmps24
  go_wp2_with fail
  ((with_reducible refine (hop8_calls _).mono ?_))
  rintro e w1 ⟨⟨p, f1, c1, g1⟩, rfl, rfl, hok, hb⟩
  have HO1 := Lib.hid (oks_snoc HO0.out hb hok)
  have HK1 := Lib.hid (bel_more HK0.out (Nat.le_refl _) hb)
  clear hok hb HO0 HK0
  simp only [ep8]
  go_wp2_with fail
  ((with_reducible refine (fault8_calls _).mono ?_))
  rintro e w2 ⟨⟨p, f2, c2, g2⟩, rfl, rfl, hok, hb⟩
  have HO2 := Lib.hid (oks_snoc HO1.out hb hok)
  have HK2 := Lib.hid (bel_more HK1.out (Nat.le_refl _) hb)
  clear hok hb HO1 HK1
  simp only [ep8]
  go_wp2_with fail
  ((with_reducible refine (style8_calls _).mono ?_))
  rintro e w3 ⟨⟨p, f3, c3, g3⟩, rfl, rfl, hok, hb⟩
  have HO3 := Lib.hid (oks_snoc HO2.out hb hok)
  have HK3 := Lib.hid (bel_more HK2.out (Nat.le_refl _) hb)
  clear hok hb HO2 HK2
  simp only [ep8]
  go_wp2_with fail
  ((with_reducible refine (lsp8_calls 10 _).mono ?_))
  rintro e w4 ⟨⟨p, f4, c4, g4⟩, rfl, rfl, hok, hb⟩
  have HO4 := Lib.hid (oks_snoc HO3.out hb hok)
  have HK4 := Lib.hid (bel_more HK3.out (Nat.le_refl _) hb)
  clear hok hb HO3 HK3
  simp only [ep8]
  have HB := Lib.hid (bel_new (Below.refl _ w4) (.cells (([⟨.hop, f1, c1, g1⟩, ⟨.fau, f2, c2, g2⟩, ⟨.alw 8 0, f3, c3, g3⟩, ⟨.lsp 10, f4, c4, g4⟩] : List PtV).flatMap ep8).toArray 63))
  have HR := Lib.hid (blk_row (B := w4.heap.size + 1) (Blk.new w4 63 (([⟨.hop, f1, c1, g1⟩, ⟨.fau, f2, c2, g2⟩, ⟨.alw 8 0, f3, c3, g3⟩, ⟨.lsp 10, f4, c4, g4⟩] : List PtV).flatMap ep8)) (Nat.lt_succ_self _))
  go_wp2_with fail
  refine (session8_calls [⟨.hop, f1, c1, g1⟩, ⟨.fau, f2, c2, g2⟩, ⟨.alw 8 0, f3, c3, g3⟩, ⟨.lsp 10, f4, c4, g4⟩] (some ⟨w4.heap.size, 0, none⟩) 4 4 _ ?_ ?_ (by omega)).mono ?_
  · exact (by rw [World.size_alloc]; exact HR.out)
  · exact fun q hq => (HO4.out q hq).bel HB.out
  rintro e w' ⟨A, c, qs, rfl, hm, ha, hok, hb⟩
  have HF := Lib.hid (show PartsPost w (prts 4) (.returned (.slice A qs.length c)) w' from ⟨A, c, qs, rfl, hm, ha.lower (Nat.le_trans HK4.out.size HB.out.size), hok, bel_more (bel_more HK4.out (Nat.le_refl _) HB.out) (Nat.le_refl _) hb⟩)
  clear hm ha hok hb HO4 HK4 HB HR
  go_wp2
  go_ret
  exact HF.out

set_option maxRecDepth 100000 in
set_option maxHeartbeats 800000 in
theorem contents5_calls (w : World) : Calls Try.prog 24 #[.int .i64 5] w (PartsPost w (prts 5)) := by
  have HK0 := Lib.hid (Below.refl w.heap.size w)
  have HO0 := Lib.hid (show ∀ q ∈ ([] : List PtV), PtOk w q by simp)
  go_enter Try.func24, Try.ntmps24
  go_wp2_with fail
  ((with_reducible refine (hop8_calls _).mono ?_))
  rintro e w1 ⟨⟨p, f1, c1, g1⟩, rfl, rfl, hok, hb⟩
  have HO1 := Lib.hid (oks_snoc HO0.out hb hok)
  have HK1 := Lib.hid (bel_more HK0.out (Nat.le_refl _) hb)
  clear hok hb HO0 HK0
  simp only [ep8]
  go_wp2_with fail
  ((with_reducible refine (lsp8_calls 11 _).mono ?_))
  rintro e w2 ⟨⟨p, f2, c2, g2⟩, rfl, rfl, hok, hb⟩
  have HO2 := Lib.hid (oks_snoc HO1.out hb hok)
  have HK2 := Lib.hid (bel_more HK1.out (Nat.le_refl _) hb)
  clear hok hb HO1 HK1
  simp only [ep8]
  have HB := Lib.hid (bel_new (Below.refl _ w2) (.cells (([⟨.hop, f1, c1, g1⟩, ⟨.lsp 11, f2, c2, g2⟩] : List PtV).flatMap ep8).toArray 63))
  have HR := Lib.hid (blk_row (B := w2.heap.size + 1) (Blk.new w2 63 (([⟨.hop, f1, c1, g1⟩, ⟨.lsp 11, f2, c2, g2⟩] : List PtV).flatMap ep8)) (Nat.lt_succ_self _))
  go_wp2_with fail
  refine (session8_calls [⟨.hop, f1, c1, g1⟩, ⟨.lsp 11, f2, c2, g2⟩] (some ⟨w2.heap.size, 0, none⟩) 2 2 _ ?_ ?_ (by omega)).mono ?_
  · exact (by rw [World.size_alloc]; exact HR.out)
  · exact fun q hq => (HO2.out q hq).bel HB.out
  rintro e w' ⟨A, c, qs, rfl, hm, ha, hok, hb⟩
  have HF := Lib.hid (show PartsPost w (prts 5) (.returned (.slice A qs.length c)) w' from ⟨A, c, qs, rfl, hm, ha.lower (Nat.le_trans HK2.out.size HB.out.size), hok, bel_more (bel_more HK2.out (Nat.le_refl _) HB.out) (Nat.le_refl _) hb⟩)
  clear hm ha hok hb HO2 HK2 HB HR
  go_wp2
  go_ret
  exact HF.out

set_option maxRecDepth 100000 in
set_option maxHeartbeats 800000 in
theorem contents6_calls (w : World) : Calls Try.prog 24 #[.int .i64 6] w (PartsPost w (prts 6)) := by
  have HK0 := Lib.hid (Below.refl w.heap.size w)
  have HO0 := Lib.hid (show ∀ q ∈ ([] : List PtV), PtOk w q by simp)
  go_enter Try.func24, Try.ntmps24
  go_wp2_with fail
  ((with_reducible refine (hop8_calls _).mono ?_))
  rintro e w1 ⟨⟨p, f1, c1, g1⟩, rfl, rfl, hok, hb⟩
  have HO1 := Lib.hid (oks_snoc HO0.out hb hok)
  have HK1 := Lib.hid (bel_more HK0.out (Nat.le_refl _) hb)
  clear hok hb HO0 HK0
  simp only [ep8]
  go_wp2_with fail
  ((with_reducible refine (style8_calls _).mono ?_))
  rintro e w2 ⟨⟨p, f2, c2, g2⟩, rfl, rfl, hok, hb⟩
  have HO2 := Lib.hid (oks_snoc HO1.out hb hok)
  have HK2 := Lib.hid (bel_more HK1.out (Nat.le_refl _) hb)
  clear hok hb HO1 HK1
  simp only [ep8]
  go_wp2_with fail
  ((with_reducible refine (lsp8_calls 10 _).mono ?_))
  rintro e w3 ⟨⟨p, f3, c3, g3⟩, rfl, rfl, hok, hb⟩
  have HO3 := Lib.hid (oks_snoc HO2.out hb hok)
  have HK3 := Lib.hid (bel_more HK2.out (Nat.le_refl _) hb)
  clear hok hb HO2 HK2
  simp only [ep8]
  have HB := Lib.hid (bel_new (Below.refl _ w3) (.cells (([⟨.hop, f1, c1, g1⟩, ⟨.alw 8 0, f2, c2, g2⟩, ⟨.lsp 10, f3, c3, g3⟩] : List PtV).flatMap ep8).toArray 63))
  have HR := Lib.hid (blk_row (B := w3.heap.size + 1) (Blk.new w3 63 (([⟨.hop, f1, c1, g1⟩, ⟨.alw 8 0, f2, c2, g2⟩, ⟨.lsp 10, f3, c3, g3⟩] : List PtV).flatMap ep8)) (Nat.lt_succ_self _))
  go_wp2_with fail
  refine (session8_calls [⟨.hop, f1, c1, g1⟩, ⟨.alw 8 0, f2, c2, g2⟩, ⟨.lsp 10, f3, c3, g3⟩] (some ⟨w3.heap.size, 0, none⟩) 3 3 _ ?_ ?_ (by omega)).mono ?_
  · exact (by rw [World.size_alloc]; exact HR.out)
  · exact fun q hq => (HO3.out q hq).bel HB.out
  rintro e w' ⟨A, c, qs, rfl, hm, ha, hok, hb⟩
  have HF := Lib.hid (show PartsPost w (prts 6) (.returned (.slice A qs.length c)) w' from ⟨A, c, qs, rfl, hm, ha.lower (Nat.le_trans HK3.out.size HB.out.size), hok, bel_more (bel_more HK3.out (Nat.le_refl _) HB.out) (Nat.le_refl _) hb⟩)
  clear hm ha hok hb HO3 HK3 HB HR
  go_wp2
  go_ret
  exact HF.out

set_option maxRecDepth 100000 in
set_option maxHeartbeats 800000 in
theorem contents7_calls (w : World) : Calls Try.prog 24 #[.int .i64 7] w (PartsPost w (prts 7)) := by
  have HK0 := Lib.hid (Below.refl w.heap.size w)
  have HO0 := Lib.hid (show ∀ q ∈ ([] : List PtV), PtOk w q by simp)
  go_enter Try.func24, Try.ntmps24
  go_wp2_with fail
  ((with_reducible refine (fault8_calls _).mono ?_))
  rintro e w1 ⟨⟨p, f1, c1, g1⟩, rfl, rfl, hok, hb⟩
  have HO1 := Lib.hid (oks_snoc HO0.out hb hok)
  have HK1 := Lib.hid (bel_more HK0.out (Nat.le_refl _) hb)
  clear hok hb HO0 HK0
  simp only [ep8]
  go_wp2_with fail
  ((with_reducible refine (style8_calls _).mono ?_))
  rintro e w2 ⟨⟨p, f2, c2, g2⟩, rfl, rfl, hok, hb⟩
  have HO2 := Lib.hid (oks_snoc HO1.out hb hok)
  have HK2 := Lib.hid (bel_more HK1.out (Nat.le_refl _) hb)
  clear hok hb HO1 HK1
  simp only [ep8]
  go_wp2_with fail
  ((with_reducible refine (lsp8_calls 10 _).mono ?_))
  rintro e w3 ⟨⟨p, f3, c3, g3⟩, rfl, rfl, hok, hb⟩
  have HO3 := Lib.hid (oks_snoc HO2.out hb hok)
  have HK3 := Lib.hid (bel_more HK2.out (Nat.le_refl _) hb)
  clear hok hb HO2 HK2
  simp only [ep8]
  have HB := Lib.hid (bel_new (Below.refl _ w3) (.cells (([⟨.fau, f1, c1, g1⟩, ⟨.alw 8 0, f2, c2, g2⟩, ⟨.lsp 10, f3, c3, g3⟩] : List PtV).flatMap ep8).toArray 63))
  have HR := Lib.hid (blk_row (B := w3.heap.size + 1) (Blk.new w3 63 (([⟨.fau, f1, c1, g1⟩, ⟨.alw 8 0, f2, c2, g2⟩, ⟨.lsp 10, f3, c3, g3⟩] : List PtV).flatMap ep8)) (Nat.lt_succ_self _))
  go_wp2_with fail
  refine (session8_calls [⟨.fau, f1, c1, g1⟩, ⟨.alw 8 0, f2, c2, g2⟩, ⟨.lsp 10, f3, c3, g3⟩] (some ⟨w3.heap.size, 0, none⟩) 3 3 _ ?_ ?_ (by omega)).mono ?_
  · exact (by rw [World.size_alloc]; exact HR.out)
  · exact fun q hq => (HO3.out q hq).bel HB.out
  rintro e w' ⟨A, c, qs, rfl, hm, ha, hok, hb⟩
  have HF := Lib.hid (show PartsPost w (prts 7) (.returned (.slice A qs.length c)) w' from ⟨A, c, qs, rfl, hm, ha.lower (Nat.le_trans HK3.out.size HB.out.size), hok, bel_more (bel_more HK3.out (Nat.le_refl _) HB.out) (Nat.le_refl _) hb⟩)
  clear hm ha hok hb HO3 HK3 HB HR
  go_wp2
  go_ret
  exact HF.out

theorem contents_calls (ty : Int) (w : World) : Calls Try.prog 24 #[.int .i64 ty] w (PartsPost w (prts ty)) := by
  by_cases h1 : ty = 1
  · subst h1; exact contents1_calls w
  by_cases h2 : ty = 2
  · subst h2; exact contents2_calls w
  by_cases h3 : ty = 3
  · subst h3; exact contents3_calls w
  by_cases h4 : ty = 4
  · subst h4; exact contents4_calls w
  by_cases h5 : ty = 5
  · subst h5; exact contents5_calls w
  by_cases h6 : ty = 6
  · subst h6; exact contents6_calls w
  by_cases h7 : ty = 7
  · subst h7; exact contents7_calls w
  have hp : prts ty = [] := by simp [prts, h1, h2, h3, h4, h5, h6, h7]
  have HP := Lib.hid hp
  clear hp
  go_enter Try.func24, Try.ntmps24
  go_wp2
  go_ret
  exact ⟨none, 0, [], rfl, HP.out.symm, AccR.nil _ _ _, by simp, Below.refl _ _⟩
end Go.Proofs.Ythmgpffpiggomaa
