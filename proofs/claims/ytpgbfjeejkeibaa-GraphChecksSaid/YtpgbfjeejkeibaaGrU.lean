/-
  The library's stable sort of whole numbers by a function, its parts: a block is sorted by putting one in after the other. Condition: at most 2^40 numbers, in memory that the call itself made; a comparison that only reads, of numbers that it may be asked for.
-/
import Derived.Test.YtpgbfjeejkeibaaGrT
namespace Go.Proofs.Ytpgbfjeejkeibaa
open Go.RowKit

theorem swp_comm (f : Nat → Int) (p q : Nat) : swp f p q = swp f q p := by
  funext k
  rw [swp_at, swp_at]
  by_cases h1 : k = q
  · subst h1
    by_cases h2 : k = p
    · subst h2; rfl
    · rw [if_pos rfl, if_neg h2, if_pos rfl]
  · rw [if_neg h1, if_neg h1]
/-- What a comparison answers. -/
def cmpI (x y : Int) : Int := if x < y then -1 else if y < x then 1 else 0
/-- A function value that compares numbers by a key, while memory is such. -/
structure Cmp (P : Program) (S : World → Prop) (D : Int → Prop) (key : Int → Int) (F : FuncId) (held : Array Value) : Prop where
  enter : ∀ (args : Array Value) (w : World), (callFunc F args).run P w = .ok (.enter F args) w
  gives : ∀ (W : World) (x y : Int), S W → D x → D y → Calls P F (#[.int .i64 x, .int .i64 y] ++ held) W (fun e w' => e = .returned (.int .i64 (cmpI (key x) (key y))) ∧ ∃ m, w' = W.drewN m)
theorem cmpI_lt (x y : Int) : decide (cmpI x y < 0) = decide (x < y) := by
  unfold cmpI
  split
  · simp [*]
  · split <;> simp [*] <;> omega
/-- All that lie in the row may be asked for. -/
def Dom (D : Int → Prop) (n : Nat) (f : Nat → Int) : Prop := ∀ i, i < n → D (f i)
theorem Dom.loc {D : Int → Prop} {n a b : Nat} {key : Int → Int} {f f' : Nat → Int} (h : Dom D n f) (hl : Loc key n a b f f') (hb : b ≤ n) : Dom D n f' := by
  intro i hi
  by_cases h1 : a ≤ i ∧ i < b
  · obtain ⟨m, _, h3, e⟩ := hl.2.1 i h1.1 h1.2
    rw [e]; exact h m (by omega)
  · rw [hl.1 i (by omega)]; exact h i hi

/-- An operation behind a guard that does not hold is not carried out. -/
theorem seq_unmake {P : Program} {ops : Array Oper} {Q : Exit → Act → World → Prop} {S : World → Prop} {i : Nat} {r : List (Nat × Bool)} {a : Act} {w : World} {o : Oper} (ho : ops.toList[i]? = some o) (hw : Region.wanted o (yielded ops a.tmps) = false) (hS : S w)
    (h : wpSeq P ops Q S r (a.put o.dst undef) w) : wpSeq P ops Q S ((i, false) :: r) a w := by
  refine wpOp_step (o := o) (by rw [← Array.getElem?_toList]; exact ho) (fun K hK => ?_)
  rw [if_neg (by rw [hw]; exact Bool.false_ne_true)]
  exact hK _ _ ⟨S, fun _ h => h, hS, h⟩

/-- What a part of the sort leaves: only places from a to b have turned, and they are in order. -/
def SrtPost (key : Int → Int) (w : World) (base g c n a b : Nat) (f : Nat → Int) (e : Ending) (w' : World) : Prop :=
  e = .returned (.tuple #[]) ∧ ∃ f', Arr w' base g c n f' ∧ Loc key n a b f f' ∧ Srt key a b f' ∧ w.grownBy w' (some g)

section
variable {S : World → Prop} {D : Int → Prop} {key : Int → Int} {F : FuncId} {held : Array Value}
theorem gb_drewN {w w' : World} {r : Option Nat} (h : w.grownBy w' r) (m : Nat) : w.grownBy (w'.drewN m) r := ⟨h.os, h.tape, h.output, h.size, h.block⟩

set_option maxHeartbeats 3200000 in
theorem ins_calls (hC : Cmp Try.prog S D key F held) (base g c n a b : Nat) (hS : ∀ W W', S W → W.grownBy W' (some g) → S W') (f : Nat → Int) (w : World) (h : Arr w base g c n f) (hw : S w) (hD : Dom D n f) (hab : a ≤ b) (hb : b ≤ n) (hn : n ≤ 1099511627776) :
    Calls Try.prog 45 #[.slice (some ⟨g, 0, none⟩) n c, .int .i64 (a : Int), .int .i64 (b : Int), .func (.func F) #[] held] w (SrtPost key w base g c n a b f) := by
  have H := Lib.hid h
  have HW := Lib.hid hw
  have HD := Lib.hid hD
  have HB := Lib.hid hb
  have HN := Lib.hid hn
  have he := hC.enter
  have y1 : a ≤ 1099511627776 := by omega
  have y2 : b ≤ 1099511627776 := by omega
  clear h hw hD hb hn
  go_enter Try.func45, Try.ntmps45
  go_wp2_with fail
  go_loopw [8] (fun t wo => ∃ (i : Nat) (f1 : Nat → Int), a < i ∧ (i ≤ b ∨ i = a + 1) ∧ t = .int .i64 (i : Int) ∧ Arr wo base g c n f1 ∧ Loc key n a b f f1 ∧ Srt key a i f1 ∧ w.grownBy wo (some g)) (fun t wo => b - (intOf t).toNat)
  case atStart => exact ⟨a + 1, f, by omega, .inr rfl, rfl, H.out, Loc.refl _ _ _, fun i j h1 h2 h3 => by omega, World.grownBy.refl _ _⟩
  case round =>
    obtain ⟨i, f1, hai, hib, rfl, hA, hL, hT, hG⟩ := hrel
    have HA1 := Lib.hid hA
    have HL := Lib.hid hL
    have HT := Lib.hid hT
    have HG := Lib.hid hG
    clear hA hL hT hG
    by_cases hlt : i < b
    · go_wp2_with fail
      go_loopw [9] (fun t wr => ∃ (j : Nat) (f2 : Nat → Int), a ≤ j ∧ j ≤ i ∧ t = .int .i64 (j : Int) ∧ Arr wr base g c n f2 ∧ Loc key n a b f f2 ∧ Ins key a i j f2 ∧ w.grownBy wr (some g)) (fun t wr => (intOf t).toNat)
      case atStart => exact ⟨i, f1, by omega, Nat.le_refl _, rfl, HA1.out, HL.out, Ins.start HT.out, HG.out⟩
      case round =>
        obtain ⟨p, f', haj, hji, rfl, hA, hL, hI, hG⟩ := hrel
        have HA := Lib.hid hA
        have HL2 := Lib.hid hL
        have HI2 := Lib.hid hI
        have HG2 := Lib.hid hG
        have hib2 : i < 1099511627776 := by omega
        clear hA hL hI hG
        by_cases hja : a < p
        · obtain ⟨q, hq⟩ : ∃ q, p = q + 1 := ⟨p - 1, by omega⟩
          have HPQ := Lib.hid hq
          have haq : a ≤ q := by omega
          have hpn : p < n := by have := HB.out; omega
          have hqn : q < n := by omega
          have wq : IntKind.i64.wrap ((p : Int) - 1) = (q : Int) := by rw [IntWalk.i64_in _ (by omega)]; omega
          have i1 : (p : Int) < (n : Int) := by omega
          have i2 : (q : Int) < (n : Int) := by omega
          have hpb : p ≤ 1099511627776 := by omega
          have g1 : decide ((a : Int) < (p : Int)) = true := by simp; omega
          have g2 : decide (a < p) = true := by simp; omega
          have hcell : wr.cell? ⟨g, p, none⟩ = some (.int .i64 (f' p)) ∧ wr.cell? ⟨g, q, none⟩ = some (.int .i64 (f' q)) := ⟨HA.out.cell p hpn, HA.out.cell q hqn⟩
          have HC := Lib.hid hcell
          clear hcell hq
          go_wp2_with fail
          refine region_seq (fun W => W.cell? ⟨g, p, none⟩ = some (.int .i64 (f' p)) ∧ W.cell? ⟨g, q, none⟩ = some (.int .i64 (f' q))) [(0, true), (1, true), (2, true), (3, true), (4, true), (5, true), (6, true), (7, true), (8, true), (9, true), (10, true), (11, true), (12, true), (13, true), (14, false), (15, true), (16, true)]
            (by kernel_rfl) (by kernel_rfl) (by kernel_rfl) (by kernel_rfl) (fun _ _ _ _ _ h => h) HC.out ?_
          repeat
            refine seq_pure (v := ?_) rfl (by rfl) (fun W hW => ?_) ?_
            rotate_left
            · have t1 := hW.1
              have t2 := hW.2
              clear hW
              go_simp
              try with_reducible rfl
            simp only [Act.put, List.setIfInBounds_toArray, List.set_cons_zero, List.set_cons_succ]
          refine seq_make rfl (by rfl) (fun K hK => ?_)
          go_simp
          have hDp : D (f' p) := (HD.out.loc HL2.out HB.out) p hpn
          have hDq : D (f' q) := (HD.out.loc HL2.out HB.out) q hqn
          refine (hC.gives wr.drew _ _ (hS _ _ HW.out (gb_drew HG2.out)) hDp hDq).mono ?_
          rintro e w1 ⟨rfl, md, rfl⟩
          go_simp
          refine hK _ _ (fun W => W.cell? ⟨g, p, none⟩ = some (.int .i64 (f' p)) ∧ W.cell? ⟨g, q, none⟩ = some (.int .i64 (f' q))) (fun W h => h) HC.out ?_
          clear hK K
          repeat
            refine seq_pure (v := ?_) rfl (by rfl) (fun W hW => ?_) ?_
            rotate_left
            · clear hW
              go_simp
              try with_reducible rfl
            simp only [Act.put, List.setIfInBounds_toArray, List.set_cons_zero, List.set_cons_succ]
          refine seq_done ?_
          have A5 := Lib.hid (show Arr (wr.drewN (1 + md)) base g c n f' from HA.out)
          have G5 := Lib.hid (gb_drewN HG2.out (1 + md))
          clear HC HA HG2 g1 g2
          generalize wr.drewN (1 + md) = w5 at *
          by_cases hkl : key (f' p) < key (f' q)
          · have HLT := Lib.hid hkl
            have hc : cmpI (key (f' p)) (key (f' q)) < 0 := by have := cmpI_lt (key (f' p)) (key (f' q)); simpa [hkl] using this
            have HCC := Lib.hid hc
            clear hkl
            go_wp2_with fail
            refine region_way (fun _ => True) (.step 0 true (.step 1 true (.step 2 true (.step 3 true (.step 4 true (.step 5 true (.step 6 true (.step 7 true (.step 8 true (.step 10 true (.step 11 true (.step 12 true (.both 9 13 (.step 13 false (.step 14 true (.step 15 false (.step 16 true (.step 17 false .done))))) (.step 9 false (.step 14 true (.step 15 false (.step 16 true (.step 17 false .done))))))))))))))))))
              (by kernel_rfl) (by kernel_rfl) (by kernel_rfl) (by kernel_rfl) (fun _ _ _ _ _ h => h) trivial ?_
            repeat
              refine way_pure (v := ?_) rfl (by rfl) (fun W _ => ?_) ?_
              rotate_left
              · go_simp
                try with_reducible rfl
              simp only [Act.put, List.setIfInBounds_toArray, List.set_cons_zero, List.set_cons_succ]
            refine way_both rfl (by rfl) rfl (by rfl) (fun K hK => ?_) (fun K hK => ?_)
            all_goals
              have c1 := A5.out.cell p hpn
              have c2 := A5.out.cell q hqn
              go_simp
              refine hK _ _ (fun _ => True) (fun _ _ => trivial) trivial ?_
              clear hK K
              refine way_make rfl (by rfl) (fun K hK => ?_)
              go_simp
              refine hK _ _ (fun _ => True) (fun _ _ => trivial) trivial ?_
              clear hK K
              refine way_pure (v := ?_) rfl (by rfl) (fun W _ => ?_) ?_
              rotate_left
              · go_simp
                try with_reducible rfl
              simp only [Act.put, List.setIfInBounds_toArray, List.set_cons_zero, List.set_cons_succ]
              refine way_make rfl (by rfl) (fun K hK => ?_)
              have d1 := A5.out.free p
              go_simp
              refine hK _ _ (fun _ => True) (fun _ _ => trivial) trivial ?_
              clear hK K c1 c2 d1
              refine way_pure (v := ?_) rfl (by rfl) (fun W _ => ?_) ?_
              rotate_left
              · go_simp
                try with_reducible rfl
              simp only [Act.put, List.setIfInBounds_toArray, List.set_cons_zero, List.set_cons_succ]
              refine way_make rfl (by rfl) (fun K hK => ?_)
              have A1 := Lib.hid (A5.out.set p (f' q))
              have e1 : (w5.setCell ⟨g, p, none⟩ (.int .i64 (f' q))).cell? ⟨g, q, none⟩ = some (.int .i64 (upd f' p (f' q) q)) := A1.out.1.cell q hqn
              have d2 := A1.out.1.free q
              generalize hw1 : w5.setCell ⟨g, p, none⟩ (.int .i64 (f' q)) = w1 at *
              go_simp
              have A2 := Lib.hid (A1.out.1.set q (f' p))
              refine hK _ _ (fun _ => True) (fun _ _ => trivial) trivial ?_
              clear hK K e1 d2 hw1
              generalize w1.setCell ⟨g, q, none⟩ (.int .i64 (f' p)) = w2 at *
              refine way_done ?_
              have G2 := Lib.hid ((G5.out.trans A1.out.2).trans A2.out.2)
              have A3 := Lib.hid (show Arr w2 base g c n (swp f' p q) from A2.out.1)
              have e5 : swp f' p q = swp f' q p := swp_comm _ _ _
              rw [e5, HPQ.out] at A3
              clear e5
              have L3 := Lib.hid ((rot_swp (f := f') q).loc (key := key) (n := n) (by omega) (by omega) (by have := HPQ.out; omega) (fun x y h1 h2 h3 h4 => by
                have := HPQ.out
                obtain rfl : x = q := by omega
                obtain rfl : y = x + 1 := by omega
                rw [← this]; exact HLT.out))
              have I3 := Lib.hid (Ins.step (key := key) (a := a) (i := i) (j := q) (f := f') (by have := HI2.out; rw [HPQ.out] at this; exact this) haq (by have := HLT.out; rw [HPQ.out] at this; exact this))
              have L4 := Lib.hid (HL2.out.trans (L3.out.mono (c := a) (d := b) haq (by have := HPQ.out; omega)))
              have wq2 : (p : Int) - 1 = (q : Int) := by have := HPQ.out; omega
              go_wp2_with fail
              go_roundw
              case rel => exact ⟨q, swp f' q (q + 1), haq, by have := HPQ.out; omega, rfl, A3.out, L4.out, I3.out, gb_drew G2.out⟩
              case measure => have := HPQ.out; simp [intOf]; omega
          · have HLT := Lib.hid hkl
            have hc : ¬ cmpI (key (f' p)) (key (f' q)) < 0 := by have := cmpI_lt (key (f' p)) (key (f' q)); simpa [hkl] using this
            clear hkl
            have T5 := Lib.hid (HI2.out.done (by have := HPQ.out; exact .inr ⟨hja, by have := HLT.out; rw [show p - 1 = q by omega]; omega⟩))
            go_wp2_with fail
            go_roundw
            case rel => exact ⟨i + 1, f', by omega, by omega, rfl, A5.out, HL2.out, T5.out, G5.out⟩
            case measure => simp [intOf]; omega
        · have g1 : decide ((a : Int) < (p : Int)) = false := by simp; omega
          have g2 : decide (a < p) = false := by simp; omega
          have T5 := Lib.hid (HI2.out.done (.inl (by omega)))
          go_wp2_with fail
          refine region_seq (fun _ => True) [(0, true), (1, true), (2, true), (3, true), (4, true), (5, true), (6, true), (7, true), (8, true), (9, true), (10, true), (11, true), (12, true), (13, true), (14, false), (15, true), (16, true)]
            (by kernel_rfl) (by kernel_rfl) (by kernel_rfl) (by kernel_rfl) (fun _ _ _ _ _ h => h) trivial ?_
          repeat
            first
            | (refine seq_skip rfl (by rfl) ?_)
            | (refine seq_unmake rfl (by rfl) trivial ?_)
            | (refine seq_pure (v := ?_) rfl (by rfl) (fun W _ => ?_) ?_
               rotate_left
               · go_simp
                 try with_reducible rfl)
            simp only [Act.put, List.setIfInBounds_toArray, List.set_cons_zero, List.set_cons_succ]
          refine seq_done ?_
          go_wp2_with fail
          go_roundw
          case rel => exact ⟨i + 1, f', by omega, by omega, rfl, HA.out, HL2.out, T5.out, gb_drew HG2.out⟩
          case measure => simp [intOf]; omega
    · go_wp2_with fail
      go_end0
      refine ⟨rfl, f1, HA1.out, HL.out, ?_, HG.out⟩
      intro x y h1 h2 h3
      rcases hib with hib | hib
      · exact HT.out x y h1 h2 (by omega)
      · exact HT.out x y h1 h2 (by omega)
end
end Go.Proofs.Ytpgbfjeejkeibaa
