/-
  The walk of the statement PoolActs: for any bounds and any calls it answers true, and nothing that was there has turned. No condition.
-/
import Derived.Test.YtclhpmmdcapboaaPoolT
namespace Go.Proofs.Ytclhpmmdcapboaa
open Go.RowKit
set_option linter.unusedVariables false

/-- The slice lies in a block behind 'M'. -/
def Loc (M : Nat) (A : Option Addr) : Prop := ∀ b o, A = some ⟨b, o, none⟩ → M < b
theorem Loc.far {M B : Nat} {a a' : Option Addr} (h : Loc M a) (hf : Far B a a') (hB : M < B) : Loc M a' := by
  rcases hf with rfl | hf
  · exact h
  · exact fun b o e => by have := hf b o e; omega

/-- The program's pool and the document's answer for it. -/
def St (w : World) (pb mb M : Nat) (low high : Int) (W : World) : Prop :=
  ∃ (bs : List Bool) (A : Option Addr) (c : Nat) (A2 : Option Addr) (c2 : Nat), Pool W pb mb low (low + bs.length) high (outOf low bs) ∧ Four W M (.int .i64 low) (.int .i64 high) (.slice A bs.length c) (.slice A2 bs.length c2) ∧ Ref W low high bs A A2 ∧ Loc M A ∧ Loc M A2 ∧ Below w.heap.size w W

theorem ref_turn {W W' : World} {pb mb M : Nat} {low high : Int} {bs : List Bool} {A A2 : Option Addr} (h : Ref W low high bs A A2) (h1 : Loc M A) (h2 : Loc M A2) (ht : Turn [pb, mb] W W') (hp : pb < M) (hm : mb < M) : Ref W' low high bs A A2 :=
  h.turn (fun k hk => ⟨fun x e => ht.block k hk (by have := h1 k x e; simp; omega), fun x e => ht.block k hk (by have := h2 k x e; simp; omega)⟩) ht.size

theorem heap_set4 (W : World) (M k : Nat) (hk : k ≠ M) (v0 v1 v2 v3 : Value) : ((((W.setCell ⟨M, 0, none⟩ v0).setCell ⟨M, 1, none⟩ v1).setCell ⟨M, 2, none⟩ v2).setCell ⟨M, 3, none⟩ v3).heap[k]? = W.heap[k]? :=
  (Below.heap_setCell _ _ _ _ hk).trans ((Below.heap_setCell _ _ _ _ hk).trans ((Below.heap_setCell _ _ _ _ hk).trans (Below.heap_setCell _ _ _ _ hk)))

theorem size_set4 (W : World) (M : Nat) (v0 v1 v2 v3 : Value) : ((((W.setCell ⟨M, 0, none⟩ v0).setCell ⟨M, 1, none⟩ v1).setCell ⟨M, 2, none⟩ v2).setCell ⟨M, 3, none⟩ v3).heap.size = W.heap.size := by simp [World.setCell]

theorem st_store {w W : World} {pb mb M : Nat} {low high : Int} {bs : List Bool} {A A2 : Option Addr} {c c2 : Nat} {u0 u1 u2 u3 : Value} (hP : Pool W pb mb low (low + bs.length) high (outOf low bs)) (hF : Four W M u0 u1 u2 u3) (hR : Ref W low high bs A A2) (h1 : Loc M A) (h2 : Loc M A2) (hp : pb < M) (hm : mb < M) (hB : Below w.heap.size w W) (hM : w.heap.size ≤ M) :
    St w pb mb M low high ((((W.setCell ⟨M, 0, none⟩ (.int .i64 low)).setCell ⟨M, 1, none⟩ (.int .i64 high)).setCell ⟨M, 2, none⟩ (.slice A bs.length c)).setCell ⟨M, 3, none⟩ (.slice A2 bs.length c2)) := by
  refine ⟨bs, A, c, A2, c2, hP.same (heap_set4 W M _ (by omega) _ _ _ _) (heap_set4 W M _ (by omega) _ _ _ _), set4 hF _ _ _ _, ?_, h1, h2, ?_⟩
  · exact hR.turn (fun k hk => ⟨fun x e => heap_set4 W M _ (by have := h1 k x e; omega) _ _ _ _, fun x e => heap_set4 W M _ (by have := h2 k x e; omega) _ _ _ _⟩) (by rw [size_set4]; omega)
  · exact (((hB.setCell (p := ⟨M, 0, none⟩) hM _).setCell (p := ⟨M, 1, none⟩) hM _).setCell (p := ⟨M, 2, none⟩) hM _).setCell (p := ⟨M, 3, none⟩) hM _

theorem Ref.drew {w : World} {low high : Int} {bs : List Bool} {A A2 : Option Addr} (h : Ref w low high bs A A2) : Ref w.drew low high bs A A2 := ⟨Row.drew h.1, Row.drew h.2⟩

theorem Ref.other {w5 W' wr : World} {low high : Int} {bs bs5 : List Bool} {A A2 A5 B5 : Option Addr} (h : Ref w5 low high bs5 A5 B5) (h0 : Ref wr low high bs A A2) (hN : bs5.length = bs.length) (f1 : Far (wr.heap.size + 1) A A5) (f2 : Far (wr.heap.size + 1) A2 B5)
    (hh : ∀ k, k ≠ wr.heap.size → W'.heap[k]? = w5.heap[k]?) (hs : w5.heap.size ≤ W'.heap.size) : Ref W' low high bs5 A5 B5 := by
  refine ⟨⟨h.1.1, fun hn => ?_⟩, ⟨h.2.1, fun hn => ?_⟩⟩
  · obtain ⟨b, o, e, hlt, hc⟩ := h.1.2 hn
    have hne : b ≠ wr.heap.size := by
      rcases f1 with rfl | hf
      · obtain ⟨b', o', e', hlt', _⟩ := h0.1.2 (by rw [← hN]; exact hn)
        rw [e] at e'
        injection e' with e'
        injection e' with e1 e2
        omega
      · have := hf b o e; omega
    exact ⟨b, o, e, by omega, fun i hi => (World.cell?_of_block (w := w5) (hh b hne)).trans (hc i hi)⟩
  · obtain ⟨b, o, e, hlt, hc⟩ := h.2.2 hn
    have hne : b ≠ wr.heap.size := by
      rcases f2 with rfl | hf
      · obtain ⟨b', o', e', hlt', _⟩ := h0.2.2 (by rw [← hN]; exact hn)
        rw [e] at e'
        injection e' with e'
        injection e' with e1 e2
        omega
      · have := hf b o e; omega
    exact ⟨b, o, e, by omega, fun i hi => (World.cell?_of_block (w := w5) (hh b hne)).trans (hc i hi)⟩

theorem reftake_c {w : World} {low high : Int} {bs : List Bool} {A A2 : Option Addr} {c c2 : Nat} (h : Ref w low high bs A A2) (hn : bs.length ≤ 1048576) (h1 : 16 ≤ low) (h2 : high ≤ 1048575) (h3 : low ≤ high) :
    Calls Try.prog 14 #[.agg #[.int .i64 low, .int .i64 high, .slice A bs.length c, .slice A2 bs.length c2]] w (RefTakePost w low high bs A A2) := reftake_calls h hn h1 h2 h3
theorem refdrop_c {w : World} {low high : Int} {bs : List Bool} {A A2 : Option Addr} {c c2 : Nat} (h : Ref w low high bs A A2) (hn : bs.length ≤ 1048576) (h1 : 16 ≤ low) (h2 : high ≤ 1048575) (h3 : low ≤ high) (l : Int) :
    Calls Try.prog 11 #[.agg #[.int .i64 low, .int .i64 high, .slice A bs.length c, .slice A2 bs.length c2], .int .i64 l] w (RefDropPost w low high bs A A2 l) := refdrop_calls h hn h1 h2 h3 l
theorem refout_c {w : World} {low high : Int} {bs : List Bool} {A A2 : Option Addr} {c c2 : Nat} (h : Ref w low high bs A A2) (hn : bs.length ≤ 1048576) :
    Calls Try.prog 17 #[.agg #[.int .i64 low, .int .i64 high, .slice A bs.length c, .slice A2 bs.length c2]] w (RefOutPost w (outOf low bs)) := refout_calls h hn
theorem refleft_c {w : World} {low high : Int} {A A2 : Option Addr} {c c2 : Nat} (n : Nat) (hn : n ≤ 1048576) (h1 : 16 ≤ low) (h2 : high ≤ 1048575) (h3 : low ≤ high) :
    Calls Try.prog 19 #[.agg #[.int .i64 low, .int .i64 high, .slice A n c, .slice A2 n c2]] w fun e w' => e = .returned (.int .i64 (high - low + 1 - (n : Int))) ∧ Below w.heap.size w w' := refleft_calls n hn h1 h2 h3

theorem drop_same {low l er er' : Int} {bs bs' : List Bool} {s' : List Int} (h : DropRel (outOf low bs) l er s') (h' : (l ∈ outOf low bs ∧ bs' = drp low l bs ∧ er' = 0) ∨ (l ∉ outOf low bs ∧ bs' = bs ∧ er' = 8)) : er = er' ∧ s' = outOf low bs' := by
  rcases h with ⟨h1, rfl, rfl⟩ | ⟨h1, rfl, rfl⟩ <;> rcases h' with ⟨h2, rfl, rfl⟩ | ⟨h2, rfl, rfl⟩
  · exact ⟨rfl, (outOf_drp _ _ _).symm⟩
  · exact absurd h1 h2
  · exact absurd h2 h1
  · exact ⟨rfl, rfl⟩

theorem take_same {low high l l' er er' next' : Int} {bs bs' : List Bool} {s' : List Int} (h : TakeRel (low + bs.length) high (outOf low bs) l er next' s') (h' : (low + bs.length ≤ high ∧ bs' = bs ++ [true] ∧ l' = low + bs.length ∧ er' = 0) ∨ (high < low + bs.length ∧ bs' = bs ∧ l' = 0 ∧ er' = 7)) : l = l' ∧ er = er' ∧ next' = low + bs'.length ∧ s' = outOf low bs' := by
  rcases h with ⟨h1, rfl, rfl, rfl, rfl⟩ | ⟨h1, rfl, rfl, rfl, rfl⟩ <;> rcases h' with ⟨h2, rfl, rfl, rfl⟩ | ⟨h2, rfl, rfl, rfl⟩
  · exact ⟨rfl, rfl, by simp; omega, by rw [outOf_snoc]; simp⟩
  · omega
  · omega
  · exact ⟨rfl, rfl, rfl, rfl⟩

theorem acts_no (low high : Int) (a : Option Addr) (n c : Nat) (w : World) (hr : rightB low high = false) :
    Calls Try.prog 3 #[.int .i64 low, .int .i64 high, .slice a n c] w fun e w' => e = .returned (.bool true) ∧ Below w.heap.size w w' := by
  have hn : ¬ (16 ≤ low ∧ high ≤ 1048575 ∧ low ≤ high) := by simpa [rightB] using hr
  go_enter Try.func3, Try.ntmps3
  go_wp2_with fail
  ((with_reducible refine (alive_calls _).mono ?_))
  rintro e w1 ⟨rfl, b1⟩
  have B1 := Lib.hid b1
  clear b1
  go_wp2_with fail
  ((with_reducible refine (new_no low high _ hn).mono ?_))
  rintro e w2 ⟨rfl, rfl⟩
  go_wp2_with fail
  ((with_reducible refine (right_calls low high _).mono ?_))
  rintro e w2 ⟨rfl, rfl⟩
  rw [hr]
  go_wp2
  go_loopw [9] (fun t W => t = .int .i64 0 ∧ Below w.heap.size w W) (fun _ _ => 0)
  case atStart => exact ⟨rfl, bel_new B1.out _⟩
  case round =>
    obtain ⟨rfl, hB⟩ := hrel
    go_wp2
    go_ret
    exact ⟨rfl, hB⟩

set_option maxHeartbeats 6400000 in
set_option maxRecDepth 100000 in
theorem acts_yes (low high : Int) (a : Option Addr) (n c : Nat) (es : List (Bool × Bool × Int)) (w : World) (h : Acts w w.heap.size a n es) (hm : n ≤ maxLen) (h1 : 16 ≤ low) (h2 : high ≤ 1048575) (h3 : low ≤ high) :
    Calls Try.prog 3 #[.int .i64 low, .int .i64 high, .slice a n c] w fun e w' => e = .returned (.bool true) ∧ Below w.heap.size w w' := by
  unfold maxLen at hm
  have HA := Lib.hid h
  have hrt : rightB low high = true := by unfold rightB; simp; omega
  clear h
  go_enter Try.func3, Try.ntmps3
  go_wp2_with fail
  ((with_reducible refine (alive_calls _).mono ?_))
  rintro e w1 ⟨rfl, b1⟩
  have B1 := Lib.hid b1
  clear b1
  go_wp2_with fail
  ((with_reducible refine (new_yes low high _ h1 h2 h3).mono ?_))
  rintro e w2 ⟨pb, mb, rfl, hP, hpb, hmb, b2⟩
  have hS : ∀ k ∈ [pb, mb], w.heap.size ≤ k := by have := B1.out.size; simp; omega
  have HS := Lib.hid hS
  have B2 := Lib.hid (bel_more B1.out (Nat.le_refl _) b2)
  have hlt := hP.lt
  have HP := Lib.hid hP
  clear hP b2 hS
  go_wp2_with fail
  ((with_reducible refine (right_calls low high _).mono ?_))
  rintro e w3 ⟨rfl, rfl⟩
  rw [hrt]
  clear hrt
  have hpM : pb < w3.heap.size := hlt.1
  have hmM : mb < w3.heap.size := hlt.2
  have hwM : w.heap.size ≤ w3.heap.size := B2.out.size
  have bA := bel_new (Below.refl w3.heap.size w3) (.cells #[.int .i64 low, .int .i64 high, .slice none 0 0, .slice none 0 0] 30)
  have ST0 := Lib.hid (show St w pb mb w3.heap.size low high (w3.alloc (.cells #[.int .i64 low, .int .i64 high, .slice none 0 0, .slice none 0 0] 30)) from
    ⟨[], none, 0, none, 0, by have := HP.out.below bA; simpa [outOf] using this, Four.new w3 _ _ _ _, ⟨Row.nil, Row.nil⟩, fun b o e => (by cases e), fun b o e => (by cases e), bel_more B2.out (Nat.le_refl _) bA⟩)
  clear bA hlt
  go_wp2
  generalize hMM : w3.heap.size = M at *
  generalize (w3.alloc (.cells #[.int .i64 low, .int .i64 high, .slice none 0 0, .slice none 0 0] 30)) = wS at *
  clear hMM
  go_loopw [9] (fun t W => ∃ i : Nat, i ≤ 100 ∧ t = .int .i64 (i : Int) ∧ St w pb mb M low high W) (fun t _ => 100 - (intOf t).toNat)
  case atStart => exact ⟨0, by omega, rfl, ST0.out⟩
  case round =>
    obtain ⟨i, hi, rfl, bs, A, c1, A2, c2, hP, hF, hR, hL1, hL2, hB⟩ := hrel
    have hq := hP.2.2.1
    have hbl : bs.length ≤ 1048576 := by omega
    have HP2 := Lib.hid hP
    have HF := Lib.hid hF
    have HR := Lib.hid hR
    have HL1' := Lib.hid hL1
    have HL2' := Lib.hid hL2
    have HB := Lib.hid hB
    have hMlt := hF.lt
    have HA2 := Lib.hid (HA.out.below hB)
    clear hP hF hR hL1 hL2 hB
    by_cases hlt : i < n ∧ i < 100
    · obtain ⟨hin, hi1⟩ := hlt
      obtain ⟨b, o, kb, fk, l, rfl, d0, d1, d2, hw, _⟩ := HA2.out.at hin
      have hbw : b < w.heap.size := by
        obtain ⟨b', o', e', hb', _⟩ := HA.out.1.2 (by omega)
        injection e' with e'
        injection e' with e1 e2
        omega
      go_upto_if 50 with fail
      go_cut [10] from 32 to 107 (fun u W => u = .bool true ∧ St w pb mb M low high W)
      case first =>
        cases kb
        · go_wp2_with fail
          ((with_reducible refine (take_calls HP2.out).mono ?_))
          rintro e w4 ⟨l4, er, nx, s4, rfl, hP4, hr, ht⟩
          have hM4 := HF.out.same (ht.block M hMlt (by simp; omega))
          have hR4 := ref_turn HR.out HL1'.out HL2'.out ht hpM hmM
          have HB4 := Lib.hid (Turn.bel HB.out (Nat.le_refl _) ht HS.out)
          have HM4 := Lib.hid hM4
          have HR4 := Lib.hid hR4
          have HP4 := Lib.hid hP4
          have HT := Lib.hid hr
          obtain ⟨t0, t1, t2, t3⟩ := hM4.cells
          clear hM4 hR4 hP4 hr ht d0 d1 d2
          go_wp2_with fail
          ((with_reducible refine (reftake_c HR4.out hbl h1 h2 h3).mono ?_))
          rintro e w5 ⟨bs5, l5, er5, A5, c5, B5, d5, rfl, hR5, b5, f1, f2, hr5⟩
          obtain ⟨rfl, rfl, hnx, hs4⟩ := take_same HT.out hr5
          simp only [rv]
          have hM4lt := HM4.out.lt
          have b6 : Below w4.heap.size w4 (w5.alloc (.cells #[.int .i64 low, .int .i64 high, .slice A5 bs5.length c5, .slice B5 bs5.length d5] 30)) := bel_new b5 _
          have hP6 := HP4.out.below b6
          rw [hnx, hs4] at hP6
          have HP6 := Lib.hid hP6
          have HM6 := Lib.hid (HM4.out.same (b6.block M hM4lt))
          have HQ6 := Lib.hid (Four.new w5 (.int .i64 low) (.int .i64 high) (.slice A5 bs5.length c5) (.slice B5 bs5.length d5))
          have HRf6 := Lib.hid (hR5.below (bel_new (Below.refl w5.heap.size w5) (.cells #[.int .i64 low, .int .i64 high, .slice A5 bs5.length c5, .slice B5 bs5.length d5] 30)))
          have HL1 := Lib.hid (HL1'.out.far f1 hM4lt)
          have HL2 := Lib.hid (HL2'.out.far f2 hM4lt)
          have HB6 := Lib.hid (bel_more HB4.out (Nat.le_refl _) b6)
          clear hR5 b5 f1 f2 hr5 hnx hs4 b6 hP6 HP4 HM4 HR4 HB4 t0 t1 t2 t3 HT
          go_upto_region 18 with fail
          generalize (w5.alloc (.cells #[.int .i64 low, .int .i64 high, .slice A5 bs5.length c5, .slice B5 bs5.length d5] 30)) = w6 at *
          obtain ⟨t0, t1, t2, t3⟩ := HQ6.out.cells
          obtain ⟨s0, s1, s2, s3⟩ := HM6.out.cells
          have z0 := HM6.out.free 0
          have z1 := HM6.out.free 1
          have z2 := HM6.out.free 2
          have z3 := HM6.out.free 3
          have ST := Lib.hid (st_store (c := c5) (c2 := d5) HP6.out HM6.out HRf6.out HL1.out HL2.out hpM hmM HB6.out hwM)
          go_wp2
          go_meet
          exact ⟨rfl, ST.out⟩
        · go_upto_region 12 with fail
          obtain ⟨m0, m1, m2, m3⟩ := HF.out.cells
          have hKS : ∀ W, Below wr.heap.size wr W → W.cell? ⟨M, 0, none⟩ = some (.int .i64 low) ∧ W.cell? ⟨M, 1, none⟩ = some (.int .i64 high) ∧ W.cell? ⟨M, 2, none⟩ = some (.slice A bs.length c1) ∧ W.cell? ⟨M, 3, none⟩ = some (.slice A2 bs.length c2) ∧ W.cell? ⟨b, o + i * 3 + 2, none⟩ = some (.int .i64 l) := by
            intro W hW
            obtain ⟨m0, m1, m2, m3⟩ := (HF.out.same (hW.block M hMlt)).cells
            have hbr : b < wr.heap.size := Nat.lt_of_lt_of_le hbw HB.out.size
            exact ⟨m0, m1, m2, m3, (hW.cell (p := ⟨b, o + i * 3 + 2, none⟩) hbr).trans d2⟩
          have KS := Lib.hid hKS
          have D2 := Lib.hid d2
          clear m0 m1 m2 m3 hKS d0 d1 d2
          refine region_way (fun W => W.cell? ⟨M, 0, none⟩ = some (.int .i64 low) ∧ W.cell? ⟨M, 1, none⟩ = some (.int .i64 high) ∧ W.cell? ⟨M, 2, none⟩ = some (.slice A bs.length c1) ∧ W.cell? ⟨M, 3, none⟩ = some (.slice A2 bs.length c2) ∧ W.cell? ⟨b, o + i * 3 + 2, none⟩ = some (.int .i64 l))
            (.step 0 true (.step 1 true (.step 2 true (.step 3 true (.step 4 true (.step 5 true (.both 6 10 (.step 7 true (.step 8 true (.step 9 true (.step 10 false (.step 11 false (.step 12 true .done)))))) (.step 6 false (.step 7 true (.step 8 true (.step 9 true (.step 11 false (.step 12 true .done)))))))))))))
            (by kernel_rfl) (by kernel_rfl) (by kernel_rfl) (by kernel_rfl) (fun _ _ _ _ _ h => h) (KS.out _ (below_of_drew (Below.refl _ _))) ?_
          repeat
            refine way_pure (v := ?_) rfl (by rfl) (fun W hW => ?_) ?_
            rotate_left
            · obtain ⟨m0, m1, m2, m3, m4⟩ := hW
              go_simp
              try with_reducible rfl
            simp only [Act.put, List.setIfInBounds_toArray, List.set_cons_zero, List.set_cons_succ]
          refine way_both rfl (by rfl) rfl (by rfl) (fun K hK => ?_) (fun K hK => ?_)
          · go_simp
            ((with_reducible refine (refdrop_c (w := wr.drew) HR.out.drew hbl h1 h2 h3 l).mono ?_))
            rintro e w5 ⟨bs5, er5, A5, c5, B5, d5, rfl, hR5, b5', f1, f2, hr5⟩
            have b5 := below_of_drew b5'
            simp only [rv]
            have B5' := Lib.hid b5
            have b6 : Below wr.heap.size wr (w5.alloc (.cells #[.int .i64 low, .int .i64 high, .slice A5 bs5.length c5, .slice B5 bs5.length d5] 30)) := bel_new b5 _
            have HP6 := Lib.hid (HP2.out.below b6)
            have HM6 := Lib.hid (HF.out.same (b6.block M hMlt))
            have HQ6 := Lib.hid (Four.new w5 (.int .i64 low) (.int .i64 high) (.slice A5 bs5.length c5) (.slice B5 bs5.length d5))
            have HRf6 := Lib.hid (hR5.below (bel_new (Below.refl w5.heap.size w5) (.cells #[.int .i64 low, .int .i64 high, .slice A5 bs5.length c5, .slice B5 bs5.length d5] 30)))
            have HL1 := Lib.hid (HL1'.out.far f1 hMlt)
            have HL2 := Lib.hid (HL2'.out.far f2 hMlt)
            have HB6 := Lib.hid (bel_more HB.out (Nat.le_refl _) b6)
            have HR2 := Lib.hid hr5
            have HN := Lib.hid (show bs5.length = bs.length by rcases hr5 with ⟨_, rfl, _⟩ | ⟨_, rfl, _⟩; exact drp_length _ _ _; rfl)
            have hqq : wr.heap.size ≤ w5.heap.size := b5.size
            have d2 := (KS.out _ b6).2.2.2.2
            clear hR5 b5 b5' f1 f2 hr5
            go_simp
            refine hK _ w5 _ (fun W h => h) (KS.out _ B5'.out) ?_
            clear hK K
            repeat
              refine way_pure (v := ?_) rfl (by rfl) (fun W hW => ?_) ?_
              rotate_left
              · clear hW
                go_simp
                try with_reducible rfl
              simp only [Act.put, List.setIfInBounds_toArray, List.set_cons_zero, List.set_cons_succ]
            refine way_make rfl (by rfl) (fun K hK => ?_)
            go_simp
            refine hK _ _ _ (fun W h => h) (KS.out _ (bel_new B5'.out _)) ?_
            clear hK K
            refine way_make rfl (by rfl) (fun K hK => ?_)
            go_simp
            refine hK _ _ _ (fun W h => h) (KS.out _ (bel_new B5'.out _)) ?_
            clear hK K
            repeat
              refine way_pure (v := ?_) rfl (by rfl) (fun W hW => ?_) ?_
              rotate_left
              · clear hW
                go_simp
                try with_reducible rfl
              simp only [Act.put, List.setIfInBounds_toArray, List.set_cons_zero, List.set_cons_succ]
            refine way_done ?_
            have hqlt : w5.heap.size < (w5.alloc (.cells #[.int .i64 low, .int .i64 high, .slice A5 bs5.length c5, .slice B5 bs5.length d5] 30)).heap.size := HQ6.out.lt
            generalize (w5.alloc (.cells #[.int .i64 low, .int .i64 high, .slice A5 bs5.length c5, .slice B5 bs5.length d5] 30)) = w6 at *
            generalize w5.heap.size = q at *
            clear b6
            go_wp2_with fail
            ((with_reducible refine (drop_calls HP6.out l hw).mono ?_))
            rintro e w7 ⟨er, s7, rfl, hP7, hr, ht⟩
            obtain ⟨rfl, rfl⟩ := drop_same hr HR2.out
            have hM7 := HM6.out.same (ht.block M HM6.out.lt (by simp; omega))
            have hQ7 := HQ6.out.same (ht.block q HQ6.out.lt (by simp; omega))
            have hR7 := ref_turn HRf6.out HL1.out HL2.out ht hpM hmM
            have hB7 := Turn.bel HB6.out (Nat.le_refl _) ht HS.out
            obtain ⟨t0, t1, t2, t3⟩ := hQ7.cells
            obtain ⟨s0, s1, s2, s3⟩ := hM7.cells
            have z0 := hM7.free 0
            have z1 := hM7.free 1
            have z2 := hM7.free 2
            have z3 := hM7.free 3
            have ST := Lib.hid (st_store (c := c5) (c2 := d5) (by rw [← HN.out] at hP7; exact hP7) hM7 hR7 HL1.out HL2.out hpM hmM hB7 hwM)
            clear hM7 hQ7 hR7 hB7 ht hP7 d2
            go_wp2
            go_meet
            exact ⟨rfl, ST.out⟩
          · go_simp
            have bA : Below wr.heap.size wr (wr.alloc (.cells #[.int .i64 0, .int .i64 0, .slice none 0 0, .slice none 0 0] 30)) := bel_new (Below.refl _ _) _
            have BA := Lib.hid bA
            refine hK _ _ _ (fun W h => h) (KS.out _ (bel_drewN bA 1)) ?_
            clear hK K bA
            refine way_make rfl (by rfl) (fun K hK => ?_)
            go_simp
            ((with_reducible refine (refdrop_c (w := (wr.alloc (.cells #[.int .i64 0, .int .i64 0, .slice none 0 0, .slice none 0 0] 30)).drew) (HR.out.below BA.out).drew hbl h1 h2 h3 l).mono ?_))
            rintro e w5 ⟨bs5, er5, A5, c5, B5, d5, rfl, hR5, b5', f1, f2, hr5⟩
            simp only [rv]
            have b5 := below_of_drew b5'
            have hz : (wr.alloc (.cells #[.int .i64 0, .int .i64 0, .slice none 0 0, .slice none 0 0] 30)).heap.size = wr.heap.size + 1 := by simp
            have hq5 : Four w5 wr.heap.size (.int .i64 0) (.int .i64 0) (.slice none 0 0) (.slice none 0 0) := (Four.new wr _ _ _ _).same (b5.block _ (by rw [hz]; omega))
            have b6 : Below wr.heap.size wr w5 := BA.out.trans (b5.mono (by rw [hz]; omega))
            obtain ⟨y0, y1, y2, y3⟩ := hq5.cells
            have g0 := hq5.free 0
            have g1 := hq5.free 1
            have g2 := hq5.free 2
            have g3 := hq5.free 3
            have hsz5 := b5.size
            have f1' : Far (wr.heap.size + 1) A A5 := by have := f1; rwa [show (wr.alloc (.cells #[.int .i64 0, .int .i64 0, .slice none 0 0, .slice none 0 0] 30)).drew.heap.size = wr.heap.size + 1 from hz] at this
            have f2' : Far (wr.heap.size + 1) A2 B5 := by have := f2; rwa [show (wr.alloc (.cells #[.int .i64 0, .int .i64 0, .slice none 0 0, .slice none 0 0] 30)).drew.heap.size = wr.heap.size + 1 from hz] at this
            have l1 : Loc M A5 := HL1'.out.far f1' (by omega)
            have l2 : Loc M B5 := HL2'.out.far f2' (by omega)
            have hN : bs5.length = bs.length := by rcases hr5 with ⟨_, rfl, _⟩ | ⟨_, rfl, _⟩; exact drp_length _ _ _; rfl
            have HN := Lib.hid hN
            have HR2 := Lib.hid hr5
            have HL1 := Lib.hid l1
            have HL2 := Lib.hid l2
            have HRf6 := Lib.hid (Ref.other (W' := ((((w5.setCell ⟨wr.heap.size, 0, none⟩ (.int .i64 low)).setCell ⟨wr.heap.size, 1, none⟩ (.int .i64 high)).setCell ⟨wr.heap.size, 2, none⟩ (.slice A5 bs5.length c5)).setCell ⟨wr.heap.size, 3, none⟩ (.slice B5 bs5.length d5))) hR5 HR.out hN f1' f2' (fun k hk => heap_set4 w5 wr.heap.size k hk _ _ _ _) (by rw [size_set4]; exact Nat.le_refl _))
            have b7 : Below wr.heap.size wr ((((w5.setCell ⟨wr.heap.size, 0, none⟩ (.int .i64 low)).setCell ⟨wr.heap.size, 1, none⟩ (.int .i64 high)).setCell ⟨wr.heap.size, 2, none⟩ (.slice A5 bs5.length c5)).setCell ⟨wr.heap.size, 3, none⟩ (.slice B5 bs5.length d5)) := (((b6.setCell (p := ⟨wr.heap.size, 0, none⟩) (Nat.le_refl _) _).setCell (p := ⟨wr.heap.size, 1, none⟩) (Nat.le_refl _) _).setCell (p := ⟨wr.heap.size, 2, none⟩) (Nat.le_refl _) _).setCell (p := ⟨wr.heap.size, 3, none⟩) (Nat.le_refl _) _
            have HP6 := Lib.hid (HP2.out.below b7)
            have HM6 := Lib.hid (HF.out.same (b7.block M hMlt))
            have HQ6 := Lib.hid (show Four ((((w5.setCell ⟨wr.heap.size, 0, none⟩ (.int .i64 low)).setCell ⟨wr.heap.size, 1, none⟩ (.int .i64 high)).setCell ⟨wr.heap.size, 2, none⟩ (.slice A5 bs5.length c5)).setCell ⟨wr.heap.size, 3, none⟩ (.slice B5 bs5.length d5)) wr.heap.size _ _ _ _ from set4 hq5 _ _ _ _)
            have HB6 := Lib.hid (bel_more HB.out (Nat.le_refl _) b7)
            have d2 := (KS.out _ b7).2.2.2.2
            have D2' := Lib.hid d2
            have K6 := Lib.hid b6
            have K7 := Lib.hid b7
            clear hR5 b5 b5' f1 f2 f1' f2' hr5 hN hq5 b6 b7 l1 l2 hz hsz5 d2
            go_simp
            refine hK _ w5 _ (fun W h => h) (KS.out _ K6.out) ?_
            clear hK K
            repeat
              refine way_pure (v := ?_) rfl (by rfl) (fun W hW => ?_) ?_
              rotate_left
              · clear hW
                go_simp
                try with_reducible rfl
              simp only [Act.put, List.setIfInBounds_toArray, List.set_cons_zero, List.set_cons_succ]
            refine way_make rfl (by rfl) (fun K hK => ?_)
            go_simp
            refine hK _ _ _ (fun W h => h) (KS.out _ K7.out) ?_
            clear hK K
            repeat
              refine way_pure (v := ?_) rfl (by rfl) (fun W hW => ?_) ?_
              rotate_left
              · clear hW
                go_simp
                try with_reducible rfl
              simp only [Act.put, List.setIfInBounds_toArray, List.set_cons_zero, List.set_cons_succ]
            refine way_done ?_
            clear y0 y1 y2 y3 g0 g1 g2 g3 K6 K7
            have d2 := D2'.out
            clear D2'
            generalize ((((w5.setCell ⟨wr.heap.size, 0, none⟩ (.int .i64 low)).setCell ⟨wr.heap.size, 1, none⟩ (.int .i64 high)).setCell ⟨wr.heap.size, 2, none⟩ (.slice A5 bs5.length c5)).setCell ⟨wr.heap.size, 3, none⟩ (.slice B5 bs5.length d5)) = w6 at *
            generalize wr.heap.size = q at *
            go_wp2_with fail
            ((with_reducible refine (drop_calls HP6.out l hw).mono ?_))
            rintro e w7 ⟨er, s7, rfl, hP7, hr, ht⟩
            obtain ⟨rfl, rfl⟩ := drop_same hr HR2.out
            have hM7 := HM6.out.same (ht.block M HM6.out.lt (by simp; omega))
            have hQ7 := HQ6.out.same (ht.block q HQ6.out.lt (by simp; omega))
            have hR7 := ref_turn HRf6.out HL1.out HL2.out ht hpM hmM
            have hB7 := Turn.bel HB6.out (Nat.le_refl _) ht HS.out
            obtain ⟨t0, t1, t2, t3⟩ := hQ7.cells
            obtain ⟨s0, s1, s2, s3⟩ := hM7.cells
            have z0 := hM7.free 0
            have z1 := hM7.free 1
            have z2 := hM7.free 2
            have z3 := hM7.free 3
            have ST := Lib.hid (st_store (c := c5) (c2 := d5) (by rw [← HN.out] at hP7; exact hP7) hM7 hR7 HL1.out HL2.out hpM hmM hB7 hwM)
            clear hM7 hQ7 hR7 hB7 ht hP7 d2
            go_wp2
            go_meet
            exact ⟨rfl, ST.out⟩
      case rest =>
        clear HP2 HF HR HL1' HL2' HB hMlt HA2 d0 d1 d2 hq hbl
        obtain ⟨rfl, bs', A', c', A2', c2', hP, hF, hR, hL1, hL2, hB⟩ := hcut
        have hq := hP.2.2.1
        have hbl : bs'.length ≤ 1048576 := by omega
        have hMlt := hF.lt
        have hsm := hP.small
        have HP2 := Lib.hid hP
        have HF := Lib.hid hF
        have HR := Lib.hid hR
        have HL1 := Lib.hid hL1
        have HL2 := Lib.hid hL2
        have HB := Lib.hid hB
        have hKS : ∀ W, Below wc.heap.size wc W → W.cell? ⟨M, 0, none⟩ = some (.int .i64 low) ∧ W.cell? ⟨M, 1, none⟩ = some (.int .i64 high) ∧ W.cell? ⟨M, 2, none⟩ = some (.slice A' bs'.length c') ∧ W.cell? ⟨M, 3, none⟩ = some (.slice A2' bs'.length c2') := fun W hW => (HF.out.same (hW.block M hMlt)).cells
        have KS := Lib.hid hKS
        clear hP hF hR hL1 hL2 hB hKS
        go_wp2_with fail
        refine region_seq (fun W => W.cell? ⟨M, 0, none⟩ = some (.int .i64 low) ∧ W.cell? ⟨M, 1, none⟩ = some (.int .i64 high) ∧ W.cell? ⟨M, 2, none⟩ = some (.slice A' bs'.length c') ∧ W.cell? ⟨M, 3, none⟩ = some (.slice A2' bs'.length c2'))
          [(0, true), (1, true), (2, true), (3, true), (5, true), (4, false), (6, false), (7, false), (8, true), (9, true), (10, true), (11, true), (13, true), (12, false), (14, false), (15, true), (16, true)]
          (by kernel_rfl) (by kernel_rfl) (by kernel_rfl) (by kernel_rfl) (fun _ _ _ _ _ h => h) (KS.out _ (below_of_drew (Below.refl _ _))) ?_
        repeat
          refine seq_pure (v := ?_) rfl (by rfl) (fun W hW => ?_) ?_
          rotate_left
          · obtain ⟨m0, m1, m2, m3⟩ := hW
            go_simp
            try with_reducible rfl
          simp only [Act.put, List.setIfInBounds_toArray, List.set_cons_zero, List.set_cons_succ]
        refine seq_make rfl (by rfl) (fun K hK => ?_)
        go_simp
        ((with_reducible refine (out_calls HP2.out.drew).mono ?_))
        rintro e w6 ⟨A6, c6, rfl, hA6, b6'⟩
        have B6 := Lib.hid (below_of_drew b6')
        have A6' := Lib.hid hA6
        clear b6' hA6
        go_simp
        refine hK _ w6 _ (fun W h => h) (KS.out _ B6.out) ?_
        clear hK K
        refine seq_make rfl (by rfl) (fun K hK => ?_)
        go_simp
        ((with_reducible refine (refout_c (HR.out.below B6.out) hbl).mono ?_))
        rintro e w7 ⟨A7, c7, rfl, hA7, b7⟩
        have B7 := Lib.hid (bel_more B6.out (Nat.le_refl _) b7)
        have R6 := Lib.hid ((A6'.out.row.below b7).more b7.size)
        have R7 := Lib.hid hA7.row
        clear b7 hA7
        go_simp
        refine hK _ w7 _ (fun W h => h) (KS.out _ B7.out) ?_
        clear hK K
        refine seq_make rfl (by rfl) (fun K hK => ?_)
        go_simp
        ((with_reducible refine (ints_calls R6.out R7.out (by omega)).mono ?_))
        rintro e w8 ⟨rfl, m8, rfl⟩
        go_simp
        refine hK _ _ _ (fun W h => h) (KS.out _ (bel_drewN B7.out m8)) ?_
        clear hK K
        repeat
          refine seq_pure (v := ?_) rfl (by rfl) (fun W hW => ?_) ?_
          rotate_left
          · obtain ⟨m0, m1, m2, m3⟩ := hW
            go_simp
            try with_reducible rfl
          simp only [Act.put, List.setIfInBounds_toArray, List.set_cons_zero, List.set_cons_succ]
        refine seq_make rfl (by rfl) (fun K hK => ?_)
        go_simp
        ((with_reducible refine (left_calls_p ((HP2.out.below B7.out).drewN m8)).mono ?_))
        rintro e w9 ⟨rfl, m9, rfl⟩
        go_simp
        refine hK _ _ _ (fun W h => h) (KS.out _ (bel_drewN B7.out (m8 + m9))) ?_
        clear hK K
        refine seq_make rfl (by rfl) (fun K hK => ?_)
        go_simp
        ((with_reducible refine (refleft_c bs'.length hbl h1 h2 h3).mono ?_))
        rintro e w10 ⟨rfl, b10⟩
        have B10 := Lib.hid (bel_more (bel_drewN B7.out (m8 + m9)) (Nat.le_refl _) b10)
        have e8 : (high - (low + (bs'.length : Int)) + 1 != high - low + 1 - (bs'.length : Int)) = false := by simp; omega
        clear b10
        go_simp
        refine hK _ w10 _ (fun W h => h) (KS.out _ B10.out) ?_
        clear hK K
        repeat
          refine seq_pure (v := ?_) rfl (by rfl) (fun W hW => ?_) ?_
          rotate_left
          · clear hW
            go_simp
            try with_reducible rfl
          simp only [Act.put, List.setIfInBounds_toArray, List.set_cons_zero, List.set_cons_succ]
        refine seq_done ?_
        have ST := Lib.hid (show St w pb mb M low high w10 from ⟨bs', A', c', A2', c2', HP2.out.below B10.out, HF.out.same (B10.out.block M hMlt), HR.out.below B10.out, HL1.out, HL2.out, bel_more HB.out (Nat.le_refl _) B10.out⟩)
        clear e8 R6 R7 A6' B6 B7 B10 KS HP2 HF HR HL1 HL2 HB
        go_wp2
        go_roundw
        case rel => exact ⟨i + 1, by omega, by go_num, ST.out⟩
        case measure => simp [intOf]; omega
    · by_cases hin : i < n
      · have hi1 : ¬ i < 100 := fun h => hlt ⟨hin, h⟩
        clear hlt
        go_wp2
        go_ret
        exact ⟨rfl, HB.out⟩
      · clear hlt
        go_wp2
        go_ret
        exact ⟨rfl, HB.out⟩

theorem acts_walk (low high : Int) (a : Option Addr) (n c : Nat) (w : World) (h : n ≤ maxLen ∧ ∃ es, Acts w w.heap.size a n es) :
    Calls Try.prog 3 #[.int .i64 low, .int .i64 high, .slice a n c] w fun e w' => e = .returned (.bool true) ∧ Below w.heap.size w w' := by
  obtain ⟨hm, es, h⟩ := h
  cases hr : rightB low high
  · exact acts_no low high a n c w hr
  · obtain ⟨h1, h2, h3⟩ : 16 ≤ low ∧ high ≤ 1048575 ∧ low ≤ high := by simpa [rightB] using hr
    exact acts_yes low high a n c es w h hm h1 h2 h3
end Go.Proofs.Ytclhpmmdcapboaa
