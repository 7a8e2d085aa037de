/-
  Contracts of package tedb: a base in memory; made, find (slices.IndexFunc), slices.Clone, All, Copy. Condition: at most 2^30 adverts.
-/
import Derived.Test.YtmfmjdkeoiebpaaTecA
import Derived.Test.YtmfmjdkeoiebpaaMapI
import Derived.Shelf.Abstract
import Derived.Lib.SliceRun
import Derived.Laws.EntriesVeiled
namespace Go.Proofs.Ytmfmjdkeoiebpaa
set_option maxRecDepth 100000
set_option linter.unusedVariables false
open Go.RowKit

/-- The cells of a base. -/
def bsc (A : Option Addr) (n c : Nat) : List Value := [.bool true, .slice A n c]
/-- A base in memory: its block, and the block of its adverts. -/
structure BasI (w : World) (q : Nat) (b : List Ad) (S : List Nat) (A : Option Addr) (c : Nat) : Prop where
  blk : Blk w q 66 (bsc A b.length c)
  acc : AccT15 w 0 A c b
  ne : ∀ g, Go.Proofs.Ytmfmjdkeoiebpaa.blk A = some g → g ≠ q
  own : S = q :: (Go.Proofs.Ytmfmjdkeoiebpaa.blk A).toList
  ok : ∀ a ∈ b, AdOk a ∧ I15 a.q
  len : b.length ≤ 64
def BasC (w : World) (q : Nat) (b : List Ad) (S : List Nat) : Prop := ∃ A c, BasI w q b S A c
theorem accr_same15 {α : Type} {enc : α → List Value} {k : Nat} {w w' : World} {base c : Nat} {T : TypeId} {A : Option Addr} {l : List α} (h : AccR enc k w base T A c l) (hb : ∀ x, blk A = some x → w'.heap[x]? = w.heap[x]?) : AccR enc k w' base T A c l := by
  obtain ⟨h1, h2⟩ := h
  refine ⟨h1, ?_⟩
  rcases h2 with h2 | ⟨g, cap, cur, hv, hg, hh, r⟩
  · exact .inl h2
  · have hA : A = some ⟨g, 0, none⟩ := by injection hv
    exact .inr ⟨g, cap, cur, hv, hg, (hb g (by rw [hA]; rfl)).trans hh, r⟩
section
variable {w w' : World} {q c : Nat} {b : List Ad} {S : List Nat} {A : Option Addr}
theorem BasI.keep (h : BasI w q b S A c) (hb : ∀ x ∈ S, w'.heap[x]? = w.heap[x]?) : BasI w' q b S A c :=
  ⟨h.blk.same (hb q (by rw [h.own]; exact List.mem_cons_self)), accr_same15 h.acc (fun x hx => hb x (by rw [h.own]; exact List.mem_cons_of_mem _ (by simpa using hx))), h.ne, h.own, h.ok, h.len⟩
theorem BasI.lt (h : BasI w q b S A c) : ∀ x ∈ S, x < w.heap.size := fun x hx => by
  rw [h.own] at hx
  rcases List.mem_cons.1 hx with rfl | hx
  · exact h.blk.lt
  · exact (AccR.ge h.acc (by simpa using hx)).2
theorem BasI.below (h : BasI w q b S A c) (hb : Below w.heap.size w w') : BasI w' q b S A c := h.keep fun x hx => hb.block x (h.lt x hx)
theorem BasI.row (h : BasI w q b S A c) : Row adc w w.heap.size A b.length b := AccR.row h.acc
end
theorem made15_calls (q : Nat) (d : Bool) (w : World) (h : w.cell? ⟨q, 0, none⟩ = some (.bool d)) : Calls Try.prog 34 #[.pointer (some ⟨q, 0, none⟩)] w fun e w' => e = .returned (.bool d) ∧ w = w' := by
  go_enter Try.func34, Try.ntmps34
  go_wp2
  go_ret
  exact ⟨rfl, rfl⟩
theorem made15_nil (w : World) : Calls Try.prog 34 #[.pointer none] w fun e w' => e = .returned (.bool false) ∧ w = w' := by
  go_enter Try.func34, Try.ntmps34
  go_wp2
  go_ret
  exact ⟨rfl, rfl⟩
def isA15 (f t : Int) (x : Ad) : Bool := x.k.f == f && x.k.t == t
theorem findc15_calls (x : Ad) (f t : Int) (p q : Nat) (w : World) (hp : Blk w p 3 [.int .i64 f]) (hq : Blk w q 3 [.int .i64 t]) :
    Calls Try.prog 51 #[.agg (adc x).toArray, .pointer (some ⟨p, 0, none⟩), .pointer (some ⟨q, 0, none⟩)] w fun e w' => e = .returned (.bool (isA15 f t x)) ∧ Below w.heap.size w w' := by
  have L1 := Lib.hid (bel_new (Below.refl w.heap.size w) (.cells (adc x).toArray 40))
  have B1 := Lib.hid (Blk.new w 40 (adc x))
  have P1 := Lib.hid (hp.below L1.out)
  have Q1 := Lib.hid (hq.below L1.out)
  clear hp hq
  go_enter Try.func51, Try.ntmps51
  go_upto_region 1 with fail
  generalize w.alloc (.cells (adc x).toArray 40) = w1 at *
  have c0 : w1.cell? ⟨w.heap.size, 0, none⟩ = some (.int .i64 x.k.f) := B1.out.cell 0
  have c1 : w1.cell? ⟨w.heap.size, 1, none⟩ = some (.int .i64 x.k.t) := B1.out.cell 1
  have cp : w1.cell? ⟨p, 0, none⟩ = some (.int .i64 f) := P1.out.cell 0
  have cq : w1.cell? ⟨q, 0, none⟩ = some (.int .i64 t) := Q1.out.cell 0
  cases h1 : x.k.f == f with
  | false =>
    have HD := Lib.hid (show isA15 f t x = false by unfold isA15; rw [h1]; rfl)
    go_wp2_with fail
    go_ret
    exact ⟨by rw [HD.out]; rfl, L1.out⟩
  | true =>
    cases h2 : x.k.t == t with
    | false =>
      have HD := Lib.hid (show isA15 f t x = false by unfold isA15; rw [h1, h2]; rfl)
      go_wp2_with fail
      go_ret
      exact ⟨by rw [HD.out]; rfl, L1.out⟩
    | true =>
      have HD := Lib.hid (show isA15 f t x = true by unfold isA15; rw [h1, h2]; rfl)
      go_wp2_with fail
      go_ret
      exact ⟨by rw [HD.out]; rfl, L1.out⟩
theorem plc_hit {l : List Ad} {f t : Int} {i : Nat} (hi : i < l.length) (hb : ∀ k (hk : k < l.length), k < i → isA15 f t l[k] = false) (h : isA15 f t l[i] = true) : plc l (f, t) = (i : Int) := by
  have e : ∀ x : Ad, decide (ends15 x.k = (f, t)) = isA15 f t x := fun x => by
    unfold isA15 ends15
    rw [Bool.eq_iff_iff]
    simp
  have : bpl l (f, t) = some i := List.findIdx?_eq_some_iff_getElem.2 ⟨hi, by rw [e]; exact h, fun j hj => by rw [e, hb j (by omega) hj]; simp⟩
  unfold plc
  rw [this]
theorem plc_none {l : List Ad} {f t : Int} (h : ∀ k (hk : k < l.length), isA15 f t l[k] = false) : plc l (f, t) = -1 := by
  have e : ∀ x : Ad, decide (ends15 x.k = (f, t)) = isA15 f t x := fun x => by
    unfold isA15 ends15
    rw [Bool.eq_iff_iff]
    simp
  have : bpl l (f, t) = none := List.findIdx?_eq_none_iff.2 fun x hx => by
    obtain ⟨j, hj, rfl⟩ := List.mem_iff_getElem.1 hx
    rw [e, h j hj]
  unfold plc
  rw [this]
theorem indexf15_calls (p q : Nat) (f t : Int) (a : Option Addr) (n c : Nat) (l : List Ad) (w : World) (h : Row adc w w.heap.size a n l) (hn : n ≤ 1099511627776) (hp : Blk w p 3 [.int .i64 f]) (hq : Blk w q 3 [.int .i64 t]) :
    Calls Try.prog 50 #[.slice a n c, .func (.func 51) #[] #[.pointer (some ⟨p, 0, none⟩), .pointer (some ⟨q, 0, none⟩)]] w fun e w' => e = .returned (.int .i64 (plc l (f, t))) ∧ Below w.heap.size w w' := by
  have he : ∀ (args : Array Value) (w : World), (callFunc 51 args).run Try.prog w = .ok (.enter 51 args) w := enters_of Try.func51 (by kernel_rfl) rfl
  have HLEN := Lib.hid h.1
  have HR := Lib.hid h
  have HC := Lib.hid (fun x W (hW : Below w.heap.size w W) => findc15_calls x f t p q W (hp.below hW) (hq.below hW))
  clear h hp hq
  go_enter Try.func50, Try.ntmps50
  go_wp2_with fail
  go_loopw [8] (fun t' wr => ∃ i : Nat, i ≤ n ∧ t' = .int .i64 (i : Int) ∧ (∀ k (hk : k < l.length), k < i → isA15 f t l[k] = false) ∧ Below w.heap.size w wr) (fun t' wr => n - (intOf t').toNat)
  case atStart => exact ⟨0, Nat.zero_le _, rfl, fun k _ hk => by omega, Below.refl _ _⟩
  case round =>
    obtain ⟨i, hi, rfl, hF, hB⟩ := hrel
    have HF := Lib.hid hF
    have HB := Lib.hid hB
    clear hF hB
    by_cases hlt : i < n
    · obtain ⟨b, o, x, rfl, hx, hbw, hcell⟩ := range15 HR.out hlt
      have hil : i < l.length := by have := HLEN.out; omega
      have hxe : l[i] = x := by
        rw [List.getElem?_eq_getElem hil] at hx
        injection hx
      have HXE := Lib.hid hxe
      have HX := Lib.hid (hcell wr HB.out)
      have HIN := Lib.hid (show (Try.prog.info? 40).map (·.size) = some (adc x).length from infoAdTS15)
      clear hcell hx hxe hbw
      go_wp2_with (refine step_load_at (o := ⟨some 15, _, _, _, _, _⟩) rfl rfl rfl HX.out Try.underlying40 rfl HIN.out ?_)
      refine (HC.out x wr HB.out).mono ?_
      rintro e w2 ⟨rfl, b2⟩
      have B2 := Lib.hid (bel_more HB.out (Nat.le_refl _) b2)
      clear b2
      cases hs : isA15 f t x with
      | true =>
        have hr := plc_hit hil HF.out (by rw [HXE.out]; exact hs)
        have HRR := Lib.hid hr
        clear hr hs
        go_wp2_with fail
        go_ret
        exact ⟨by rw [HRR.out]; rfl, B2.out⟩
      | false =>
        have F2 : ∀ k (hk : k < l.length), k < i + 1 → isA15 f t l[k] = false := fun k hk hlt => by
          rcases Nat.lt_or_ge k i with h | h
          · exact HF.out k hk h
          · obtain rfl : k = i := by omega
            rw [HXE.out]; exact hs
        have F3 := Lib.hid F2
        clear F2 hs
        go_wp2_with fail
        go_roundw
        case rel => exact ⟨i + 1, by omega, by first | rfl | (simp; omega), F3.out, B2.out⟩
        case measure => simp [intOf]; omega
    · have hr := plc_none (f := f) (t := t) (l := l) (fun k hk => HF.out k hk (by have := HLEN.out; omega))
      have HRR := Lib.hid hr
      clear hr
      go_wp2_with fail
      go_ret
      exact ⟨by rw [HRR.out]; rfl, HB.out⟩
theorem find15_calls (q n c : Nat) (A : Option Addr) (l : List Ad) (f t : Int) (w : World) (h2 : w.cell? ⟨q, 1, none⟩ = some (.slice A n c)) (h : Row adc w w.heap.size A n l) (hn : n ≤ 1024) :
    Calls Try.prog 35 #[.pointer (some ⟨q, 0, none⟩), .int .i64 f, .int .i64 t] w fun e w' => e = .returned (.int .i64 (plc l (f, t))) ∧ Below w.heap.size w w' := by
  have L1 := bel_new (Below.refl w.heap.size w) (.cells #[.int .i64 f] 3)
  have L2 := Lib.hid (bel_new L1 (.cells #[.int .i64 t] 3))
  have b1 : Blk (w.alloc (.cells #[.int .i64 f] 3)) w.heap.size 3 [.int .i64 f] := Blk.new w _ _
  have b1' := b1.below (bel_new (Below.refl _ _) (.cells #[.int .i64 t] 3))
  have b2 : Blk ((w.alloc (.cells #[.int .i64 f] 3)).alloc (.cells #[.int .i64 t] 3)) (w.heap.size + 1) 3 [.int .i64 t] := by
    have := Blk.new (w.alloc (.cells #[.int .i64 f] 3)) 3 [.int .i64 t]
    simpa using this
  have c2 : ((w.alloc (.cells #[.int .i64 f] 3)).alloc (.cells #[.int .i64 t] 3)).cell? ⟨q, 1, none⟩ = some (.slice A n c) := Lib.cell?_alloc_some _ (Lib.cell?_alloc_some _ h2)
  have hcall := indexf15_calls w.heap.size (w.heap.size + 1) f t A n c l _ ((h.below L2.out).more L2.out.size) (by omega) b1' b2
  have HC := Lib.hid hcall
  clear h hcall h2 b1 b1' b2 L1
  go_enter Try.func35, Try.ntmps35
  go_upto_region 1 with fail
  generalize (w.alloc (.cells #[.int .i64 f] 3)).alloc (.cells #[.int .i64 t] 3) = w1 at *
  go_wp2_with fail
  ((with_reducible refine HC.out.mono ?_))
  rintro e w2 ⟨rfl, hb⟩
  have L3 := Lib.hid (L2.out.trans (hb.mono L2.out.size))
  clear hb HC
  go_wp2_with fail
  go_ret
  exact ⟨rfl, L3.out⟩
def Cl15 (n : Nat) (l : List Ad) (w : World) (e : Ending) (w' : World) : Prop := ∃ A2 c2, e = .returned (.slice A2 n c2) ∧ AccT15 w' w.heap.size A2 c2 l ∧ Below w.heap.size w w'
theorem accr_made15 {α : Type} {enc : α → List Value} {k : Nat} {T : TypeId} (w : World) : AccR enc k (w.alloc (.cells #[] T)) w.heap.size T (some ⟨w.heap.size, 0, none⟩) 0 [] :=
  ⟨by simp, .inr ⟨w.heap.size, 0, #[], rfl, Nat.le_refl _, by simpa using heap_alloc_new w _, Nat.le_refl _, by unfold maxLen; omega, by simp, by simp⟩⟩
theorem clone15_calls (a : Option Addr) (n c : Nat) (l : List Ad) (w : World) (h : Row adc w w.heap.size a n l) (hn : n ≤ 1024) :
    Calls Try.prog 37 #[.slice a n c] w (Cl15 n l w) := by
  have hq := fun W => Lib.run_eql_slice_nil (P := Try.prog) W 47 40 a n c 0 0 Try.underlying47
  unfold Cl15
  cases a with
  | none =>
    have h0 : n = 0 := by
      rcases Nat.eq_zero_or_pos n with h0 | h0
      · exact h0
      · obtain ⟨b, o, e, _⟩ := h.2 h0; cases e
    subst h0
    have hl := h.zero
    subst hl
    clear h
    go_enter Try.func37, Try.ntmps37
    go_wp2_with fail
    go_ret
    exact ⟨none, 0, rfl, AccR.nil _ _ _, Below.refl _ _⟩
  | some ad =>
    have h1 : Below w.heap.size w (w.alloc (.cells #[] 40)) := bel_new (Below.refl _ _) _
    have ha := accr_made15 (enc := adc) (k := 15) (T := 40) w
    obtain ⟨A4, c4, w4, hrun, hacc, hgr, _⟩ := accr_append (P := Try.prog) (ty := 47) (cc := c) adc_length adc_one (by omega) ha (h.below h1) Try.underlying47 infoAdT15 rfl (by simp) (by simp; omega) (by simp; omega)
    have hlen : ([] : List Ad).length + n = n := by simp
    rw [hlen] at hrun
    have hb4 := belr_acc h1 ha hgr
    have HRUN := Lib.hid hrun
    have HA := Lib.hid hacc
    have HB := Lib.hid hb4
    clear h h1 ha hrun hacc hgr hb4 hlen
    go_enter Try.func37, Try.ntmps37
    go_wp2_with (at_builtin; refine step_append (o := ⟨some 7, _, _, _, _, _⟩) rfl rfl rfl rfl HRUN.out ?_)
    go_ret
    exact ⟨A4, c4, rfl, by have := HA.out; unfold AccT15; simpa using this, HB.out⟩
theorem all15c_calls (q : Nat) (b : List Ad) (S : List Nat) (w : World) (h : BasC w q b S) : Calls Try.prog 20 #[.pointer (some ⟨q, 0, none⟩)] w (Cl15 b.length b w) := by
  obtain ⟨A, c, ht⟩ := h
  have hmade := made15_calls q true w (ht.blk.cell 0)
  have h2 : w.cell? ⟨q, 1, none⟩ = some (.slice A b.length c) := ht.blk.cell 1
  have HC := Lib.hid (clone15_calls A b.length c b w ht.row (by have := ht.len; omega))
  unfold Cl15 at *
  obtain ⟨N, hN⟩ : ∃ N, b.length = N := ⟨_, rfl⟩
  rw [hN] at h2 HC ⊢
  clear hN ht
  go_enter Try.func20, Try.ntmps20
  go_wp2_with fail
  ((with_reducible refine hmade.mono ?_))
  rintro e w2 ⟨rfl, rfl⟩
  clear hmade
  go_wp2_with fail
  ((with_reducible refine HC.out.mono ?_))
  rintro e w2 ⟨A2, c2, rfl, hacc, hb⟩
  have AC := Lib.hid hacc
  have HB := Lib.hid hb
  clear hacc hb HC
  go_wp2_with fail
  go_ret
  exact ⟨A2, c2, rfl, AC.out, HB.out⟩
/-- A copy of a base. -/
def Cp15 (b : List Ad) (w : World) (e : Ending) (w' : World) : Prop := ∃ q S, e = .returned (.pointer (some ⟨q, 0, none⟩)) ∧ BasC w' q b S ∧ (∀ x ∈ S, w.heap.size ≤ x) ∧ Below w.heap.size w w'
theorem copy15_calls (q : Nat) (b : List Ad) (S : List Nat) (w : World) (h : BasC w q b S) : Calls Try.prog 29 #[.pointer (some ⟨q, 0, none⟩)] w (Cp15 b w) := by
  obtain ⟨A, c, ht⟩ := h
  have hmade := made15_calls q true w (ht.blk.cell 0)
  have h2 : w.cell? ⟨q, 1, none⟩ = some (.slice A b.length c) := ht.blk.cell 1
  have HC := Lib.hid (clone15_calls A b.length c b w ht.row (by have := ht.len; omega))
  have HT := Lib.hid ht
  unfold Cl15 at *
  unfold Cp15
  obtain ⟨N, hN⟩ : ∃ N, b.length = N := ⟨_, rfl⟩
  rw [hN] at h2 HC
  have HN := Lib.hid hN
  clear hN ht
  go_enter Try.func29, Try.ntmps29
  go_wp2_with fail
  ((with_reducible refine hmade.mono ?_))
  rintro e w2 ⟨rfl, rfl⟩
  clear hmade
  go_wp2_with fail
  ((with_reducible refine HC.out.mono ?_))
  rintro e w2 ⟨A2, c2, rfl, hacc, hb⟩
  have AC := Lib.hid hacc
  have HB := Lib.hid hb
  clear hacc hb HC h2
  have L3 := Lib.hid (bel_new HB.out (.cells #[.bool true, .slice A2 N c2] 66))
  have B3 := Lib.hid (show Blk (w2.alloc (.cells #[.bool true, .slice A2 N c2] 66)) w2.heap.size 66 (bsc A2 N c2) from Blk.new w2 _ _)
  have A3 := Lib.hid (AccR.alloc AC.out (.cells #[.bool true, .slice A2 N c2] 66))
  go_wp2_with fail
  go_ret
  refine ⟨w2.heap.size, w2.heap.size :: (blk A2).toList, rfl, ⟨A2, c2, by rw [HN.out]; exact B3.out, AccR.lower A3.out (Nat.zero_le _), fun g hg => ?_, rfl, HT.out.ok, HT.out.len⟩, fun x hx => ?_, L3.out⟩
  · have := (AccR.ge AC.out hg).2; omega
  · rcases List.mem_cons.1 hx with rfl | hx
    · exact HB.out.size
    · exact (AccR.ge AC.out (by simpa using hx)).1
end Go.Proofs.Ytmfmjdkeoiebpaa
