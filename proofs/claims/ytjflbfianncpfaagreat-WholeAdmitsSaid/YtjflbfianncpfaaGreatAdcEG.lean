/-
  Contracts of package admit: the families of a table in memory; next, book, fits. Condition: at most a thousand families.
  Contracts of package admit: fits; slices.Grow of none, slices.Concat, slices.Clone, slices.Delete as they are used there. Condition: at most a thousand slices of a thousand entries each.
  Contracts of package admit: parts of slices; slices.Clone and slices.Delete of entries, slices.Delete of families. Condition: at most a thousand entries.
-/
import Derived.Test.YtjflbfianncpfaaGreatAdcKD
import Derived.Test.YtjflbfianncpfaaGreatAdmAH
import Derived.Test.YtjflbfianncpfaaGreatLedgMK
import Derived.Deep.CutBlock
import Derived.Lib.AppendZeros
import Derived.Lib.SliceRun
namespace Go.Proofs.YtjflbfianncpfaaGreat
set_option maxRecDepth 100000
set_option linter.unusedVariables false
open Go.RowKit

/-- A family as it lies in memory: its slice, and its paths. -/
structure SF where
  a : Option Addr
  n : Nat
  c : Nat
  g : List Et
def sfc (p : SF) : List Value := [.slice p.a p.n p.c]
theorem sfc_length (p : SF) : (sfc p).length = 1 := rfl
theorem sfc_one (p : SF) : ∀ u ∈ sfc p, u.oneCell' = true := by intro u hu; simp [sfc] at hu; subst hu; rfl
/-- Such families. -/
def Sfs (w : World) (B : Nat) (fs : List SF) : Prop := ∀ p ∈ fs, Row ent w B p.a p.n p.g ∧ 0 < p.n ∧ p.n ≤ 1024 ∧ p.n ≤ p.c
theorem Sfs.below {w w' : World} {B : Nat} {fs : List SF} (h : Sfs w B fs) (hb : Below B w w') : Sfs w' B fs := fun p hp => ⟨(h p hp).1.below hb, (h p hp).2⟩
theorem Sfs.more {w : World} {B B' : Nat} {fs : List SF} (h : Sfs w B fs) (hB : B ≤ B') : Sfs w B' fs := fun p hp => ⟨(h p hp).1.more hB, (h p hp).2⟩
/-- One family's slice. -/
theorem row_sf {w : World} {B m : Nat} {A : Option Addr} {fs : List SF} (h : Row sfc w B A m fs) (h0 : 0 < m) : ∃ b o, A = some ⟨b, o, none⟩ ∧ b < B ∧ ∀ (i : Nat) (hi : i < fs.length) (W : World), W.heap[b]? = w.heap[b]? → W.cell? ⟨b, o + i, none⟩ = some (.slice fs[i].a fs[i].n fs[i].c) := by
  obtain ⟨b, o, e, hb, hc⟩ := h.cells sfc_length h0
  refine ⟨b, o, e, hb, fun i hi W hW => ?_⟩
  have := hc i hi 0 (by omega)
  rw [Nat.mul_one, Nat.add_zero] at this
  rw [World.cell?_of_block (w := w) (a := ⟨b, o + i, none⟩) hW, this]
  rfl
/-- What they tell. -/
def Fof (fs : List SF) : List Fam := fs.map fun p => gF p.g
theorem Fof_snoc {fs : List SF} {i : Nat} (hi : i < fs.length) : Fof (fs.take (i + 1)) = Fof (fs.take i) ++ [gF fs[i].g] := by
  unfold Fof
  rw [List.take_succ_eq_append_getElem hi, List.map_append]
  rfl
/-- Which family is the one that gives way among the first of them. -/
def Bst (k : Ky) (su : Int) (fs : List SF) (j : Nat) (b : Int) : Prop :=
  (b = -1 ∧ (Fof (fs.take j)).foldl (vstep k su) none = none) ∨ ∃ i : Nat, ∃ hi : i < fs.length, i < j ∧ b = (i : Int) ∧ (Fof (fs.take j)).foldl (vstep k su) none = some (gF fs[i].g)
theorem Bst.start (k : Ky) (su : Int) (fs : List SF) : Bst k su fs 0 (-1) := .inl ⟨rfl, by simp [Fof]⟩
theorem Bst.fold {k : Ky} {su : Int} {fs : List SF} {j : Nat} (hj : j < fs.length) : (Fof (fs.take (j + 1))).foldl (vstep k su) none = vstep k su ((Fof (fs.take j)).foldl (vstep k su) none) (gF fs[j].g) := by
  rw [Fof_snoc hj, List.foldl_append]; rfl
theorem Bst.stay {k : Ky} {su : Int} {fs : List SF} {j : Nat} {b : Int} (hj : j < fs.length) (h : Bst k su fs j b) (hg : gives14 k su (gF fs[j].g) = false) : Bst k su fs (j + 1) b := by
  rcases h with ⟨h1, h2⟩ | ⟨i, hi, hij, h1, h2⟩
  · exact .inl ⟨h1, by rw [Bst.fold hj, h2, vstep_none hg]⟩
  · exact .inr ⟨i, hi, by omega, h1, by rw [Bst.fold hj, h2, vstep_none hg]⟩
theorem Bst.take {k : Ky} {su : Int} {fs : List SF} {j : Nat} (hj : j < fs.length) (hg : gives14 k su (gF fs[j].g) = true) (hb : beats14 ((Fof (fs.take j)).foldl (vstep k su) none) (gF fs[j].g) = true) : Bst k su fs (j + 1) (j : Int) :=
  .inr ⟨j, hj, by omega, rfl, by rw [Bst.fold hj, vstep_some hg hb]⟩
theorem Bst.keep {k : Ky} {su : Int} {fs : List SF} {j i : Nat} (hj : j < fs.length) (hi : i < fs.length) (hij : i < j) (h2 : (Fof (fs.take j)).foldl (vstep k su) none = some (gF fs[i].g)) (hw : worse14 (gF fs[j].g) (gF fs[i].g) = false) : Bst k su fs (j + 1) (i : Int) := by
  refine .inr ⟨i, hi, by omega, rfl, ?_⟩
  rw [Bst.fold hj, h2]
  exact vstep_stay hw
set_option maxHeartbeats 3200000 in
theorem next14_calls (A : Option Addr) (m cap : Nat) (fs : List SF) (x : Et) (w : World) (hr : Row sfc w w.heap.size A m fs) (hf : Sfs w w.heap.size fs) (hm : m ≤ 1024) :
    Calls Tryz.prog 37 #[.slice A m cap, .agg (ent x).toArray] w fun e w' => ∃ r : Int, e = .returned (.int .i64 r) ∧ Bst x.k x.w.su fs fs.length r ∧ Below w.heap.size w w' := by
  have HLEN := Lib.hid hr.1
  have HR := Lib.hid hr
  have HF := Lib.hid hf
  have HIN := Lib.hid (show (Tryz.prog.info? 77).map (·.size) = some (ent x).length from infoEntC14)
  have L1 := Lib.hid (bel_new (Below.refl w.heap.size w) (.cells (ent x).toArray 77))
  have B1 := Lib.hid (Blk.new w 77 (ent x))
  clear hr hf
  go_enter Tryz.func37, Tryz.ntmps37
  go_upto_region 1 with fail
  generalize w.alloc (.cells (ent x).toArray 77) = w1 at *
  go_wp2_with fail
  go_loopw [5, 10] (fun s t wr => ∃ (j : Nat) (b : Int), j ≤ m ∧ s = .int .i64 b ∧ t = .int .i64 (j : Int) ∧ Bst x.k x.w.su fs j b ∧ Below w1.heap.size w1 wr) (fun s t wr => m - (intOf t).toNat)
  case atStart => exact ⟨0, -1, by omega, rfl, rfl, Bst.start _ _ _, Below.refl _ _⟩
  case round =>
    obtain ⟨j, bi, hj, rfl, rfl, hbst, hbl⟩ := hrel
    have HBS := Lib.hid hbst
    have HBL := Lib.hid hbl
    have HB := Lib.hid (L1.out.trans (hbl.mono L1.out.size))
    clear hbst hbl
    by_cases hlt : j < m
    · obtain ⟨b, o, rfl, hbw, hcell⟩ := row_sf HR.out (by omega)
      have hjl : j < fs.length := by have := HLEN.out; omega
      have cj := hcell j hjl wr (HB.out.block b hbw)
      obtain ⟨hrow, hp0, hpn, hpc⟩ := HF.out fs[j] (List.getElem_mem hjl)
      have hpre := preempt14_calls fs[j].a fs[j].n fs[j].c fs[j].g x wr ((hrow.below HB.out).more HB.out.size) (by omega) hp0
      unfold Yes14 at hpre
      have HST := Lib.hid (fun hg => HBS.out.stay hjl hg)
      have HTK := Lib.hid (fun hg hb => Bst.take (k := x.k) (su := x.w.su) hjl hg hb)
      have HKP := Lib.hid (fun i hi hij h2 hw => Bst.keep (k := x.k) (su := x.w.su) (i := i) hjl hi hij h2 hw)
      obtain ⟨p, hp⟩ : ∃ p, fs[j] = p := ⟨_, rfl⟩
      rw [hp] at cj hrow hp0 hpn hpc hpre
      simp only [hp] at HST HTK HKP
      have hsoon := fun (q : SF) (W : World) (hq : q ∈ fs) (hW : Below w.heap.size w W) => sooner14_calls p.a q.a p.n p.c q.n q.c p.g q.g W ((hrow.below hW).more hW.size) (((HF.out q hq).1.below hW).more hW.size) (by omega) (by have := (HF.out q hq).2; omega) hp0 (HF.out q hq).2.1
      obtain ⟨gv, hgv⟩ : ∃ gv, gives14 x.k x.w.su (gF p.g) = gv := ⟨_, rfl⟩
      rw [hgv] at hpre HST HTK
      have HP := Lib.hid hpre
      have HSO := Lib.hid hsoon
      have HCE := Lib.hid hcell
      have HBW := Lib.hid hbw
      have BX := Lib.hid (B1.out.below HBL.out)
      have i1 : (j : Int) < (m : Int) := by omega
      have i2 : IntKind.i64.wrap ((j : Int) + 1) = ((j + 1 : Nat) : Int) := by rw [IntWalk.i64_in _ (by omega)]; omega
      have HJ := Lib.hid (And.intro hlt hjl)
      clear hcell hrow hp0 hpn hpc hpre hsoon hp hgv hbw hj hlt hjl
      go_wp2_with ((with_reducible refine step_load_want (o := ⟨some 16, _, _, _, _, _⟩) (x := .tmp 3) ?_ ?_ ?_ BX.out Tryz.underlying77 ?_ HIN.out ?_); (rfl); (rfl); (rfl); (rfl))
      ((with_reducible refine HP.out.mono ?_))
      rintro e w2 ⟨rfl, hb⟩
      have L2 := Lib.hid (HBL.out.trans (hb.mono HBL.out.size))
      have H2 := Lib.hid (HB.out.trans (hb.mono HB.out.size))
      clear hb cj BX HP
      cases gv with
      | false =>
        have NB := Lib.hid (HST.out rfl)
        go_wp2_with fail
        go_roundw
        case rel => exact ⟨j + 1, bi, by have := HJ.out; omega, rfl, by first | rfl | (simp; omega), NB.out, L2.out⟩
        case measure => have := HJ.out; simp [intOf]; omega
      | true =>
        rcases HBS.out with ⟨rfl, h2⟩ | ⟨i, hi, hij, rfl, h2⟩
        · have NB := Lib.hid (HTK.out rfl (by rw [h2]; rfl))
          clear h2
          go_wp2_with fail
          go_roundw
          case rel => exact ⟨j + 1, (j : Int), by have := HJ.out; omega, rfl, by first | rfl | (simp; omega), NB.out, L2.out⟩
          case measure => have := HJ.out; simp [intOf]; omega
        · have g1 : ¬ (i : Int) < 0 := by omega
          have g2 : (i : Int) < (m : Int) := by have := HJ.out; omega
          have ci := HCE.out i hi w2 (H2.out.block b HBW.out)
          have hs := HSO.out fs[i] w2 (List.getElem_mem hi) H2.out
          have hgt := soonF_gt (gF p.g) (gF fs[i].g)
          have HYES := Lib.hid (fun h => HTK.out rfl (by rw [h2]; exact h))
          have HNO := Lib.hid (fun h => HKP.out i hi hij h2 h)
          obtain ⟨q, hq⟩ : ∃ q, fs[i] = q := ⟨_, rfl⟩
          rw [hq] at ci hs hgt
          simp only [hq] at HYES HNO
          obtain ⟨r, hr⟩ : ∃ r, soonF (gF p.g) (gF q.g) = r := ⟨_, rfl⟩
          rw [hr] at hs hgt
          have HS := Lib.hid hs
          obtain ⟨d, hd⟩ : ∃ d, decide (0 < r) = d := ⟨_, rfl⟩
          rw [hd] at hgt
          have HGT := Lib.hid hgt
          clear hs hgt hq hr h2
          go_wp2_with fail
          ((with_reducible refine HS.out.mono ?_))
          rintro e w3 ⟨rfl, hb⟩
          have L3 := Lib.hid (L2.out.trans (hb.mono L2.out.size))
          clear hb ci HS
          cases d with
          | true =>
            have NB := Lib.hid (HYES.out HGT.out.symm)
            go_wp2_with fail
            go_roundw
            case rel => exact ⟨j + 1, (j : Int), by have := HJ.out; omega, rfl, by first | rfl | (simp; omega), NB.out, L3.out⟩
            case measure => have := HJ.out; simp [intOf]; omega
          | false =>
            have NB := Lib.hid (HNO.out HGT.out.symm)
            go_wp2_with fail
            go_roundw
            case rel => exact ⟨j + 1, (i : Int), by have := HJ.out; omega, rfl, by first | rfl | (simp; omega), NB.out, L3.out⟩
            case measure => have := HJ.out; simp [intOf]; omega
    · have i1 : ¬ (j : Int) < (m : Int) := by omega
      have hjm : j = fs.length := by have := HLEN.out; omega
      have HB2 := Lib.hid (show Bst x.k x.w.su fs fs.length bi by rw [← hjm]; exact HBS.out)
      clear hjm hj hlt
      go_wp2_with fail
      go_ret
      exact ⟨bi, rfl, HB2.out, HB.out⟩

/-- A ledger is loaded in a region whose order is drawn. -/
theorem way_load14 {P : Program} {ops : Array Oper} {Q : Exit → Act → World → Prop} {S : World → Prop} {i : Nat} {r : Way} {a : Act} {w : World} {o : Oper} {x : Operand} {ty t : TypeId} {g : Nat} {vs : List Value} {d : TypeDesc}
    (ho : ops.toList[i]? = some o) (hw : Region.wanted o (yielded ops a.tmps) = true) (hop : o.op = .load ty x) (hx : a.eval x = .pointer (some ⟨g, 0, none⟩)) (hb : ∀ W, S W → Blk W g t vs) (hu : P.underlying ty = some d) (hd : d.isRow = true) (hi : (P.info? ty).map (·.size) = some vs.length)
    (h : wpWay P ops Q S r (a.put o.dst (.agg vs.toArray)) w) : wpWay P ops Q S (.step i true r) a w :=
  ⟨o, _, by rw [← Array.getElem?_toList]; exact ho, yieldsIf_load_mid hw ty x hop g 0 hx vs d (fun W hW => (hb W hW).range) hu hd hi, h⟩
/-- What the families together hold. -/
def bookL (sz : Nat) (F : List Fam) : Lg := if fsum F ≤ sz then ledgOf sz F else lz
theorem ledgOf_snoc (sz : Nat) (F : List Fam) (f : Fam) : ledgOf sz (F ++ [f]) = lstep (ledgOf sz F) f := by unfold ledgOf; rw [List.foldl_append]; rfl
theorem put_step {sz : Nat} {F : List Fam} {f : Fam} (hF : ∀ f ∈ F, 0 ≤ f.ho ∧ f.ho ≤ 7) (hf : 0 ≤ f.ho ∧ f.ho ≤ 7) (h : fsum F ≤ sz) :
    lPut (ledgOf sz F) f.ho f.bw = if fsum (F ++ [f]) ≤ sz then (ledgOf sz (F ++ [f]), 0) else (lz, 14) := by
  obtain ⟨h1, h2, h3⟩ := ledgOf_sum (size := sz) hF
  have hr : lRight (ledgOf sz F) = true := decide_eq_true (by rw [h1, h3]; exact h)
  unfold lPut
  rw [if_pos ⟨hf, hr⟩, h1, h3, fsum_snoc, ledgOf_snoc]
  unfold lstep
  rw [h3]
set_option maxHeartbeats 6400000 in
theorem book14_calls (sz : Nat) (hsz : sz < 18446744073709551616) (A : Option Addr) (m cap : Nat) (fs : List SF) (w : World) (hr : Row sfc w w.heap.size A m fs) (hf : Sfs w w.heap.size fs) (hm : m ≤ 1024) (hF : ∀ f ∈ Fof fs, 0 ≤ f.ho ∧ f.ho ≤ 7) (hbw : ∀ f ∈ Fof fs, f.bw < 18446744073709551616) :
    Calls Tryz.prog 14 #[.int .u64 (sz : Int), .slice A m cap] w fun e w' => e = .returned (.tuple #[.agg (lgc (bookL sz (Fof fs))).toArray, .bool (decide (fsum (Fof fs) ≤ sz))]) ∧ Below w.heap.size w w' := by
  have HLEN := Lib.hid hr.1
  have HR := Lib.hid hr
  have HF := Lib.hid hf
  have HFO := Lib.hid (And.intro hF hbw)
  have hsub : ∀ j, ∀ f ∈ Fof (fs.take j), 0 ≤ f.ho ∧ f.ho ≤ 7 := fun j f hfm => hF f (by
    unfold Fof at hfm ⊢
    exact List.mem_map.2 (by obtain ⟨p, hp, e⟩ := List.mem_map.1 hfm; exact ⟨p, List.mem_of_mem_take hp, e⟩))
  have HSUB := Lib.hid hsub
  have hok : ∀ j, fsum (Fof (fs.take j)) ≤ sz → LgOk (ledgOf sz (Fof (fs.take j))) := fun j h => ledgOf_ok (hsub j) hsz (by omega)
  have HOK := Lib.hid hok
  have hmono : ∀ j, fsum (Fof (fs.take j)) ≤ fsum (Fof fs) := by
    intro j
    have e : Fof fs = Fof (fs.take j) ++ Fof (fs.drop j) := by unfold Fof; rw [← List.map_append, List.take_append_drop]
    rw [e]
    unfold fsum
    rw [List.map_append, List.sum_append]; omega
  have HMO := Lib.hid hmono
  have hz : (Tryz.prog.info? 38).map (·.size) = some ([.int .u64 0, .int .u64 0, .int .u64 0, .int .u64 0, .int .u64 0, .int .u64 0, .int .u64 0, .int .u64 0, .int .u64 0] : List Value).length := infoLedgL
  have HZ := Lib.hid hz
  have HZ1 := Lib.hid (show ∀ u ∈ ([.int .u64 0, .int .u64 0, .int .u64 0, .int .u64 0, .int .u64 0, .int .u64 0, .int .u64 0, .int .u64 0, .int .u64 0] : List Value), u.oneCell' = true from lgc_one lz)
  have hi1 : ∀ u ∈ ([.int .u64 (sz : Int), .int .u64 0, .int .u64 0, .int .u64 0, .int .u64 0, .int .u64 0, .int .u64 0, .int .u64 0, .int .u64 0] : List Value), u.oneCell' = true := lgc_one ⟨sz, [0, 0, 0, 0, 0, 0, 0, 0]⟩
  have HI1 := Lib.hid hi1
  have hN : ∀ l, LgOk l → (Tryz.prog.info? 38).map (·.size) = some (lgc l).length := fun l h => by rw [lgc_length h]; exact infoLedgL
  have HN := Lib.hid hN
  have L1 := Lib.hid (bel_new (Below.refl w.heap.size w) (.cells #[.int .u64 0, .int .u64 0, .int .u64 0, .int .u64 0, .int .u64 0, .int .u64 0, .int .u64 0, .int .u64 0, .int .u64 0] 38))
  have B1 := Lib.hid (show Blk (w.alloc (.cells #[.int .u64 0, .int .u64 0, .int .u64 0, .int .u64 0, .int .u64 0, .int .u64 0, .int .u64 0, .int .u64 0, .int .u64 0] 38)) w.heap.size 38 [.int .u64 0, .int .u64 0, .int .u64 0, .int .u64 0, .int .u64 0, .int .u64 0, .int .u64 0, .int .u64 0, .int .u64 0] from Blk.new w _ _)
  have S1 := Lib.hid (show (w.alloc (.cells #[.int .u64 0, .int .u64 0, .int .u64 0, .int .u64 0, .int .u64 0, .int .u64 0, .int .u64 0, .int .u64 0, .int .u64 0] 38)).heap.size = w.heap.size + 1 by simp)
  clear hr hf hF hbw hsub hok hmono hz hi1 hN
  go_enter Tryz.func14, Tryz.ntmps14
  go_upto_region 1 with fail
  generalize w.alloc (.cells #[.int .u64 0, .int .u64 0, .int .u64 0, .int .u64 0, .int .u64 0, .int .u64 0, .int .u64 0, .int .u64 0, .int .u64 0] 38) = w1 at *
  have hb2 : Blk (w1.alloc (.cells #[.int .u64 (sz : Int), .int .u64 0, .int .u64 0, .int .u64 0, .int .u64 0, .int .u64 0, .int .u64 0, .int .u64 0, .int .u64 0] 38)) w1.heap.size 38 [.int .u64 (sz : Int), .int .u64 0, .int .u64 0, .int .u64 0, .int .u64 0, .int .u64 0, .int .u64 0, .int .u64 0, .int .u64 0] := Blk.new w1 _ _
  have hb4 := B1.out.alloc (.cells #[.int .u64 (sz : Int), .int .u64 0, .int .u64 0, .int .u64 0, .int .u64 0, .int .u64 0, .int .u64 0, .int .u64 0, .int .u64 0] 38)
  have hl2 := bel_new L1.out (.cells #[.int .u64 (sz : Int), .int .u64 0, .int .u64 0, .int .u64 0, .int .u64 0, .int .u64 0, .int .u64 0, .int .u64 0, .int .u64 0] 38)
  go_upto_region 2 with fail
  generalize w1.alloc (.cells #[.int .u64 (sz : Int), .int .u64 0, .int .u64 0, .int .u64 0, .int .u64 0, .int .u64 0, .int .u64 0, .int .u64 0, .int .u64 0] 38) = w2 at *
  rw [S1.out] at hb2
  have B2 := Lib.hid (show Blk w2 (w.heap.size + 1) 38 (lgc (ledgOf sz (Fof (fs.take 0)))) from hb2)
  have B4 := Lib.hid hb4
  have L2 := Lib.hid hl2
  rw [S1.out]
  clear hb2 hb4 hl2 B1 L1 S1
  go_wp2_with fail
  go_loopw [15] (fun t wr => ∃ j : Nat, j ≤ m ∧ t = .int .i64 (j : Int) ∧ fsum (Fof (fs.take j)) ≤ sz ∧ Blk wr (w.heap.size + 1) 38 (lgc (ledgOf sz (Fof (fs.take j)))) ∧ Blk wr w.heap.size 38 [.int .u64 0, .int .u64 0, .int .u64 0, .int .u64 0, .int .u64 0, .int .u64 0, .int .u64 0, .int .u64 0, .int .u64 0] ∧ Below w.heap.size w wr) (fun t wr => m - (intOf t).toNat)
  case atStart => exact ⟨0, by omega, rfl, by simp [Fof, fsum], B2.out, B4.out, L2.out⟩
  case round =>
    clear B2 B4 L2
    obtain ⟨j, hj, rfl, hfit, hb6, hb4, hbl⟩ := hrel
    have HFIT := Lib.hid hfit
    have B6 := Lib.hid hb6
    have B4 := Lib.hid hb4
    have HB := Lib.hid hbl
    clear hb6 hb4 hbl
    by_cases hlt : j < m
    · obtain ⟨b, o, rfl, hbw, hcell⟩ := row_sf HR.out (by omega)
      have hjl : j < fs.length := by have := HLEN.out; omega
      have cj := hcell j hjl wr (HB.out.block b hbw)
      obtain ⟨hrow, hp0, hpn, hpc⟩ := HF.out fs[j] (List.getElem_mem hjl)
      have hsn := Fof_snoc hjl
      have hfm : gF fs[j].g ∈ Fof fs := List.mem_map.2 ⟨fs[j], List.getElem_mem hjl, rfl⟩
      obtain ⟨hfo, hfb⟩ := And.intro (HFO.out.1 _ hfm) (HFO.out.2 _ hfm)
      have hput := put_step (HSUB.out j) hfo hfit
      rw [← hsn] at hput
      obtain ⟨p, hp⟩ : ∃ p, fs[j] = p := ⟨_, rfl⟩
      rw [hp] at cj hrow hp0 hpn hpc hfo hfb hput hsn
      have hlok := HOK.out j hfit
      obtain ⟨l, hl⟩ : ∃ l, ledgOf sz (Fof (fs.take j)) = l := ⟨_, rfl⟩
      rw [hl] at B6 hput hlok
      obtain ⟨R, hR⟩ : ∃ R, lPut l (gF p.g).ho (gF p.g).bw = R := ⟨_, rfl⟩
      have hpu := putok13 l hlok (gF p.g).ho (by omega) (by omega) (gF p.g).bw hfb
      have hRok : LgOk R.1 := by rw [← hR]; exact lPut_ok hlok _ _
      rw [hR] at hput hpu
      unfold Lgn13 at hpu
      have hpr := fun (W : World) (hW : Below wr.heap.size wr W) => pri14_calls p.a p.n p.c p.g W ((hrow.below (HB.out.trans (hW.mono HB.out.size))).more (HB.out.trans (hW.mono HB.out.size)).size) (by omega) hp0
      have hba := fun (W : World) (hW : Below wr.heap.size wr W) => ban14_calls p.a p.n p.c p.g W ((hrow.below (HB.out.trans (hW.mono HB.out.size))).more (HB.out.trans (hW.mono HB.out.size)).size) (by omega) hp0
      have HPR := Lib.hid hpr
      have HBA := Lib.hid hba
      have HPU := Lib.hid hpu
      have HPT := Lib.hid hput
      have HNL := Lib.hid (HN.out l hlok)
      have HNR := Lib.hid (HN.out R.1 hRok)
      have HZR := Lib.hid (show ([.int .u64 0, .int .u64 0, .int .u64 0, .int .u64 0, .int .u64 0, .int .u64 0, .int .u64 0, .int .u64 0, .int .u64 0] : List Value).length = (lgc R.1).length by rw [lgc_length hRok]; rfl)
      have HLR := Lib.hid (show (lgc l).length = (lgc R.1).length by rw [lgc_length hRok, lgc_length hlok])
      have HOR := Lib.hid (lgc_one R.1)
      have i1 : (j : Int) < (m : Int) := by omega
      have i2 : IntKind.i64.wrap ((j : Int) + 1) = ((j + 1 : Nat) : Int) := by rw [IntWalk.i64_in _ (by omega)]; omega
      have HJ := Lib.hid hlt
      clear hcell hrow hp0 hpn hpc hfo hfb hput hsn hp hlok hl hR hpu hpr hba hRok hbw hj hlt hjl hfit hfm
      go_upto_region 5 with fail
      go_cut [9, 10] from 16 to 32 (fun s t W => ∃ b : Nat, s = .pointer (some ⟨b, 0, none⟩) ∧ t = .int .i64 R.2 ∧ Blk W b 38 (lgc R.1) ∧ Blk W (w.heap.size + 1) 38 (lgc l) ∧ Blk W w.heap.size 38 [.int .u64 0, .int .u64 0, .int .u64 0, .int .u64 0, .int .u64 0, .int .u64 0, .int .u64 0, .int .u64 0, .int .u64 0] ∧ Below w.heap.size w W ∧ w.heap.size + 1 < b ∧ w.heap.size < b)
      case first =>
        refine region_way (fun W => Below wr.heap.size wr W) (.step 0 true (.step 1 true (.step 3 true (.both 2 9 (.both 4 9 (.both 5 9 (.step 6 true (.step 7 true (.step 8 true (.step 9 false (.step 10 false (.step 11 true .done)))))) (.step 5 false (.step 6 true (.step 7 true (.step 8 true (.step 10 false (.step 11 true .done))))))) (.step 4 false (.step 5 false (.step 6 true (.step 7 true (.step 8 true (.step 10 false (.step 11 true .done)))))))) (.step 2 false (.step 4 false (.step 5 false (.step 6 true (.step 7 true (.step 8 true (.step 10 false (.step 11 true .done))))))))))))
          (by kernel_rfl) (by kernel_rfl) (by kernel_rfl) (by kernel_rfl) (fun _ _ _ _ _ h => h) (Below.refl _ _).drew ?_
        repeat first
          | refine way_load14 (x := .tmp 6) rfl (by rfl) rfl rfl (fun W hW => B6.out.below hW) Tryz.underlying38 rfl HNL.out ?_
            simp only [Act.put, List.setIfInBounds_toArray, List.set_cons_zero, List.set_cons_succ]
          | refine way_pure (v := ?_) rfl (by rfl) (fun W hW => ?_) ?_
            rotate_left
            · clear hW
              go_simp
              with_reducible rfl
            simp only [Act.put, List.setIfInBounds_toArray, List.set_cons_zero, List.set_cons_succ]
        have hbd : Below wr.heap.size wr wr.drew := (Below.refl _ _).drew
        generalize wr.drew = v2 at hbd ⊢
        have SBv2 := Lib.hid hbd
        clear hbd
        refine way_both rfl (by rfl) rfl (by rfl) (fun K hK => ?_) (fun K hK => ?_)
        · skip
          go_simp
          ((with_reducible refine (HPR.out v2 SBv2.out).mono ?_))
          rintro e v3 ⟨rfl, hb⟩
          have SBv3 := Lib.hid (show Below wr.heap.size wr v3 from SBv2.out.trans (hb.mono SBv2.out.size))
          clear hb
          go_simp
          refine hK _ _ (fun W => Below wr.heap.size wr W) (fun W h => h) SBv3.out ?_
          clear hK K
          refine way_both rfl (by rfl) rfl (by rfl) (fun K hK => ?_) (fun K hK => ?_)
          · skip
            go_simp
            ((with_reducible refine (HBA.out v3 SBv3.out).mono ?_))
            rintro e v4 ⟨rfl, hb⟩
            have SBv4 := Lib.hid (show Below wr.heap.size wr v4 from SBv3.out.trans (hb.mono SBv3.out.size))
            clear hb
            go_simp
            refine hK _ _ (fun W => Below wr.heap.size wr W) (fun W h => h) SBv4.out ?_
            clear hK K
            refine way_both rfl (by rfl) rfl (by rfl) (fun K hK => ?_) (fun K hK => ?_)
            · skip
              go_simp
              ((with_reducible refine (HPU.out v4).mono ?_))
              rintro e v5 ⟨rfl, hb⟩
              have SBv5 := Lib.hid (show Below wr.heap.size wr v5 from SBv4.out.trans (hb.mono SBv4.out.size))
              clear hb
              go_simp
              refine hK _ _ (fun W => Below wr.heap.size wr W) (fun W h => h) SBv5.out ?_
              clear hK K
              repeat first
                | refine way_load14 (x := .tmp 6) rfl (by rfl) rfl rfl (fun W hW => B6.out.below hW) Tryz.underlying38 rfl HNL.out ?_
                  simp only [Act.put, List.setIfInBounds_toArray, List.set_cons_zero, List.set_cons_succ]
                | refine way_pure (v := ?_) rfl (by rfl) (fun W hW => ?_) ?_
                  rotate_left
                  · clear hW
                    go_simp
                    with_reducible rfl
                  simp only [Act.put, List.setIfInBounds_toArray, List.set_cons_zero, List.set_cons_succ]
              refine way_make rfl (by rfl) (fun K hK => ?_)
              go_simp
              have hbn : Below v5.heap.size v5 (v5.alloc (.cells #[.int .u64 0, .int .u64 0, .int .u64 0, .int .u64 0, .int .u64 0, .int .u64 0, .int .u64 0, .int .u64 0, .int .u64 0] 38)) := bel_new (Below.refl _ _) _
              have hpn : Blk (v5.alloc (.cells #[.int .u64 0, .int .u64 0, .int .u64 0, .int .u64 0, .int .u64 0, .int .u64 0, .int .u64 0, .int .u64 0, .int .u64 0] 38)) v5.heap.size 38 [.int .u64 0, .int .u64 0, .int .u64 0, .int .u64 0, .int .u64 0, .int .u64 0, .int .u64 0, .int .u64 0, .int .u64 0] := Blk.new _ _ _
              have hqn : wr.heap.size ≤ v5.heap.size := SBv5.out.size
              generalize v5.alloc (.cells #[.int .u64 0, .int .u64 0, .int .u64 0, .int .u64 0, .int .u64 0, .int .u64 0, .int .u64 0, .int .u64 0, .int .u64 0] 38) = v6 at *
              have SBv6 := Lib.hid (show Below wr.heap.size wr v6 from SBv5.out.trans (hbn.mono SBv5.out.size))
              generalize v5.heap.size = qN at *
              have Nv6 := Lib.hid hpn
              have QN := Lib.hid hqn
              clear hbn hpn hqn
              refine hK _ _ (fun W => Below wr.heap.size wr W) (fun W h => h) SBv6.out ?_
              clear hK K
              refine way_make rfl (by rfl) (fun K hK => ?_)
              refine wp_store8 (vs := lgc R.1) rfl rfl rfl Nv6.out HNR.out HZR.out HOR.out ?_
              intro v7 hbs hgs hss
              have SBv7 := Lib.hid (show Below wr.heap.size wr v7 from bel_upd SBv6.out hgs (Nat.le_refl _) QN.out)
              have Nv7 := Lib.hid hbs
              clear hbs hgs hss
              refine hK _ _ (fun W => Below wr.heap.size wr W) (fun W h => h) SBv7.out ?_
              clear hK K
              repeat first
                | refine way_load14 (x := .tmp 6) rfl (by rfl) rfl rfl (fun W hW => B6.out.below hW) Tryz.underlying38 rfl HNL.out ?_
                  simp only [Act.put, List.setIfInBounds_toArray, List.set_cons_zero, List.set_cons_succ]
                | refine way_pure (v := ?_) rfl (by rfl) (fun W hW => ?_) ?_
                  rotate_left
                  · clear hW
                    go_simp
                    with_reducible rfl
                  simp only [Act.put, List.setIfInBounds_toArray, List.set_cons_zero, List.set_cons_succ]
              refine way_done ?_
              go_wp2_with fail
              go_meet
              exact ⟨_, rfl, rfl, Nv7.out, B6.out.below SBv7.out, B4.out.below SBv7.out, HB.out.trans (SBv7.out.mono HB.out.size), by have := B6.out.lt; have := QN.out; omega, by have := B4.out.lt; have := QN.out; omega⟩
            · skip
              go_simp
              have hbn : Below v4.heap.size v4 (v4.alloc (.cells #[.int .u64 0, .int .u64 0, .int .u64 0, .int .u64 0, .int .u64 0, .int .u64 0, .int .u64 0, .int .u64 0, .int .u64 0] 38)) := bel_new (Below.refl _ _) _
              have hpn : Blk (v4.alloc (.cells #[.int .u64 0, .int .u64 0, .int .u64 0, .int .u64 0, .int .u64 0, .int .u64 0, .int .u64 0, .int .u64 0, .int .u64 0] 38)) v4.heap.size 38 [.int .u64 0, .int .u64 0, .int .u64 0, .int .u64 0, .int .u64 0, .int .u64 0, .int .u64 0, .int .u64 0, .int .u64 0] := Blk.new _ _ _
              have hqn : wr.heap.size ≤ v4.heap.size := SBv4.out.size
              generalize v4.alloc (.cells #[.int .u64 0, .int .u64 0, .int .u64 0, .int .u64 0, .int .u64 0, .int .u64 0, .int .u64 0, .int .u64 0, .int .u64 0] 38) = v8 at *
              have SBv8 := Lib.hid (show Below wr.heap.size wr v8 from SBv4.out.trans (hbn.mono SBv4.out.size))
              generalize v4.heap.size = qN at *
              have Nv8 := Lib.hid hpn
              have QN := Lib.hid hqn
              clear hbn hpn hqn
              refine hK _ _ (fun W => Below wr.heap.size wr W) (fun W h => h) SBv8.out ?_
              clear hK K
              refine way_make rfl (by rfl) (fun K hK => ?_)
              go_simp
              ((with_reducible refine (HPU.out v8).mono ?_))
              rintro e v9 ⟨rfl, hb⟩
              have SBv9 := Lib.hid (show Below wr.heap.size wr v9 from SBv8.out.trans (hb.mono SBv8.out.size))
              have Nv9 := Lib.hid (Nv8.out.below hb)
              clear hb
              go_simp
              refine hK _ _ (fun W => Below wr.heap.size wr W) (fun W h => h) SBv9.out ?_
              clear hK K
              repeat first
                | refine way_load14 (x := .tmp 6) rfl (by rfl) rfl rfl (fun W hW => B6.out.below hW) Tryz.underlying38 rfl HNL.out ?_
                  simp only [Act.put, List.setIfInBounds_toArray, List.set_cons_zero, List.set_cons_succ]
                | refine way_pure (v := ?_) rfl (by rfl) (fun W hW => ?_) ?_
                  rotate_left
                  · clear hW
                    go_simp
                    with_reducible rfl
                  simp only [Act.put, List.setIfInBounds_toArray, List.set_cons_zero, List.set_cons_succ]
              refine way_make rfl (by rfl) (fun K hK => ?_)
              refine wp_store8 (vs := lgc R.1) rfl rfl rfl Nv9.out HNR.out HZR.out HOR.out ?_
              intro v10 hbs hgs hss
              have SBv10 := Lib.hid (show Below wr.heap.size wr v10 from bel_upd SBv9.out hgs (Nat.le_refl _) QN.out)
              have Nv10 := Lib.hid hbs
              clear hbs hgs hss
              refine hK _ _ (fun W => Below wr.heap.size wr W) (fun W h => h) SBv10.out ?_
              clear hK K
              repeat first
                | refine way_load14 (x := .tmp 6) rfl (by rfl) rfl rfl (fun W hW => B6.out.below hW) Tryz.underlying38 rfl HNL.out ?_
                  simp only [Act.put, List.setIfInBounds_toArray, List.set_cons_zero, List.set_cons_succ]
                | refine way_pure (v := ?_) rfl (by rfl) (fun W hW => ?_) ?_
                  rotate_left
                  · clear hW
                    go_simp
                    with_reducible rfl
                  simp only [Act.put, List.setIfInBounds_toArray, List.set_cons_zero, List.set_cons_succ]
              refine way_done ?_
              go_wp2_with fail
              go_meet
              exact ⟨_, rfl, rfl, Nv10.out, B6.out.below SBv10.out, B4.out.below SBv10.out, HB.out.trans (SBv10.out.mono HB.out.size), by have := B6.out.lt; have := QN.out; omega, by have := B4.out.lt; have := QN.out; omega⟩
          · skip
            go_simp
            have hbn : Below v3.heap.size v3 (v3.alloc (.cells #[.int .u64 0, .int .u64 0, .int .u64 0, .int .u64 0, .int .u64 0, .int .u64 0, .int .u64 0, .int .u64 0, .int .u64 0] 38)) := bel_new (Below.refl _ _) _
            have hpn : Blk (v3.alloc (.cells #[.int .u64 0, .int .u64 0, .int .u64 0, .int .u64 0, .int .u64 0, .int .u64 0, .int .u64 0, .int .u64 0, .int .u64 0] 38)) v3.heap.size 38 [.int .u64 0, .int .u64 0, .int .u64 0, .int .u64 0, .int .u64 0, .int .u64 0, .int .u64 0, .int .u64 0, .int .u64 0] := Blk.new _ _ _
            have hqn : wr.heap.size ≤ v3.heap.size := SBv3.out.size
            generalize v3.alloc (.cells #[.int .u64 0, .int .u64 0, .int .u64 0, .int .u64 0, .int .u64 0, .int .u64 0, .int .u64 0, .int .u64 0, .int .u64 0] 38) = v11 at *
            have SBv11 := Lib.hid (show Below wr.heap.size wr v11 from SBv3.out.trans (hbn.mono SBv3.out.size))
            generalize v3.heap.size = qN at *
            have Nv11 := Lib.hid hpn
            have QN := Lib.hid hqn
            clear hbn hpn hqn
            refine hK _ _ (fun W => Below wr.heap.size wr W) (fun W h => h) SBv11.out ?_
            clear hK K
            refine way_make rfl (by rfl) (fun K hK => ?_)
            go_simp
            ((with_reducible refine (HBA.out v11 SBv11.out).mono ?_))
            rintro e v12 ⟨rfl, hb⟩
            have SBv12 := Lib.hid (show Below wr.heap.size wr v12 from SBv11.out.trans (hb.mono SBv11.out.size))
            have Nv12 := Lib.hid (Nv11.out.below hb)
            clear hb
            go_simp
            refine hK _ _ (fun W => Below wr.heap.size wr W) (fun W h => h) SBv12.out ?_
            clear hK K
            refine way_make rfl (by rfl) (fun K hK => ?_)
            go_simp
            ((with_reducible refine (HPU.out v12).mono ?_))
            rintro e v13 ⟨rfl, hb⟩
            have SBv13 := Lib.hid (show Below wr.heap.size wr v13 from SBv12.out.trans (hb.mono SBv12.out.size))
            have Nv13 := Lib.hid (Nv12.out.below hb)
            clear hb
            go_simp
            refine hK _ _ (fun W => Below wr.heap.size wr W) (fun W h => h) SBv13.out ?_
            clear hK K
            repeat first
              | refine way_load14 (x := .tmp 6) rfl (by rfl) rfl rfl (fun W hW => B6.out.below hW) Tryz.underlying38 rfl HNL.out ?_
                simp only [Act.put, List.setIfInBounds_toArray, List.set_cons_zero, List.set_cons_succ]
              | refine way_pure (v := ?_) rfl (by rfl) (fun W hW => ?_) ?_
                rotate_left
                · clear hW
                  go_simp
                  with_reducible rfl
                simp only [Act.put, List.setIfInBounds_toArray, List.set_cons_zero, List.set_cons_succ]
            refine way_make rfl (by rfl) (fun K hK => ?_)
            refine wp_store8 (vs := lgc R.1) rfl rfl rfl Nv13.out HNR.out HZR.out HOR.out ?_
            intro v14 hbs hgs hss
            have SBv14 := Lib.hid (show Below wr.heap.size wr v14 from bel_upd SBv13.out hgs (Nat.le_refl _) QN.out)
            have Nv14 := Lib.hid hbs
            clear hbs hgs hss
            refine hK _ _ (fun W => Below wr.heap.size wr W) (fun W h => h) SBv14.out ?_
            clear hK K
            repeat first
              | refine way_load14 (x := .tmp 6) rfl (by rfl) rfl rfl (fun W hW => B6.out.below hW) Tryz.underlying38 rfl HNL.out ?_
                simp only [Act.put, List.setIfInBounds_toArray, List.set_cons_zero, List.set_cons_succ]
              | refine way_pure (v := ?_) rfl (by rfl) (fun W hW => ?_) ?_
                rotate_left
                · clear hW
                  go_simp
                  with_reducible rfl
                simp only [Act.put, List.setIfInBounds_toArray, List.set_cons_zero, List.set_cons_succ]
            refine way_done ?_
            go_wp2_with fail
            go_meet
            exact ⟨_, rfl, rfl, Nv14.out, B6.out.below SBv14.out, B4.out.below SBv14.out, HB.out.trans (SBv14.out.mono HB.out.size), by have := B6.out.lt; have := QN.out; omega, by have := B4.out.lt; have := QN.out; omega⟩
        · skip
          go_simp
          have hbn : Below v2.heap.size v2 (v2.alloc (.cells #[.int .u64 0, .int .u64 0, .int .u64 0, .int .u64 0, .int .u64 0, .int .u64 0, .int .u64 0, .int .u64 0, .int .u64 0] 38)) := bel_new (Below.refl _ _) _
          have hpn : Blk (v2.alloc (.cells #[.int .u64 0, .int .u64 0, .int .u64 0, .int .u64 0, .int .u64 0, .int .u64 0, .int .u64 0, .int .u64 0, .int .u64 0] 38)) v2.heap.size 38 [.int .u64 0, .int .u64 0, .int .u64 0, .int .u64 0, .int .u64 0, .int .u64 0, .int .u64 0, .int .u64 0, .int .u64 0] := Blk.new _ _ _
          have hqn : wr.heap.size ≤ v2.heap.size := SBv2.out.size
          generalize v2.alloc (.cells #[.int .u64 0, .int .u64 0, .int .u64 0, .int .u64 0, .int .u64 0, .int .u64 0, .int .u64 0, .int .u64 0, .int .u64 0] 38) = v15 at *
          have SBv15 := Lib.hid (show Below wr.heap.size wr v15 from SBv2.out.trans (hbn.mono SBv2.out.size))
          generalize v2.heap.size = qN at *
          have Nv15 := Lib.hid hpn
          have QN := Lib.hid hqn
          clear hbn hpn hqn
          refine hK _ _ (fun W => Below wr.heap.size wr W) (fun W h => h) SBv15.out ?_
          clear hK K
          refine way_make rfl (by rfl) (fun K hK => ?_)
          go_simp
          ((with_reducible refine (HPR.out v15 SBv15.out).mono ?_))
          rintro e v16 ⟨rfl, hb⟩
          have SBv16 := Lib.hid (show Below wr.heap.size wr v16 from SBv15.out.trans (hb.mono SBv15.out.size))
          have Nv16 := Lib.hid (Nv15.out.below hb)
          clear hb
          go_simp
          refine hK _ _ (fun W => Below wr.heap.size wr W) (fun W h => h) SBv16.out ?_
          clear hK K
          refine way_make rfl (by rfl) (fun K hK => ?_)
          go_simp
          ((with_reducible refine (HBA.out v16 SBv16.out).mono ?_))
          rintro e v17 ⟨rfl, hb⟩
          have SBv17 := Lib.hid (show Below wr.heap.size wr v17 from SBv16.out.trans (hb.mono SBv16.out.size))
          have Nv17 := Lib.hid (Nv16.out.below hb)
          clear hb
          go_simp
          refine hK _ _ (fun W => Below wr.heap.size wr W) (fun W h => h) SBv17.out ?_
          clear hK K
          refine way_make rfl (by rfl) (fun K hK => ?_)
          go_simp
          ((with_reducible refine (HPU.out v17).mono ?_))
          rintro e v18 ⟨rfl, hb⟩
          have SBv18 := Lib.hid (show Below wr.heap.size wr v18 from SBv17.out.trans (hb.mono SBv17.out.size))
          have Nv18 := Lib.hid (Nv17.out.below hb)
          clear hb
          go_simp
          refine hK _ _ (fun W => Below wr.heap.size wr W) (fun W h => h) SBv18.out ?_
          clear hK K
          repeat first
            | refine way_load14 (x := .tmp 6) rfl (by rfl) rfl rfl (fun W hW => B6.out.below hW) Tryz.underlying38 rfl HNL.out ?_
              simp only [Act.put, List.setIfInBounds_toArray, List.set_cons_zero, List.set_cons_succ]
            | refine way_pure (v := ?_) rfl (by rfl) (fun W hW => ?_) ?_
              rotate_left
              · clear hW
                go_simp
                with_reducible rfl
              simp only [Act.put, List.setIfInBounds_toArray, List.set_cons_zero, List.set_cons_succ]
          refine way_make rfl (by rfl) (fun K hK => ?_)
          refine wp_store8 (vs := lgc R.1) rfl rfl rfl Nv18.out HNR.out HZR.out HOR.out ?_
          intro v19 hbs hgs hss
          have SBv19 := Lib.hid (show Below wr.heap.size wr v19 from bel_upd SBv18.out hgs (Nat.le_refl _) QN.out)
          have Nv19 := Lib.hid hbs
          clear hbs hgs hss
          refine hK _ _ (fun W => Below wr.heap.size wr W) (fun W h => h) SBv19.out ?_
          clear hK K
          repeat first
            | refine way_load14 (x := .tmp 6) rfl (by rfl) rfl rfl (fun W hW => B6.out.below hW) Tryz.underlying38 rfl HNL.out ?_
              simp only [Act.put, List.setIfInBounds_toArray, List.set_cons_zero, List.set_cons_succ]
            | refine way_pure (v := ?_) rfl (by rfl) (fun W hW => ?_) ?_
              rotate_left
              · clear hW
                go_simp
                with_reducible rfl
              simp only [Act.put, List.setIfInBounds_toArray, List.set_cons_zero, List.set_cons_succ]
          refine way_done ?_
          go_wp2_with fail
          go_meet
          exact ⟨_, rfl, rfl, Nv19.out, B6.out.below SBv19.out, B4.out.below SBv19.out, HB.out.trans (SBv19.out.mono HB.out.size), by have := B6.out.lt; have := QN.out; omega, by have := B4.out.lt; have := QN.out; omega⟩
      case rest =>
        obtain ⟨q9, rfl, rfl, hb9, hb6, hb4, hbl, hq1, hq2⟩ := hcut
        have N9 := Lib.hid hb9
        have N6 := Lib.hid hb6
        have N4 := Lib.hid hb4
        have NB := Lib.hid hbl
        have NQ := Lib.hid (And.intro hq1 hq2)
        clear hb9 hb6 hb4 hbl hq1 hq2 B6 B4 cj HPR HBA HPU
        by_cases hfit2 : fsum (Fof (fs.take (j + 1))) ≤ sz
        · have hR := HPT.out
          rw [if_pos hfit2] at hR
          subst hR
          have HF2 := Lib.hid hfit2
          clear hfit2 HPT
          go_wp2_with (first | ((with_reducible refine step_load (o := ⟨some 31, _, _, _, _, _⟩) (x := .tmp 9) ?_ ?_ ?_ N9.out Tryz.underlying38 ?_ HNR.out ?_); (rfl); (rfl); (rfl); (rfl)) | ((with_reducible refine step_store (o := ⟨none, _, _, _, _, _⟩) (vs := lgc (ledgOf sz (Fof (fs.take (j + 1))))) (ty := 38) (x := .tmp 6) (y := .tmp 31) ?_ ?_ ?_ ?_ N6.out HNR.out HLR.out HOR.out ?_); (rfl); (rfl); (rfl); (rfl); intro w4 hb5 hg5 hs5))
          have E1 := Lib.hid hb5
          have E2 := Lib.hid (blk_kept14 N4.out hg5 (by omega))
          have E3 := Lib.hid (bel_upd NB.out hg5 (Nat.le_refl _) (by omega))
          clear hb5 hg5 hs5
          go_wp2_with fail
          go_roundw
          case rel => exact ⟨j + 1, by have := HJ.out; omega, by first | rfl | (simp; omega), HF2.out, E1.out, E2.out, E3.out⟩
          case measure => have := HJ.out; simp [intOf]; omega
        · have hR := HPT.out
          rw [if_neg hfit2] at hR
          subst hR
          have HF2 := Lib.hid (show ¬ fsum (Fof fs) ≤ sz by have := HMO.out (j + 1); omega)
          clear hfit2 HPT
          go_wp2_with ((with_reducible refine step_store (o := ⟨none, _, _, _, _, _⟩) (vs := [.int .u64 0, .int .u64 0, .int .u64 0, .int .u64 0, .int .u64 0, .int .u64 0, .int .u64 0, .int .u64 0, .int .u64 0]) (ty := 38) (x := .tmp 4) (y := .tmp 30) ?_ ?_ ?_ ?_ N4.out HZ.out rfl HZ1.out ?_); (rfl); (rfl); (rfl); (rfl); intro w4 hb5 hg5 hs5)
          refine bodyPost_ret (v := .tuple #[.agg #[.int .u64 0, .int .u64 0, .int .u64 0, .int .u64 0, .int .u64 0, .int .u64 0, .int .u64 0, .int .u64 0, .int .u64 0], .bool false]) (results_two8 rfl _ rfl hb5 Tryz.underlying38 rfl HZ.out rfl) rfl ?_
          unfold bookL
          rw [if_neg HF2.out, decide_eq_false HF2.out]
          exact ⟨rfl, bel_upd NB.out hg5 (Nat.le_refl _) (by omega)⟩
    · have i1 : ¬ (j : Int) < (m : Int) := by omega
      have hjm : j = fs.length := by have := HLEN.out; omega
      have hlok := HOK.out j hfit
      rw [hjm, List.take_length] at hfit B6 hlok
      have HNL := Lib.hid (HN.out _ hlok)
      have HZL := Lib.hid (show ([.int .u64 0, .int .u64 0, .int .u64 0, .int .u64 0, .int .u64 0, .int .u64 0, .int .u64 0, .int .u64 0, .int .u64 0] : List Value).length = (lgc (ledgOf sz (Fof fs))).length by rw [lgc_length hlok]; rfl)
      have HO1 := Lib.hid (lgc_one (ledgOf sz (Fof fs)))
      have HF2 := Lib.hid hfit
      clear hjm hj hlt hfit hlok HFIT
      go_wp2_with (first | ((with_reducible refine step_load (o := ⟨some 33, _, _, _, _, _⟩) (x := .tmp 6) ?_ ?_ ?_ B6.out Tryz.underlying38 ?_ HNL.out ?_); (rfl); (rfl); (rfl); (rfl)) | ((with_reducible refine step_store (o := ⟨none, _, _, _, _, _⟩) (vs := lgc (ledgOf sz (Fof fs))) (ty := 38) (x := .tmp 4) (y := .tmp 33) ?_ ?_ ?_ ?_ B4.out HNL.out HZL.out HO1.out ?_); (rfl); (rfl); (rfl); (rfl); intro w4 hb5 hg5 hs5))
      refine bodyPost_ret (v := .tuple #[.agg (lgc (ledgOf sz (Fof fs))).toArray, .bool true]) (results_two8 rfl _ rfl hb5 Tryz.underlying38 rfl HNL.out rfl) rfl ?_
      unfold bookL
      rw [if_pos HF2.out, decide_eq_true HF2.out]
      exact ⟨rfl, bel_upd HB.out hg5 (Nat.le_refl _) (by omega)⟩
end Go.Proofs.YtjflbfianncpfaaGreat

namespace Go.Proofs.YtjflbfianncpfaaGreat
set_option maxRecDepth 100000
set_option linter.unusedVariables false
open Go.RowKit

theorem infoEntZ14 : (Tryz.prog.info? 77).map (fun i => (i.zero, i.size, i.bytes)) = some (some (.agg #[.int .i64 0, .int .i64 0, .int .i64 0, .int .i64 0, .int .u64 0, .int .i64 0, .int .i64 0, .int .u32 0, .int .u32 0, .int .u32 0]), 10, 72) := by kernel_rfl
theorem fits14_calls (sz : Nat) (hsz : sz < 18446744073709551616) (A : Option Addr) (m cap : Nat) (fs : List SF) (w : World) (hr : Row sfc w w.heap.size A m fs) (hf : Sfs w w.heap.size fs) (hm : m ≤ 1024) (hF : ∀ f ∈ Fof fs, 0 ≤ f.ho ∧ f.ho ≤ 7) (hbw : ∀ f ∈ Fof fs, f.bw < 18446744073709551616) :
    Calls Tryz.prog 36 #[.int .u64 (sz : Int), .slice A m cap] w (Yes14 (decide (fsum (Fof fs) ≤ sz)) w) := by
  have hb := book14_calls sz hsz A m cap fs w hr hf hm hF hbw
  have hlen : (lgc (bookL sz (Fof fs))).length = 9 := by
    refine lgc_length ?_
    unfold bookL
    split
    · exact ledgOf_ok hF hsz (by omega)
    · exact lz_ok
  have hone := lgc_one (bookL sz (Fof fs))
  generalize bookL sz (Fof fs) = l at *
  generalize decide (fsum (Fof fs) ≤ sz) = r at *
  obtain ⟨cs, hcs⟩ : ∃ cs, lgc l = cs := ⟨_, rfl⟩
  rw [hcs] at hb hlen hone
  have H1 := Lib.hid (show (Tryz.prog.info? 38).map (·.size) = some cs.length by rw [hlen]; exact infoLedgL)
  have HO := Lib.hid hone
  have HLN := Lib.hid (show ([.int .u64 0, .int .u64 0, .int .u64 0, .int .u64 0, .int .u64 0, .int .u64 0, .int .u64 0, .int .u64 0, .int .u64 0] : List Value).length = cs.length by rw [hlen]; rfl)
  have HB := Lib.hid hb
  unfold Yes14
  clear hr hf hm hF hbw hb hcs hone hlen
  go_enter Tryz.func36, Tryz.ntmps36
  go_wp2_with fail
  ((with_reducible refine HB.out.mono ?_))
  rintro e w2 ⟨rfl, hb⟩
  have L2 := Lib.hid hb
  have B5 := Lib.hid (Blk.new w2 38 [.int .u64 0, .int .u64 0, .int .u64 0, .int .u64 0, .int .u64 0, .int .u64 0, .int .u64 0, .int .u64 0, .int .u64 0])
  clear hb HB
  go_wp2_with ((with_reducible refine step_store (o := ⟨none, _, _, _, _, _⟩) (vs := cs) (ty := 38) (x := .tmp 5) (y := .tmp 11) ?_ ?_ ?_ ?_ B5.out H1.out HLN.out HO.out ?_); (rfl); (rfl); (rfl); (rfl); intro w4 hb5 hg5 hs5)
  go_ret
  exact ⟨rfl, bel_upd (bel_new L2.out _) hg5 (Nat.le_refl _) L2.out.size⟩
theorem growf14_calls (n : Nat) (hn : n ≤ 1048576) (w : World) : Calls Tryz.prog 66 #[.slice none 0 0, .int .i64 (n : Int)] w fun e w' => ∃ A c, e = .returned (.slice A 0 c) ∧ AccR ent 10 w' w.heap.size 77 A c [] ∧ Below w.heap.size w w' := by
  have h1 : ¬ ((n : Int) < 0) := by omega
  have h3 : IntKind.i64.wrap ((n : Int) - 0) = (n : Int) := by rw [IntWalk.i64_in _ (by omega)]; omega
  by_cases h0 : n = 0
  · subst h0
    go_enter Tryz.func66, Tryz.ntmps66
    go_wp2_with fail
    go_ret
    exact ⟨none, 0, rfl, AccR.nil _ _ _, Below.refl _ _⟩
  · have h4 : (0 : Int) < (n : Int) := by omega
    obtain ⟨ti, hi0, hzz⟩ := Option.map_eq_some_iff.1 infoEntZ14
    simp only [Prod.mk.injEq] at hzz
    obtain ⟨hz, hsz, hby⟩ := hzz
    have hrun := Lib.run_append_nil_zeros (P := Tryz.prog) w 99 3 99 77 ti _ .i64 .i64 Tryz.underlying99 Tryz.underlying3 hi0 hz n (by omega) (by omega) (by omega) (by rw [hby]; omega)
    have hge := grownCap_ge w n 0 77
    have hle := grownCap_le_maxLen w n 0 77 (by unfold maxLen; omega)
    have hsize : (Builtin.zeroCells (Value.agg #[.int .i64 0, .int .i64 0, .int .i64 0, .int .i64 0, .int .u64 0, .int .i64 0, .int .i64 0, .int .u32 0, .int .u32 0, .int .u32 0]).cells n ++ Builtin.zeroCells (Value.agg #[.int .i64 0, .int .i64 0, .int .i64 0, .int .i64 0, .int .u64 0, .int .i64 0, .int .i64 0, .int .u32 0, .int .u32 0, .int .u32 0]).cells (grownCap w n 0 77 - n)).size = grownCap w n 0 77 * 10 := by
      rw [Array.size_append, size_zeroCells, size_zeroCells, ← Nat.add_mul]
      rw [show (Value.agg #[.int .i64 0, .int .i64 0, .int .i64 0, .int .i64 0, .int .u64 0, .int .i64 0, .int .i64 0, .int .u32 0, .int .u32 0, .int .u32 0]).cells.size = 10 from rfl]
      congr 1; omega
    have HA := Lib.hid (accr_made (enc := ent) (T := 77) w.drew (b := w.heap.size) (Nat.le_refl _) hle hsize)
    have HL := Lib.hid (show Below w.heap.size w (w.drew.alloc (.cells (Builtin.zeroCells (Value.agg #[.int .i64 0, .int .i64 0, .int .i64 0, .int .i64 0, .int .u64 0, .int .i64 0, .int .i64 0, .int .u32 0, .int .u32 0, .int .u32 0]).cells n ++ Builtin.zeroCells (Value.agg #[.int .i64 0, .int .i64 0, .int .i64 0, .int .i64 0, .int .u64 0, .int .i64 0, .int .i64 0, .int .u32 0, .int .u32 0, .int .u32 0]).cells (grownCap w n 0 77 - n)) 77)) from (Below.refl w.heap.size w).drew.alloc (Nat.le_refl _) _)
    generalize w.drew.alloc (.cells (Builtin.zeroCells (Value.agg #[.int .i64 0, .int .i64 0, .int .i64 0, .int .i64 0, .int .u64 0, .int .i64 0, .int .i64 0, .int .u32 0, .int .u32 0, .int .u32 0]).cells n ++ Builtin.zeroCells (Value.agg #[.int .i64 0, .int .i64 0, .int .i64 0, .int .i64 0, .int .u64 0, .int .i64 0, .int .i64 0, .int .u32 0, .int .u32 0, .int .u32 0]).cells (grownCap w n 0 77 - n)) 77) = w2 at *
    generalize grownCap w n 0 77 = cc at *
    have HRUN := Lib.hid hrun
    have h5 : (0 : Int) ≤ (cc : Int) := by omega
    clear hrun hz hsz hby hi0 hsize hle h0
    go_enter Tryz.func66, Tryz.ntmps66
    go_wp2_with (at_builtin; refine Lib.wpList_append_run w rfl _ _ _ _ rfl _ _ rfl rfl _ _ HRUN.out ?_)
    go_ret
    refine ⟨some ⟨w.heap.size, 0, none⟩, cc, ?_, HA.out, HL.out⟩
    simp
theorem growe14_calls (n : Nat) (hn : n ≤ 1048576) (w : World) : Calls Tryz.prog 86 #[.slice none 0 0, .int .i64 (n : Int)] w fun e w' => ∃ A c, e = .returned (.slice A 0 c) ∧ AccR ent 10 w' w.heap.size 77 A c [] ∧ Below w.heap.size w w' := by
  have h1 : ¬ ((n : Int) < 0) := by omega
  have h3 : IntKind.i64.wrap ((n : Int) - 0) = (n : Int) := by rw [IntWalk.i64_in _ (by omega)]; omega
  by_cases h0 : n = 0
  · subst h0
    go_enter Tryz.func86, Tryz.ntmps86
    go_wp2_with fail
    go_ret
    exact ⟨none, 0, rfl, AccR.nil _ _ _, Below.refl _ _⟩
  · have h4 : (0 : Int) < (n : Int) := by omega
    obtain ⟨ti, hi0, hzz⟩ := Option.map_eq_some_iff.1 infoEntZ14
    simp only [Prod.mk.injEq] at hzz
    obtain ⟨hz, hsz, hby⟩ := hzz
    have hrun := Lib.run_append_nil_zeros (P := Tryz.prog) w 63 3 63 77 ti _ .i64 .i64 Tryz.underlying63 Tryz.underlying3 hi0 hz n (by omega) (by omega) (by omega) (by rw [hby]; omega)
    have hge := grownCap_ge w n 0 77
    have hle := grownCap_le_maxLen w n 0 77 (by unfold maxLen; omega)
    have hsize : (Builtin.zeroCells (Value.agg #[.int .i64 0, .int .i64 0, .int .i64 0, .int .i64 0, .int .u64 0, .int .i64 0, .int .i64 0, .int .u32 0, .int .u32 0, .int .u32 0]).cells n ++ Builtin.zeroCells (Value.agg #[.int .i64 0, .int .i64 0, .int .i64 0, .int .i64 0, .int .u64 0, .int .i64 0, .int .i64 0, .int .u32 0, .int .u32 0, .int .u32 0]).cells (grownCap w n 0 77 - n)).size = grownCap w n 0 77 * 10 := by
      rw [Array.size_append, size_zeroCells, size_zeroCells, ← Nat.add_mul]
      rw [show (Value.agg #[.int .i64 0, .int .i64 0, .int .i64 0, .int .i64 0, .int .u64 0, .int .i64 0, .int .i64 0, .int .u32 0, .int .u32 0, .int .u32 0]).cells.size = 10 from rfl]
      congr 1; omega
    have HA := Lib.hid (accr_made (enc := ent) (T := 77) w.drew (b := w.heap.size) (Nat.le_refl _) hle hsize)
    have HL := Lib.hid (show Below w.heap.size w (w.drew.alloc (.cells (Builtin.zeroCells (Value.agg #[.int .i64 0, .int .i64 0, .int .i64 0, .int .i64 0, .int .u64 0, .int .i64 0, .int .i64 0, .int .u32 0, .int .u32 0, .int .u32 0]).cells n ++ Builtin.zeroCells (Value.agg #[.int .i64 0, .int .i64 0, .int .i64 0, .int .i64 0, .int .u64 0, .int .i64 0, .int .i64 0, .int .u32 0, .int .u32 0, .int .u32 0]).cells (grownCap w n 0 77 - n)) 77)) from (Below.refl w.heap.size w).drew.alloc (Nat.le_refl _) _)
    generalize w.drew.alloc (.cells (Builtin.zeroCells (Value.agg #[.int .i64 0, .int .i64 0, .int .i64 0, .int .i64 0, .int .u64 0, .int .i64 0, .int .i64 0, .int .u32 0, .int .u32 0, .int .u32 0]).cells n ++ Builtin.zeroCells (Value.agg #[.int .i64 0, .int .i64 0, .int .i64 0, .int .i64 0, .int .u64 0, .int .i64 0, .int .i64 0, .int .u32 0, .int .u32 0, .int .u32 0]).cells (grownCap w n 0 77 - n)) 77) = w2 at *
    generalize grownCap w n 0 77 = cc at *
    have HRUN := Lib.hid hrun
    have h5 : (0 : Int) ≤ (cc : Int) := by omega
    clear hrun hz hsz hby hi0 hsize hle h0
    go_enter Tryz.func86, Tryz.ntmps86
    go_wp2_with (at_builtin; refine Lib.wpList_append_run w rfl _ _ _ _ rfl _ _ rfl rfl _ _ HRUN.out ?_)
    go_ret
    refine ⟨some ⟨w.heap.size, 0, none⟩, cc, ?_, HA.out, HL.out⟩
    simp
/-- One behind another. -/
def catF (fs : List SF) : List Et := (fs.map (·.g)).flatten
theorem catF_snoc {fs : List SF} {i : Nat} (hi : i < fs.length) : catF (fs.take (i + 1)) = catF (fs.take i) ++ fs[i].g := by
  unfold catF
  rw [List.take_succ_eq_append_getElem hi, List.map_append, List.flatten_append]
  simp
/-- Slices of entries, one at least or none in each. -/
def Sfs0 (w : World) (B : Nat) (fs : List SF) : Prop := ∀ p ∈ fs, Row ent w B p.a p.n p.g ∧ p.n ≤ 1024
theorem catF_le {w : World} {B : Nat} {fs : List SF} (h : Sfs0 w B fs) : ∀ i, (catF (fs.take i)).length ≤ i * 1024
  | 0 => by simp [catF]
  | i + 1 => by
    have ih := catF_le h i
    rcases Nat.lt_or_ge i fs.length with hi | hi
    · rw [catF_snoc hi, List.length_append]
      obtain ⟨h1, h2⟩ := h fs[i] (List.getElem_mem hi)
      have := h1.1
      omega
    · rw [List.take_of_length_le (by omega)]
      rw [List.take_of_length_le hi] at ih
      omega
set_option maxHeartbeats 3200000 in
theorem concatf14_calls (A : Option Addr) (m cap : Nat) (fs : List SF) (w : World) (hr : Row sfc w w.heap.size A m fs) (hf : Sfs0 w w.heap.size fs) (hm : m ≤ 1024) :
    Calls Tryz.prog 39 #[.slice A m cap] w fun e w' => ∃ A2 c2, e = .returned (.slice A2 (catF fs).length c2) ∧ AccR ent 10 w' w.heap.size 77 A2 c2 (catF fs) ∧ Below w.heap.size w w' := by
  have HLEN := Lib.hid hr.1
  have HR := Lib.hid hr
  have HF := Lib.hid hf
  have HLE := Lib.hid (catF_le hf)
  have HM := Lib.hid hm
  clear hr hf
  go_enter Tryz.func39, Tryz.ntmps39
  go_upto_region 9 with fail
  go_loopw [3, 11] (fun s t wr => ∃ j : Nat, j ≤ m ∧ s = .int .i64 ((catF (fs.take j)).length : Int) ∧ t = .int .i64 (j : Int) ∧ wr = w) (fun s t wr => m - (intOf t).toNat)
  case atStart => exact ⟨0, by omega, rfl, rfl, rfl⟩
  case round =>
    obtain ⟨j, hj, rfl, rfl, hw⟩ := hrel
    obtain rfl : w = wr := hw.symm
    clear hw
    by_cases hlt : j < m
    · obtain ⟨b, o, rfl, hbw, hcell⟩ := row_sf HR.out (by omega)
      have hjl : j < fs.length := by have := HLEN.out; omega
      have cj := hcell j hjl w rfl
      have hsn := catF_snoc hjl
      have hpl := (HF.out fs[j] (List.getElem_mem hjl)).1.1
      have hle := HLE.out (j + 1)
      have hle0 := HLE.out j
      obtain ⟨p, hp⟩ : ∃ p, fs[j] = p := ⟨_, rfl⟩
      rw [hp] at cj hsn hpl
      have hl : (catF (fs.take (j + 1))).length = (catF (fs.take j)).length + p.n := by rw [hsn, List.length_append, hpl]
      obtain ⟨N, hN⟩ : ∃ N, (catF (fs.take (j + 1))).length = N := ⟨_, rfl⟩
      obtain ⟨M, hM⟩ : ∃ M, (catF (fs.take j)).length = M := ⟨_, rfl⟩
      rw [hN, hM] at hl
      rw [hN] at hle
      rw [hM] at hle0 ⊢
      have HN := Lib.hid hN
      have i1 : (j : Int) < (m : Int) := by omega
      have i2 : IntKind.i64.wrap ((j : Int) + 1) = ((j + 1 : Nat) : Int) := by rw [IntWalk.i64_in _ (by omega)]; omega
      have i3 : IntKind.i64.wrap ((M : Int) + (p.n : Int)) = (N : Int) := by have := HM.out; rw [IntWalk.i64_in _ (by omega)]; omega
      have i4 : ¬ (N : Int) < 0 := by omega
      have HJ := Lib.hid hlt
      clear hcell hbw hsn hpl hle hle0 hp hl hN hM hj hlt hjl
      go_wp2_with fail
      go_roundw
      case rel => exact ⟨j + 1, by have := HJ.out; omega, by rw [HN.out], by first | rfl | (simp; omega), trivial⟩
      case measure => have := HJ.out; simp [intOf]; omega
    · have i1 : ¬ (j : Int) < (m : Int) := by omega
      have hjm : j = fs.length := by have := HLEN.out; omega
      have hg := growf14_calls (catF fs).length (by have := HLE.out fs.length; rw [List.take_length] at this; have := HLEN.out; have := HM.out; omega) w
      have he : catF (fs.take j) = catF fs := by rw [hjm, List.take_length]
      rw [he]
      obtain ⟨M, hM⟩ : ∃ M, (catF fs).length = M := ⟨_, rfl⟩
      have HMM := Lib.hid hM
      rw [hM] at hg
      have HG := Lib.hid hg
      rw [hM]
      clear hg hjm hj hM he
      go_wp2_with fail
      ((with_reducible refine HG.out.mono ?_))
      rintro e w2 ⟨A2, c2, rfl, hacc, hb⟩
      have HA := Lib.hid hacc
      have HB := Lib.hid hb
      clear hacc hb HG
      go_wp2_with fail
      go_loopw [6, 27] (fun s t W => ∃ (i : Nat) (A3 : Option Addr) (c3 : Nat), i ≤ m ∧ s = .slice A3 (catF (fs.take i)).length c3 ∧ t = .int .i64 (i : Int) ∧ AccR ent 10 W w.heap.size 77 A3 c3 (catF (fs.take i)) ∧ Below w.heap.size w W) (fun s t W => m - (intOf t).toNat)
      case atStart => exact ⟨0, A2, c2, by omega, rfl, rfl, HA.out, HB.out⟩
      case round =>
        clear HA HB
        obtain ⟨i, A3, c3, hi, rfl, rfl, hacc, hbl⟩ := hrel
        have HA := Lib.hid hacc
        have HB := Lib.hid hbl
        clear hacc hbl
        by_cases hlt2 : i < m
        · obtain ⟨b, o, rfl, hbw, hcell⟩ := row_sf HR.out (by omega)
          have hil : i < fs.length := by have := HLEN.out; omega
          have cj := hcell i hil wr (HB.out.block b hbw)
          have hsn := catF_snoc hil
          obtain ⟨hrow, hpn⟩ := HF.out fs[i] (List.getElem_mem hil)
          have hle := HLE.out (i + 1)
          have hle0 := HLE.out i
          obtain ⟨p, hp⟩ : ∃ p, fs[i] = p := ⟨_, rfl⟩
          rw [hp] at cj hsn hrow hpn
          obtain ⟨l, hl⟩ : ∃ l, catF (fs.take i) = l := ⟨_, rfl⟩
          rw [hl] at HA hsn hle0 ⊢
          have hrow2 := (hrow.below HB.out).more HB.out.size
          have hln := hrow.1
          obtain ⟨A4, c4, w4, hrun, hacc, hgr, _⟩ := accr_append (P := Tryz.prog) (ty := 99) (cc := p.c) ent_length ent_one (by omega) HA.out hrow2 Tryz.underlying99 infoEntZ14 rfl HB.out.size (by have := HM.out; omega) (by have := HM.out; omega)
          have e1 : l.length + p.n = (catF (fs.take (i + 1))).length := by rw [hsn, List.length_append, hln]
          rw [e1] at hrun
          have HRUN := Lib.hid hrun
          have HA4 := Lib.hid (show AccR ent 10 w4 w.heap.size 77 A4 c4 (catF (fs.take (i + 1))) by rw [hsn]; exact hacc)
          have HB4 := Lib.hid (belr_acc HB.out HA.out hgr)
          have i1' : (i : Int) < (m : Int) := by omega
          have i2 : IntKind.i64.wrap ((i : Int) + 1) = ((i + 1 : Nat) : Int) := by have := HM.out; rw [IntWalk.i64_in _ (by omega)]; omega
          have HI := Lib.hid hlt2
          clear hcell hbw hsn hrow hpn hle hle0 hp hl hrow2 hln hrun hacc hgr e1 hi hlt2 hil i1
          go_wp2_with (at_builtin; refine step_append (o := ⟨some 33, _, _, _, _, _⟩) rfl rfl rfl rfl HRUN.out ?_)
          go_roundw
          case rel => exact ⟨i + 1, A4, c4, by have := HI.out; omega, rfl, by first | rfl | (simp; omega), HA4.out, HB4.out⟩
          case measure => have := HI.out; simp [intOf]; omega
        · have i1' : ¬ (i : Int) < (m : Int) := by omega
          have him : i = fs.length := by have := HLEN.out; omega
          have he : catF (fs.take i) = catF fs := by rw [him, List.take_length]
          rw [he] at HA ⊢
          clear him hi hlt2 i1 he
          go_wp2_with fail
          go_ret
          exact ⟨A3, c3, rfl, HA.out, HB.out⟩
set_option maxHeartbeats 3200000 in
theorem concate14_calls (A : Option Addr) (m cap : Nat) (fs : List SF) (w : World) (hr : Row sfc w w.heap.size A m fs) (hf : Sfs0 w w.heap.size fs) (hm : m ≤ 1024) :
    Calls Tryz.prog 63 #[.slice A m cap] w fun e w' => ∃ A2 c2, e = .returned (.slice A2 (catF fs).length c2) ∧ AccR ent 10 w' w.heap.size 77 A2 c2 (catF fs) ∧ Below w.heap.size w w' := by
  have HLEN := Lib.hid hr.1
  have HR := Lib.hid hr
  have HF := Lib.hid hf
  have HLE := Lib.hid (catF_le hf)
  have HM := Lib.hid hm
  clear hr hf
  go_enter Tryz.func63, Tryz.ntmps63
  go_upto_region 9 with fail
  go_loopw [3, 11] (fun s t wr => ∃ j : Nat, j ≤ m ∧ s = .int .i64 ((catF (fs.take j)).length : Int) ∧ t = .int .i64 (j : Int) ∧ wr = w) (fun s t wr => m - (intOf t).toNat)
  case atStart => exact ⟨0, by omega, rfl, rfl, rfl⟩
  case round =>
    obtain ⟨j, hj, rfl, rfl, hw⟩ := hrel
    obtain rfl : w = wr := hw.symm
    clear hw
    by_cases hlt : j < m
    · obtain ⟨b, o, rfl, hbw, hcell⟩ := row_sf HR.out (by omega)
      have hjl : j < fs.length := by have := HLEN.out; omega
      have cj := hcell j hjl w rfl
      have hsn := catF_snoc hjl
      have hpl := (HF.out fs[j] (List.getElem_mem hjl)).1.1
      have hle := HLE.out (j + 1)
      have hle0 := HLE.out j
      obtain ⟨p, hp⟩ : ∃ p, fs[j] = p := ⟨_, rfl⟩
      rw [hp] at cj hsn hpl
      have hl : (catF (fs.take (j + 1))).length = (catF (fs.take j)).length + p.n := by rw [hsn, List.length_append, hpl]
      obtain ⟨N, hN⟩ : ∃ N, (catF (fs.take (j + 1))).length = N := ⟨_, rfl⟩
      obtain ⟨M, hM⟩ : ∃ M, (catF (fs.take j)).length = M := ⟨_, rfl⟩
      rw [hN, hM] at hl
      rw [hN] at hle
      rw [hM] at hle0 ⊢
      have HN := Lib.hid hN
      have i1 : (j : Int) < (m : Int) := by omega
      have i2 : IntKind.i64.wrap ((j : Int) + 1) = ((j + 1 : Nat) : Int) := by rw [IntWalk.i64_in _ (by omega)]; omega
      have i3 : IntKind.i64.wrap ((M : Int) + (p.n : Int)) = (N : Int) := by have := HM.out; rw [IntWalk.i64_in _ (by omega)]; omega
      have i4 : ¬ (N : Int) < 0 := by omega
      have HJ := Lib.hid hlt
      clear hcell hbw hsn hpl hle hle0 hp hl hN hM hj hlt hjl
      go_wp2_with fail
      go_roundw
      case rel => exact ⟨j + 1, by have := HJ.out; omega, by rw [HN.out], by first | rfl | (simp; omega), trivial⟩
      case measure => have := HJ.out; simp [intOf]; omega
    · have i1 : ¬ (j : Int) < (m : Int) := by omega
      have hjm : j = fs.length := by have := HLEN.out; omega
      have hg := growe14_calls (catF fs).length (by have := HLE.out fs.length; rw [List.take_length] at this; have := HLEN.out; have := HM.out; omega) w
      have he : catF (fs.take j) = catF fs := by rw [hjm, List.take_length]
      rw [he]
      obtain ⟨M, hM⟩ : ∃ M, (catF fs).length = M := ⟨_, rfl⟩
      have HMM := Lib.hid hM
      rw [hM] at hg
      have HG := Lib.hid hg
      rw [hM]
      clear hg hjm hj hM he
      go_wp2_with fail
      ((with_reducible refine HG.out.mono ?_))
      rintro e w2 ⟨A2, c2, rfl, hacc, hb⟩
      have HA := Lib.hid hacc
      have HB := Lib.hid hb
      clear hacc hb HG
      go_wp2_with fail
      go_loopw [6, 27] (fun s t W => ∃ (i : Nat) (A3 : Option Addr) (c3 : Nat), i ≤ m ∧ s = .slice A3 (catF (fs.take i)).length c3 ∧ t = .int .i64 (i : Int) ∧ AccR ent 10 W w.heap.size 77 A3 c3 (catF (fs.take i)) ∧ Below w.heap.size w W) (fun s t W => m - (intOf t).toNat)
      case atStart => exact ⟨0, A2, c2, by omega, rfl, rfl, HA.out, HB.out⟩
      case round =>
        clear HA HB
        obtain ⟨i, A3, c3, hi, rfl, rfl, hacc, hbl⟩ := hrel
        have HA := Lib.hid hacc
        have HB := Lib.hid hbl
        clear hacc hbl
        by_cases hlt2 : i < m
        · obtain ⟨b, o, rfl, hbw, hcell⟩ := row_sf HR.out (by omega)
          have hil : i < fs.length := by have := HLEN.out; omega
          have cj := hcell i hil wr (HB.out.block b hbw)
          have hsn := catF_snoc hil
          obtain ⟨hrow, hpn⟩ := HF.out fs[i] (List.getElem_mem hil)
          have hle := HLE.out (i + 1)
          have hle0 := HLE.out i
          obtain ⟨p, hp⟩ : ∃ p, fs[i] = p := ⟨_, rfl⟩
          rw [hp] at cj hsn hrow hpn
          obtain ⟨l, hl⟩ : ∃ l, catF (fs.take i) = l := ⟨_, rfl⟩
          rw [hl] at HA hsn hle0 ⊢
          have hrow2 := (hrow.below HB.out).more HB.out.size
          have hln := hrow.1
          obtain ⟨A4, c4, w4, hrun, hacc, hgr, _⟩ := accr_append (P := Tryz.prog) (ty := 63) (cc := p.c) ent_length ent_one (by omega) HA.out hrow2 Tryz.underlying63 infoEntZ14 rfl HB.out.size (by have := HM.out; omega) (by have := HM.out; omega)
          have e1 : l.length + p.n = (catF (fs.take (i + 1))).length := by rw [hsn, List.length_append, hln]
          rw [e1] at hrun
          have HRUN := Lib.hid hrun
          have HA4 := Lib.hid (show AccR ent 10 w4 w.heap.size 77 A4 c4 (catF (fs.take (i + 1))) by rw [hsn]; exact hacc)
          have HB4 := Lib.hid (belr_acc HB.out HA.out hgr)
          have i1' : (i : Int) < (m : Int) := by omega
          have i2 : IntKind.i64.wrap ((i : Int) + 1) = ((i + 1 : Nat) : Int) := by have := HM.out; rw [IntWalk.i64_in _ (by omega)]; omega
          have HI := Lib.hid hlt2
          clear hcell hbw hsn hrow hpn hle hle0 hp hl hrow2 hln hrun hacc hgr e1 hi hlt2 hil i1
          go_wp2_with (at_builtin; refine step_append (o := ⟨some 33, _, _, _, _, _⟩) rfl rfl rfl rfl HRUN.out ?_)
          go_roundw
          case rel => exact ⟨i + 1, A4, c4, by have := HI.out; omega, rfl, by first | rfl | (simp; omega), HA4.out, HB4.out⟩
          case measure => have := HI.out; simp [intOf]; omega
        · have i1' : ¬ (i : Int) < (m : Int) := by omega
          have him : i = fs.length := by have := HLEN.out; omega
          have he : catF (fs.take i) = catF fs := by rw [him, List.take_length]
          rw [he] at HA ⊢
          clear him hi hlt2 i1 he
          go_wp2_with fail
          go_ret
          exact ⟨A3, c3, rfl, HA.out, HB.out⟩
end Go.Proofs.YtjflbfianncpfaaGreat

namespace Go.Proofs.YtjflbfianncpfaaGreat
set_option maxRecDepth 100000
set_option linter.unusedVariables false
open Go.RowKit

/-- No address, or one of a place of its own. -/
def Pla (a : Option Addr) : Prop := a = none ∨ ∃ b o, a = some ⟨b, o, none⟩
section
variable {P : Program} {ST T : TypeId} {k : Nat} {a : Option Addr}
theorem elem_of (ht : P.underlying ST = some (.slice T)) : P.underlying ST = some (.slice (P.elem ST)) := by rw [show P.elem ST = T by simp [Program.elem, ht]]; exact ht
theorem size_of14 {z : Option Value} {b : Nat} (hinfo : (P.info? T).map (fun i => (i.zero, i.size, i.bytes)) = some (z, k, b)) (w : World) : (sizeOf T).run P w = .ok k w := by
  obtain ⟨i, hi, hzz⟩ := Option.map_eq_some_iff.1 hinfo
  simp only [Prod.mk.injEq] at hzz
  simp [sizeOf, typeInfo, hi, hzz.2.1]
/-- From a place on. -/
def lowA (a : Option Addr) (j c k : Nat) : Option Addr := if c = j then a else a.map (·.add (j * k))
theorem slice_low (ht : P.underlying ST = some (.slice T)) (hs : ∀ w, (sizeOf T).run P w = .ok k w) (n c j : Nat) (hj : j ≤ n) (W : World) :
    (Instr.sliceAt ST (.slice a n c) (some (.int .i64 (j : Int))) none none).run P W = .ok (.slice (lowA a j c k) (n - j) (c - j)) W := by
  rw [run_sliceAt_slice (P := P) (w := W) ST _ _ _ _ (elem_of ht), run_slice_l (P := P) (w := W) ST a n c (elem_of ht) .i64 (j : Int) (by omega) (by omega)]
  rw [show P.elem ST = T by simp [Program.elem, ht], hs W]
  simp [sliced, Result.andThen, lowA]
theorem slice_mid (ht : P.underlying ST = some (.slice T)) (hs : ∀ w, (sizeOf T).run P w = .ok k w) (n c i j : Nat) (hij : i ≤ j) (hj : j ≤ c) (W : World) :
    (Instr.sliceAt ST (.slice a n c) (some (.int .i64 (i : Int))) (some (.int .i64 (j : Int))) none).run P W = .ok (.slice (lowA a i c k) (j - i) (c - i)) W := by
  rw [run_sliceAt_slice (P := P) (w := W) ST _ _ _ _ (elem_of ht), run_slice_lh (P := P) (w := W) ST a n c (elem_of ht) .i64 .i64 (i : Int) (j : Int) (by omega) (by omega) (by omega)]
  rw [show P.elem ST = T by simp [Program.elem, ht], hs W]
  simp [sliced, Result.andThen, lowA]
theorem add_nought {b o : Nat} (m : Nat) (h : m = 0) : (⟨b, o, none⟩ : Addr).add m = ⟨b, o, none⟩ := by rw [add_plain, h]; rfl
theorem slice_high (ht : P.underlying ST = some (.slice T)) (hs : ∀ w, (sizeOf T).run P w = .ok k w) (hp : Pla a) (n c j : Nat) (hj : j ≤ c) (W : World) :
    (Instr.sliceAt ST (.slice a n c) none (some (.int .i64 (j : Int))) none).run P W = .ok (.slice a j c) W := by
  rw [run_sliceAt_slice (P := P) (w := W) ST _ _ _ _ (elem_of ht), run_slice_h (P := P) (w := W) ST a n c (elem_of ht) .i64 (j : Int) (by omega) (by omega)]
  rw [show P.elem ST = T by simp [Program.elem, ht], hs W]
  rcases hp with rfl | ⟨b, o, rfl⟩
  · simp [sliced, Result.andThen]
  · simp [sliced, Result.andThen, add_nought]
theorem Pla.low (h : Pla a) (j c : Nat) : Pla (lowA a j c k) := by
  unfold lowA
  split
  · exact h
  · rcases h with rfl | ⟨b, o, rfl⟩
    · exact .inl rfl
    · exact .inr ⟨b, o + j * k, by rw [Option.map_some, add_plain]⟩
end
section
variable {α : Type} {enc : α → List Value} {k : Nat} {w : World} {B n : Nat} {a : Option Addr} {l : List α}
theorem Row.low (hk : ∀ x, (enc x).length = k) (h : Row enc w B a n l) (hp : Pla a) (j c : Nat) (hj : j ≤ n) (hc : n ≤ c) : Row enc w B (lowA a j c k) (n - j) (l.drop j) := by
  unfold lowA
  split
  · have : j = n := by omega
    subst this
    rw [Nat.sub_self, List.drop_of_length_le (by rw [h.1]; omega)]
    exact Row.nil
  · rcases hp with rfl | ⟨b, o, rfl⟩
    · have h0 : n = 0 := by
        rcases Nat.eq_zero_or_pos n with h0 | h0
        · exact h0
        · obtain ⟨b, o, e, _⟩ := h.2 h0; cases e
      subst h0
      have hl := h.zero
      subst hl
      rw [List.drop_nil]
      have : j = 0 := by omega
      subst this
      exact Row.nil
    · rw [Option.map_some, add_plain]
      exact h.rest hk j hj
theorem Row.head (hk : ∀ x, (enc x).length = k) (h : Row enc w B a n l) (j : Nat) (hj : j ≤ n) : Row enc w B a j (l.take j) := by
  have hn := h.1
  refine Row.mk hk (by simp; omega) fun h0 => ?_
  obtain ⟨b, o, e, hb, hc⟩ := h.cells hk (by omega)
  refine ⟨b, o, e, hb, fun i hi t ht => ?_⟩
  have hi' : i < j := by simp at hi; omega
  rw [hc i (by omega) t ht]
  simp
theorem AccR.pla {base c : Nat} {T : TypeId} (h : AccR enc k w base T a c l) : Pla a := by
  rcases h.2 with ⟨hv, _⟩ | ⟨g, _, _, hv, _⟩
  · injection hv with e _ _; exact .inl e
  · injection hv with e _ _; exact .inr ⟨g, 0, e⟩
end
theorem infoSf14 : (Tryz.prog.info? 99).map (fun i => (i.zero, i.size, i.bytes)) = some (some (.slice none 0 0), 1, 24) := by kernel_rfl
theorem sizeEnt14 (w : World) : (sizeOf 77).run Tryz.prog w = .ok 10 w := size_of14 infoEntZ14 w
theorem sizeSf14 (w : World) : (sizeOf 99).run Tryz.prog w = .ok 1 w := size_of14 infoSf14 w
theorem zero_of14 {P : Program} {T : TypeId} {z : Value} {k b : Nat} (hinfo : (P.info? T).map (fun i => (i.zero, i.size, i.bytes)) = some (some z, k, b)) (w : World) : (zeroValue T).run P w = .ok z w := by
  obtain ⟨i, hi, hzz⟩ := Option.map_eq_some_iff.1 hinfo
  simp only [Prod.mk.injEq] at hzz
  simp [zeroValue, typeInfo, hi, hzz.1]

theorem zeroCells_one (z : Array Value) : Builtin.zeroCells z 1 = z := by
  apply Array.ext
  · rw [size_zeroCells, Nat.one_mul]
  · intro i h1 h2
    simp [Builtin.zeroCells, Nat.mod_eq_of_lt h2, h2]
set_option maxHeartbeats 1600000 in
theorem deletee14_calls (g c m i base : Nat) (l : List Et) (w : World) (h : AccR ent 10 w base 77 (some ⟨g, 0, none⟩) c l) (hm : l.length = m + 1) (hi : i < l.length) (hn : l.length ≤ 1048576) :
    Calls Tryz.prog 18 #[.slice (some ⟨g, 0, none⟩) (m + 1) c, .int .i64 (i : Int), .int .i64 ((i + 1 : Nat) : Int)] w fun e w' => e = .returned (.slice (some ⟨g, 0, none⟩) m c) ∧ AccR ent 10 w' base 77 (some ⟨g, 0, none⟩) c (l.eraseIdx i) ∧ w.grownBy w' (some g) := by
  obtain ⟨hcap, hcm⟩ := h.cap
  unfold maxLen at hcm
  have hs1 := fun W => slice_high (P := Tryz.prog) (a := some ⟨g, 0, none⟩) Tryz.underlying63 sizeEnt14 (.inr ⟨g, 0, rfl⟩) (m + 1) c i (by omega) W
  have hs2 := fun W => slice_low (P := Tryz.prog) (a := some ⟨g, 0, none⟩) Tryz.underlying63 sizeEnt14 (m + 1) c (i + 1) (by omega) W
  have hs3 := fun W => slice_mid (P := Tryz.prog) (a := some ⟨g, 0, none⟩) Tryz.underlying63 sizeEnt14 m c m (m + 1) (by omega) (by omega) W
  have hA : ∃ A2, lowA (some ⟨g, 0, none⟩) (i + 1) c 10 = some A2 ∧ (A2 = ⟨g, (i + 1) * 10, none⟩ ∨ i + 1 = l.length) := by
    unfold lowA
    split
    · exact ⟨_, rfl, .inr (by omega)⟩
    · exact ⟨_, rfl, .inl (by show (⟨g, 0, none⟩ : Addr).add ((i + 1) * 10) = _; rw [add_plain, Nat.zero_add])⟩
  obtain ⟨A2, hA2, hA⟩ := hA
  rw [hA2] at hs2
  have h3 : lowA (some ⟨g, 0, none⟩) m c 10 = some ⟨g, m * 10, none⟩ := by
    unfold lowA
    rw [if_neg (by omega), Option.map_some, add_plain, Nat.zero_add]
  rw [h3] at hs3
  obtain ⟨w3, hrun, hacc, hgr, hsz⟩ := accr_cut (P := Tryz.prog) (ty := 63) (cc := c - (i + 1)) ent_length ent_one h.drew hi Tryz.underlying63 infoEntZ14 hA
  have hel : (l.eraseIdx i).length = m := by rw [List.length_eraseIdx, if_pos hi]; omega
  obtain ⟨w4, hcl, hacc4, hgr4, hsz4⟩ := accr_clear (P := Tryz.prog) (cc := c - m) ent_length hacc (by omega) Tryz.underlying63 (zero_of14 infoEntZ14) (by rw [zeroCells_one]; rfl) (by rw [zeroCells_one]; exact (ent_one ⟨⟨0, 0, 0, 0⟩, ⟨0, 0, 0, 0, 0, 0⟩⟩))
  rw [hel] at hcl
  rw [hm, show m + 1 - 1 = m by omega] at hrun
  rw [show m + 1 - m = 1 by omega] at hs3
  have HRUN := Lib.hid hrun
  have HA4 := Lib.hid hacc4
  have HG := Lib.hid (show w.grownBy w4 (some g) from ⟨(hgr4.os.trans hgr.os), (hgr4.tape.trans hgr.tape), (hgr4.output.trans hgr.output), Nat.le_trans hgr.size hgr4.size, fun j hj hne => (hgr4.block j (Nat.lt_of_lt_of_le hj hgr.size) hne).trans (hgr.block j hj hne)⟩)
  have b1 : (0 : Int) ≤ (i : Int) := by omega
  have b2 : (i : Int) ≤ ((i + 1 : Nat) : Int) := by omega
  have b3 : ((i + 1 : Nat) : Int) ≤ ((m + 1 : Nat) : Int) := by omega
  have b4 : ((m + 1 : Nat) : Int) ≤ (c : Int) := by omega
  have b5 : ((i : Int) == ((i + 1 : Nat) : Int)) = false := by simp; omega
  have hsl : ∀ W, (Instr.sliceAt 63 (.slice (some ⟨g, 0, none⟩) (m + 1) c) (some (.int .i64 (i : Int))) (some (.int .i64 ((i + 1 : Nat) : Int))) (some (.int .i64 ((m + 1 : Nat) : Int)))).run Tryz.prog W = .ok (.slice (lowA (some ⟨g, 0, none⟩) i (m + 1) 10) 1 (m + 1 - i)) W := by
    intro W
    rw [run_sliceAt_slice (P := Tryz.prog) (w := W) 63 _ _ _ _ (elem_of Tryz.underlying63), run_slice_lhm (P := Tryz.prog) (w := W) 63 (some ⟨g, 0, none⟩) (m + 1) c (elem_of Tryz.underlying63) .i64 .i64 .i64 _ _ _ b1 b2 b3 b4]
    rw [show Tryz.prog.elem 63 = 77 by simp [Program.elem, Tryz.underlying63], sizeEnt14 W]
    simp only [sliced, Result.andThen, lowA, Int.toNat_natCast]
    rw [show i + 1 - i = 1 by omega]
  obtain ⟨A9, hA9⟩ : ∃ A9, lowA (some ⟨g, 0, none⟩) i (m + 1) 10 = A9 := ⟨_, rfl⟩
  rw [hA9] at hsl
  obtain ⟨j, hj⟩ : ∃ j, i + 1 = j := ⟨_, rfl⟩
  obtain ⟨M, hM⟩ : ∃ M, m + 1 = M := ⟨_, rfl⟩
  rw [hj] at b2 b3 b5 hs2 hsl hrun HRUN ⊢
  rw [hM] at b3 b4 hs1 hs2 hs3 hsl HRUN ⊢
  clear h hacc hacc4 hgr hgr4 hsz hsz4 hA hA2 h3 hrun hel hA9 hm hi hn hcap hcm hj hM b1 b2 b3 b4
  go_enter Tryz.func18, Tryz.ntmps18
  go_wp2_with fail
  refine region_seq (fun _ => True) [(0, true), (1, true), (2, true), (3, true), (4, true), (5, true), (6, false), (7, true)]
    (by kernel_rfl) (by kernel_rfl) (by kernel_rfl) (by kernel_rfl) (fun _ _ _ _ _ h => h) trivial ?_
  repeat
    refine seq_pure (v := ?_) rfl (by rfl) (fun W hW => ?_) ?_
    rotate_left
    · clear hW
      go_simp
      try with_reducible rfl
    simp only [Act.put, List.setIfInBounds_toArray, List.set_cons_zero, List.set_cons_succ]
  refine seq_make rfl (by rfl) (fun K hK => ?_)
  refine op_append rfl rfl rfl HRUN.out ?_
  refine hK _ w3 (fun _ => True) (fun _ h => h) trivial ?_
  clear hK K HRUN
  repeat
    refine seq_pure (v := ?_) rfl (by rfl) (fun W hW => ?_) ?_
    rotate_left
    · clear hW
      go_simp
      try with_reducible rfl
    simp only [Act.put, List.setIfInBounds_toArray, List.set_cons_zero, List.set_cons_succ]
  refine seq_done ?_
  go_wp2_with fail
  go_ret
  exact ⟨rfl, HA4.out, HG.out⟩
set_option maxHeartbeats 1600000 in
theorem deletef14_calls (g c m i base : Nat) (l : List SF) (w : World) (h : AccR sfc 1 w base 99 (some ⟨g, 0, none⟩) c l) (hm : l.length = m + 1) (hi : i < l.length) (hn : l.length ≤ 1048576) :
    Calls Tryz.prog 38 #[.slice (some ⟨g, 0, none⟩) (m + 1) c, .int .i64 (i : Int), .int .i64 ((i + 1 : Nat) : Int)] w fun e w' => e = .returned (.slice (some ⟨g, 0, none⟩) m c) ∧ AccR sfc 1 w' base 99 (some ⟨g, 0, none⟩) c (l.eraseIdx i) ∧ w.grownBy w' (some g) := by
  obtain ⟨hcap, hcm⟩ := h.cap
  unfold maxLen at hcm
  have hs1 := fun W => slice_high (P := Tryz.prog) (a := some ⟨g, 0, none⟩) Tryz.underlying69 sizeSf14 (.inr ⟨g, 0, rfl⟩) (m + 1) c i (by omega) W
  have hs2 := fun W => slice_low (P := Tryz.prog) (a := some ⟨g, 0, none⟩) Tryz.underlying69 sizeSf14 (m + 1) c (i + 1) (by omega) W
  have hs3 := fun W => slice_mid (P := Tryz.prog) (a := some ⟨g, 0, none⟩) Tryz.underlying69 sizeSf14 m c m (m + 1) (by omega) (by omega) W
  have hA : ∃ A2, lowA (some ⟨g, 0, none⟩) (i + 1) c 1 = some A2 ∧ (A2 = ⟨g, (i + 1) * 1, none⟩ ∨ i + 1 = l.length) := by
    unfold lowA
    split
    · exact ⟨_, rfl, .inr (by omega)⟩
    · exact ⟨_, rfl, .inl (by show (⟨g, 0, none⟩ : Addr).add ((i + 1) * 1) = _; rw [add_plain, Nat.zero_add])⟩
  obtain ⟨A2, hA2, hA⟩ := hA
  rw [hA2] at hs2
  have h3 : lowA (some ⟨g, 0, none⟩) m c 1 = some ⟨g, m * 1, none⟩ := by
    unfold lowA
    rw [if_neg (by omega), Option.map_some, add_plain, Nat.zero_add]
  rw [h3] at hs3
  obtain ⟨w3, hrun, hacc, hgr, hsz⟩ := accr_cut (P := Tryz.prog) (ty := 69) (cc := c - (i + 1)) sfc_length sfc_one h.drew hi Tryz.underlying69 infoSf14 hA
  have hel : (l.eraseIdx i).length = m := by rw [List.length_eraseIdx, if_pos hi]; omega
  obtain ⟨w4, hcl, hacc4, hgr4, hsz4⟩ := accr_clear (P := Tryz.prog) (cc := c - m) sfc_length hacc (by omega) Tryz.underlying69 (zero_of14 infoSf14) (by rw [zeroCells_one]; rfl) (by rw [zeroCells_one]; exact (sfc_one ⟨none, 0, 0, []⟩))
  rw [hel] at hcl
  rw [hm, show m + 1 - 1 = m by omega] at hrun
  rw [show m + 1 - m = 1 by omega] at hs3
  simp only [Nat.mul_one] at hs3 hcl
  have HRUN := Lib.hid hrun
  have HA4 := Lib.hid hacc4
  have HG := Lib.hid (show w.grownBy w4 (some g) from ⟨(hgr4.os.trans hgr.os), (hgr4.tape.trans hgr.tape), (hgr4.output.trans hgr.output), Nat.le_trans hgr.size hgr4.size, fun j hj hne => (hgr4.block j (Nat.lt_of_lt_of_le hj hgr.size) hne).trans (hgr.block j hj hne)⟩)
  have b1 : (0 : Int) ≤ (i : Int) := by omega
  have b2 : (i : Int) ≤ ((i + 1 : Nat) : Int) := by omega
  have b3 : ((i + 1 : Nat) : Int) ≤ ((m + 1 : Nat) : Int) := by omega
  have b4 : ((m + 1 : Nat) : Int) ≤ (c : Int) := by omega
  have b5 : ((i : Int) == ((i + 1 : Nat) : Int)) = false := by simp; omega
  have hsl : ∀ W, (Instr.sliceAt 69 (.slice (some ⟨g, 0, none⟩) (m + 1) c) (some (.int .i64 (i : Int))) (some (.int .i64 ((i + 1 : Nat) : Int))) (some (.int .i64 ((m + 1 : Nat) : Int)))).run Tryz.prog W = .ok (.slice (lowA (some ⟨g, 0, none⟩) i (m + 1) 1) 1 (m + 1 - i)) W := by
    intro W
    rw [run_sliceAt_slice (P := Tryz.prog) (w := W) 69 _ _ _ _ (elem_of Tryz.underlying69), run_slice_lhm (P := Tryz.prog) (w := W) 69 (some ⟨g, 0, none⟩) (m + 1) c (elem_of Tryz.underlying69) .i64 .i64 .i64 _ _ _ b1 b2 b3 b4]
    rw [show Tryz.prog.elem 69 = 99 by simp [Program.elem, Tryz.underlying69], sizeSf14 W]
    simp only [sliced, Result.andThen, lowA, Int.toNat_natCast]
    rw [show i + 1 - i = 1 by omega]
  obtain ⟨A9, hA9⟩ : ∃ A9, lowA (some ⟨g, 0, none⟩) i (m + 1) 1 = A9 := ⟨_, rfl⟩
  rw [hA9] at hsl
  obtain ⟨j, hj⟩ : ∃ j, i + 1 = j := ⟨_, rfl⟩
  obtain ⟨M, hM⟩ : ∃ M, m + 1 = M := ⟨_, rfl⟩
  rw [hj] at b2 b3 b5 hs2 hsl hrun HRUN ⊢
  rw [hM] at b3 b4 hs1 hs2 hs3 hsl HRUN ⊢
  clear h hacc hacc4 hgr hgr4 hsz hsz4 hA hA2 h3 hrun hel hA9 hm hi hn hcap hcm hj hM b1 b2 b3 b4
  go_enter Tryz.func38, Tryz.ntmps38
  go_wp2_with fail
  refine region_seq (fun _ => True) [(0, true), (1, true), (2, true), (3, true), (4, true), (5, true), (6, false), (7, true)]
    (by kernel_rfl) (by kernel_rfl) (by kernel_rfl) (by kernel_rfl) (fun _ _ _ _ _ h => h) trivial ?_
  repeat
    refine seq_pure (v := ?_) rfl (by rfl) (fun W hW => ?_) ?_
    rotate_left
    · clear hW
      go_simp
      try with_reducible rfl
    simp only [Act.put, List.setIfInBounds_toArray, List.set_cons_zero, List.set_cons_succ]
  refine seq_make rfl (by rfl) (fun K hK => ?_)
  refine op_append rfl rfl rfl HRUN.out ?_
  refine hK _ w3 (fun _ => True) (fun _ h => h) trivial ?_
  clear hK K HRUN
  repeat
    refine seq_pure (v := ?_) rfl (by rfl) (fun W hW => ?_) ?_
    rotate_left
    · clear hW
      go_simp
      try with_reducible rfl
    simp only [Act.put, List.setIfInBounds_toArray, List.set_cons_zero, List.set_cons_succ]
  refine seq_done ?_
  go_wp2_with fail
  go_ret
  exact ⟨rfl, HA4.out, HG.out⟩
end Go.Proofs.YtjflbfianncpfaaGreat
