/-
  Contracts of package admit: made, find, with. Condition: at most a thousand entries.
  Contracts of package admit: families. Condition: at most a thousand entries, in order.
  Contracts of package admit: keys; slices.SortFunc of keys. Condition: at most a thousand entries.
-/
import Derived.Test.YtjflbfianncpfaaGreatAdcEG
import Derived.Deep.CutBlock
import Derived.Test.YtjflbfianncpfaaGreatSortK
import Derived.Test.YtjflbfianncpfaaGreatShelfK
namespace Go.Proofs.YtjflbfianncpfaaGreat
set_option maxRecDepth 100000
set_option linter.unusedVariables false
open Go.RowKit

theorem made14_calls (q : Nat) (b : Bool) (w : World) (h : w.cell? ⟨q, 0, none⟩ = some (.bool b)) : Calls Tryz.prog 13 #[.pointer (some ⟨q, 0, none⟩)] w fun e w' => e = .returned (.bool b) ∧ w' = w := by
  go_enter Tryz.func13, Tryz.ntmps13
  go_wp2
  go_ret
  exact ⟨rfl, rfl⟩
theorem made14_nil (w : World) : Calls Tryz.prog 13 #[.pointer none] w fun e w' => e = .returned (.bool false) ∧ w' = w := by
  go_enter Tryz.func13, Tryz.ntmps13
  go_wp2
  go_ret
  exact ⟨rfl, rfl⟩
theorem find14c_calls (q n c : Nat) (A : Option Addr) (l : List Et) (k : Ky) (w : World) (h2 : w.cell? ⟨q, 2, none⟩ = some (.slice A n c)) (h : Row ent w w.heap.size A n l) (hn : n ≤ 1024) :
    Calls Tryz.prog 17 #[.pointer (some ⟨q, 0, none⟩), .agg #[.int .i64 k.tail, .int .i64 k.tun, .int .i64 k.head, .int .i64 k.lsp]] w fun e w' => e = .returned (.int .i64 (idxF (fun x => decide (x.k = k)) l)) ∧ Below w.heap.size w w' := by
  have he : ∀ (args : Array Value) (w : World), (callFunc 34 args).run Tryz.prog w = .ok (.enter 34 args) w := enters_of Tryz.func34 (by kernel_rfl) rfl
  have L1 := Lib.hid (bel_new (Below.refl w.heap.size w) (.cells #[.int .i64 k.tail, .int .i64 k.tun, .int .i64 k.head, .int .i64 k.lsp] 25))
  have B1 := Lib.hid (show Blk (w.alloc (.cells #[.int .i64 k.tail, .int .i64 k.tun, .int .i64 k.head, .int .i64 k.lsp] 25)) w.heap.size 25 (kyc k) from Blk.new w _ _)
  have c2 : (w.alloc (.cells #[.int .i64 k.tail, .int .i64 k.tun, .int .i64 k.head, .int .i64 k.lsp] 25)).cell? ⟨q, 2, none⟩ = some (.slice A n c) := Lib.cell?_alloc_some _ h2
  have hcall := indexf14_calls 34 w.heap.size (fun x => decide (x.k = k)) A n c l (w.alloc (.cells #[.int .i64 k.tail, .int .i64 k.tun, .int .i64 k.head, .int .i64 k.lsp] 25)) ((h.below L1.out).more L1.out.size) (by omega) he (fun x hx W hW => findc14_calls x k w.heap.size W (B1.out.below hW))
  have HC := Lib.hid hcall
  clear h hcall h2 he
  go_enter Tryz.func17, Tryz.ntmps17
  go_upto_region 1 with fail
  generalize w.alloc (.cells #[.int .i64 k.tail, .int .i64 k.tun, .int .i64 k.head, .int .i64 k.lsp] 25) = w1 at *
  go_wp2_with fail
  ((with_reducible refine HC.out.mono ?_))
  rintro e w2 ⟨rfl, hb⟩
  have L2 := Lib.hid (L1.out.trans (hb.mono L1.out.size))
  clear hb HC
  go_wp2_with fail
  go_ret
  exact ⟨rfl, L2.out⟩
/-- Where an entry is put. -/
theorem with_cut {l : List Et} {x : Et} (hx : has14 l x.k = false) {k : Nat} (hk : k ≤ l.length) (hb : ∀ j (hj : j < l.length), j < k → kBef x.k l[j].k = false) (ha : ∀ hj : k < l.length, kBef x.k l[k].k = true) : wIns l x = l.take k ++ x :: l.drop k := by
  rw [has14_false] at hx
  have h := takeWhile_cut (p := fun y : Et => kBef y.k x.k) l k hk (fun j y hj hy => by
    obtain ⟨hjl, rfl⟩ := List.getElem?_eq_some_iff.1 hy
    rcases kBef_total (hx _ (List.getElem_mem hjl)) with h1 | h1
    · exact h1
    · rw [hb j hjl hj] at h1; cases h1) (fun y hy => by
    obtain ⟨hjl, rfl⟩ := List.getElem?_eq_some_iff.1 hy
    exact kBef_asymm (ha hjl))
  unfold wIns
  rw [h.1, h.2]
set_option maxHeartbeats 3200000 in
theorem with14_calls (A : Option Addr) (n c : Nat) (l : List Et) (x : Et) (w : World) (h : Row ent w w.heap.size A n l) (hp : Pla A) (hc : n ≤ c) (hn : n ≤ 1023) (hx : has14 l x.k = false) :
    Calls Tryz.prog 35 #[.slice A n c, .agg (ent x).toArray] w fun e w' => ∃ A2 c2, e = .returned (.slice A2 (wIns l x).length c2) ∧ AccR ent 10 w' w.heap.size 77 A2 c2 (wIns l x) ∧ Below w.heap.size w w' := by
  have he : ∀ (args : Array Value) (w : World), (callFunc 61 args).run Tryz.prog w = .ok (.enter 61 args) w := enters_of Tryz.func61 (by kernel_rfl) rfl
  have L1 := Lib.hid (bel_new (Below.refl w.heap.size w) (.cells (ent x).toArray 77))
  have B1 := Lib.hid (show Blk (w.alloc (.cells (ent x).toArray 77)) w.heap.size 77 (ent x) from Blk.new w _ _)
  have hcall := indexf14_calls 61 w.heap.size (fun y => kBef x.k y.k) A n c l (w.alloc (.cells (ent x).toArray 77)) ((h.below L1.out).more L1.out.size) (by omega) he (fun y hy W hW => withc14_calls y x w.heap.size W (B1.out.below hW))
  have HC := Lib.hid hcall
  have HIN := Lib.hid (show (Tryz.prog.info? 77).map (·.size) = some (ent x).length from infoEntC14)
  -- where it is put
  have hk : ∃ k : Nat, k ≤ n ∧ wIns l x = l.take k ++ x :: l.drop k ∧ ((idxF (fun y => kBef x.k y.k) l = -1 ∧ k = n) ∨ (idxF (fun y => kBef x.k y.k) l = (k : Int))) := by
    rcases idxF_cases (fun y => kBef x.k y.k) l with ⟨h1, h2⟩ | ⟨i, hi, h1, h2, h3⟩
    · refine ⟨n, Nat.le_refl _, with_cut hx (by rw [h.1]; exact Nat.le_refl _) (fun j hj _ => h2 _ (List.getElem_mem hj)) (fun hj => ?_), .inl ⟨h1, rfl⟩⟩
      have := h.1
      omega
    · exact ⟨i, by rw [← h.1]; omega, with_cut hx (by omega) (fun j hj hji => h3 j hj hji) (fun _ => h2), .inr h1⟩
  obtain ⟨k, hkn, hkw, hkr⟩ := hk
  obtain ⟨ll, hll⟩ : ∃ ll, wIns l x = ll := ⟨_, rfl⟩
  rw [hll] at hkw ⊢
  have HKW := Lib.hid hkw
  clear hll
  have hln := h.1
  have hrow := fun (W : World) (hW : Below w.heap.size w W) => (h.below hW).more hW.size
  have HROW := Lib.hid hrow
  have HP := Lib.hid hp
  have HK := Lib.hid (show k ≤ n ∧ n ≤ c ∧ n ≤ 1023 ∧ l.length = n from ⟨hkn, hc, hn, hln⟩)
  have hs1 := fun W => slice_high (P := Tryz.prog) (a := A) Tryz.underlying63 sizeEnt14 hp n c k (by omega) W
  have hs2 := fun W => slice_low (P := Tryz.prog) (a := A) Tryz.underlying63 sizeEnt14 n c k hkn W
  obtain ⟨r, hr⟩ : ∃ r, idxF (fun y => kBef x.k y.k) l = r := ⟨_, rfl⟩
  rw [hr] at HC hkr
  clear h hcall he hrow hp hln hkw hx hr
  go_enter Tryz.func35, Tryz.ntmps35
  go_upto_region 1 with fail
  generalize w.alloc (.cells (ent x).toArray 77) = w1 at *
  go_wp2_with fail
  ((with_reducible refine HC.out.mono ?_))
  rintro e w2 ⟨rfl, hb⟩
  have L2 := Lib.hid (L1.out.trans (hb.mono L1.out.size))
  have B2 := Lib.hid (B1.out.below hb)
  clear hb HC L1 B1
  go_upto_if 10 with fail
  go_cut [5] from 6 to 12 (fun s W => s = .int .i64 (k : Int) ∧ W = w2)
  case first =>
    rcases hkr with ⟨rfl, rfl⟩ | rfl
    · go_wp2_with fail
      go_meet
      exact ⟨rfl, rfl⟩
    · have g1 : ¬ (k : Int) < 0 := by omega
      go_wp2_with fail
      go_meet
      exact ⟨rfl, rfl⟩
  case rest =>
    obtain ⟨rfl, hw⟩ := hcut
    rw [hw]
    clear hw wc
    go_wp2_with fail
    refine region_seq (fun W => Blk W w.heap.size 77 (ent x)) [(0, true), (1, true), (2, true), (3, true), (5, true), (6, true), (7, true), (4, false), (8, false), (9, false), (10, true)]
      (by kernel_rfl) (by kernel_rfl) (by kernel_rfl) (by kernel_rfl) (fun _ _ _ _ _ h => h) B2.out ?_
    repeat first
      | refine seq_load8 (x := .tmp 3) rfl (by rfl) rfl rfl (fun W hW => hW) Tryz.underlying77 rfl HIN.out ?_
        simp only [Act.put, List.setIfInBounds_toArray, List.set_cons_zero, List.set_cons_succ]
      | refine seq_pure (v := ?_) rfl (by rfl) (fun W hW => ?_) ?_
        rotate_left
        · clear hW
          go_simp
          with_reducible rfl
        simp only [Act.put, List.setIfInBounds_toArray, List.set_cons_zero, List.set_cons_succ]
    refine seq_make rfl (by rfl) (fun K hK => ?_)
    unfold ent
    go_simp
    have b3 : Blk (w2.alloc (.cells #[.int .i64 x.k.tail, .int .i64 x.k.tun, .int .i64 x.k.head, .int .i64 x.k.lsp, .int .u64 (x.w.bw : Int), .int .i64 x.w.su, .int .i64 x.w.ho, .int .u32 (x.w.an : Int), .int .u32 (x.w.al : Int), .int .u32 (x.w.no : Int)] 77)).drew w2.heap.size 77 (ent x) := (Blk.new w2 _ (ent x)).drew
    have b30 := (B2.out.alloc (.cells #[.int .i64 x.k.tail, .int .i64 x.k.tun, .int .i64 x.k.head, .int .i64 x.k.lsp, .int .u64 (x.w.bw : Int), .int .i64 x.w.su, .int .i64 x.w.ho, .int .u32 (x.w.an : Int), .int .u32 (x.w.al : Int), .int .u32 (x.w.no : Int)] 77)).drew
    have l3 := (bel_new L2.out (.cells #[.int .i64 x.k.tail, .int .i64 x.k.tun, .int .i64 x.k.head, .int .i64 x.k.lsp, .int .u64 (x.w.bw : Int), .int .i64 x.w.su, .int .i64 x.w.ho, .int .u32 (x.w.an : Int), .int .u32 (x.w.al : Int), .int .u32 (x.w.no : Int)] 77)).drew
    generalize (w2.alloc (.cells #[.int .i64 x.k.tail, .int .i64 x.k.tun, .int .i64 x.k.head, .int .i64 x.k.lsp, .int .u64 (x.w.bw : Int), .int .i64 x.w.su, .int .i64 x.w.ho, .int .u32 (x.w.an : Int), .int .u32 (x.w.al : Int), .int .u32 (x.w.no : Int)] 77)).drew = w3 at *
    refine hK _ w3 (fun W => Blk W w.heap.size 77 (ent x)) (fun W h => h) b30 ?_
    have B3 := Lib.hid b3
    have B30 := Lib.hid b30
    have L3 := Lib.hid l3
    have HQ := Lib.hid L2.out.size
    clear hK K b3 b30 l3
    generalize w2.heap.size = q at *
    refine seq_make rfl (by rfl) (fun K hK => ?_)
    go_simp
    have b4 : Blk (w3.alloc (.cells #[.slice A k c, .slice (some ⟨q, 0, none⟩) 1 1, .slice (lowA A k c 10) (n - k) (c - k)] 63)) w3.heap.size 63 [.slice A k c, .slice (some ⟨q, 0, none⟩) 1 1, .slice (lowA A k c 10) (n - k) (c - k)] := Blk.new w3 _ _
    have b40 := B30.out.alloc (.cells #[.slice A k c, .slice (some ⟨q, 0, none⟩) 1 1, .slice (lowA A k c 10) (n - k) (c - k)] 63)
    have b43 := B3.out.alloc (.cells #[.slice A k c, .slice (some ⟨q, 0, none⟩) 1 1, .slice (lowA A k c 10) (n - k) (c - k)] 63)
    have l4 := bel_new L3.out (.cells #[.slice A k c, .slice (some ⟨q, 0, none⟩) 1 1, .slice (lowA A k c 10) (n - k) (c - k)] 63)
    generalize w3.alloc (.cells #[.slice A k c, .slice (some ⟨q, 0, none⟩) 1 1, .slice (lowA A k c 10) (n - k) (c - k)] 63) = w4 at *
    refine hK _ w4 (fun W => Blk W w.heap.size 77 (ent x)) (fun W h => h) b40 ?_
    obtain ⟨fs, hfs⟩ : ∃ fs : List SF, fs = [⟨A, k, c, l.take k⟩, ⟨some ⟨q, 0, none⟩, 1, 1, [x]⟩, ⟨lowA A k c 10, n - k, c - k, l.drop k⟩] := ⟨_, rfl⟩
    have hrow : Row sfc w4 w4.heap.size (some ⟨w3.heap.size, 0, none⟩) 3 fs := by
      subst hfs
      refine ⟨rfl, fun _ => ⟨w3.heap.size, 0, rfl, b4.lt, fun i hi => ?_⟩⟩
      rw [Nat.zero_add, b4.cell i]
      exact List.getElem?_eq_getElem _
    have hall : Sfs0 w4 w4.heap.size fs := by
      intro p hp
      rw [hfs] at hp
      obtain ⟨hk1, hk2, hk3, hk4⟩ := HK.out
      rcases List.mem_cons.1 hp with rfl | hp
      · exact ⟨(HROW.out w4 l4).head ent_length k hk1, by simp only; omega⟩
      rcases List.mem_cons.1 hp with rfl | hp
      · refine ⟨⟨rfl, fun _ => ⟨q, 0, rfl, b43.lt, fun i hi => ?_⟩⟩, by simp only; omega⟩
        rw [Nat.zero_add, b43.cell i]
        have e : ([x] : List Et).flatMap ent = ent x := by simp
        have hi2 : i < (ent x).length := by rw [← e]; exact hi
        rw [List.getElem?_eq_getElem hi2]
        congr 1
      rcases List.mem_cons.1 hp with rfl | hp
      · exact ⟨(HROW.out w4 l4).low ent_length HP.out k c hk1 hk2, by simp only; omega⟩
      · simp at hp
    have hcat : catF fs = ll := by rw [HKW.out, hfs]; simp [catF]
    have hcc := concate14_calls (some ⟨w3.heap.size, 0, none⟩) 3 3 fs w4 hrow hall (by decide)
    rw [hcat] at hcc
    have HCC := Lib.hid hcc
    have L4 := Lib.hid l4
    have B40 := Lib.hid b40
    clear hK K hcc hcat hall hrow hfs b4 b40 b43 l4
    refine seq_make rfl (by rfl) (fun K hK => ?_)
    go_simp
    ((with_reducible refine HCC.out.mono ?_))
    rintro e w5 ⟨A5, c5, rfl, hacc, hb⟩
    have HA := Lib.hid (hacc.lower L4.out.size)
    have L5 := Lib.hid (L4.out.trans (hb.mono L4.out.size))
    have B5 := Lib.hid (B40.out.below hb)
    clear hacc hb HCC
    go_simp
    refine hK _ w5 (fun W => Blk W w.heap.size 77 (ent x)) (fun W h => h) B5.out ?_
    clear hK K
    repeat
      refine seq_pure (v := ?_) rfl (by rfl) (fun W hW => ?_) ?_
      rotate_left
      · clear hW
        go_simp
        try with_reducible rfl
      simp only [Act.put, List.setIfInBounds_toArray, List.set_cons_zero, List.set_cons_succ]
    refine seq_done ?_
    go_wp2_with fail
    go_ret
    exact ⟨A5, c5, rfl, HA.out, L5.out⟩
end Go.Proofs.YtjflbfianncpfaaGreat

namespace Go.Proofs.YtjflbfianncpfaaGreat
set_option maxRecDepth 100000
set_option linter.unusedVariables false
open Go.RowKit

def lenV14 : Value → Nat
  | .slice _ n _ => n
  | _ => 0
/-- What it answers. -/
def FamC14 (l : List Et) (w : World) (e : Ending) (w' : World) : Prop :=
  ∃ A2 c2 fs, e = .returned (.slice A2 fs.length c2) ∧ AccR sfc 1 w' w.heap.size 99 A2 c2 fs ∧ Sfs w w.heap.size fs ∧ Grp l (fs.map (·.g)) ∧ Below w.heap.size w w'
theorem kinOf_self (x : Et) : kinOf x x = true := kKin_iff.2 rfl
/-- The kin of the first one. -/
theorem fam_cut {x : Et} {t : List Et} {k : Nat} (hk : k ≤ (x :: t).length) (h0 : 0 < k) (hb : ∀ j (hj : j < (x :: t).length), j < k → kKin (x :: t)[j].k x.k = true) (ha : ∀ hj : k < (x :: t).length, kKin (x :: t)[k].k x.k = false) :
    (x :: t).take k = x :: t.takeWhile (kinOf x) ∧ (x :: t).drop k = t.dropWhile (kinOf x) := by
  have h := takeWhile_cut (p := kinOf x) (x :: t) k hk (fun j y hj hy => by
    obtain ⟨hjl, rfl⟩ := List.getElem?_eq_some_iff.1 hy
    exact hb j hjl hj) (fun y hy => by
    obtain ⟨hjl, rfl⟩ := List.getElem?_eq_some_iff.1 hy
    exact ha hjl)
  rw [List.takeWhile_cons_of_pos (kinOf_self x), List.dropWhile_cons_of_pos (kinOf_self x)] at h
  exact ⟨h.1.symm, h.2.symm⟩
theorem sf_push {w : World} {base c : Nat} {A : Option Addr} {l : List SF} (h : AccR sfc 1 w base 99 A c l) (x : SF) (hb : base ≤ w.heap.size) (hl : l.length ≤ 1048576) :
    ∃ A' c' w', (Builtin.append_ #[69, 69] 69 #[.slice A l.length c, .slice (some ⟨w.heap.size, 0, none⟩) 1 1]).run Tryz.prog (w.alloc (.cells (sfc x).toArray 99)) = .ok (.slice A' (l.length + 1) c') w' ∧
      AccR sfc 1 w' base 99 A' c' (l ++ [x]) ∧ w.grownBy w' (blk A) :=
  accr_push sfc_length sfc_one (by omega) h x Tryz.underlying69 infoSf14 rfl hb (by omega) (by omega)
set_option maxHeartbeats 3200000 in
theorem families14_calls (A : Option Addr) (n c : Nat) (l : List Et) (w : World) (h : Row ent w w.heap.size A n l) (hp : Pla A) (hc : n ≤ c) (hn : n ≤ 1024) (hs : Srt14 l) :
    Calls Tryz.prog 15 #[.slice A n c] w (FamC14 l w) := by
  have he : ∀ (args : Array Value) (w : World), (callFunc 32 args).run Tryz.prog w = .ok (.enter 32 args) w := enters_of Tryz.func32 (by kernel_rfl) rfl
  have HR := Lib.hid h
  have HP := Lib.hid hp
  have HC := Lib.hid hc
  have HS := Lib.hid hs
  have HE := Lib.hid he
  unfold FamC14
  clear h hp hc hs he
  go_enter Tryz.func15, Tryz.ntmps15
  go_wp2_with fail
  go_loopw [0, 3] (fun s t wr => ∃ (A1 : Option Addr) (n1 c1 : Nat) (rest : List Et) (A3 : Option Addr) (c3 : Nat) (fs1 : List SF), s = .slice A1 n1 c1 ∧ t = .slice A3 fs1.length c3 ∧ Row ent w w.heap.size A1 n1 rest ∧ Pla A1 ∧ n1 ≤ c1 ∧ Srt14 rest ∧ fs1.length + n1 ≤ n ∧ AccR sfc 1 wr w.heap.size 99 A3 c3 fs1 ∧ Sfs w w.heap.size fs1 ∧ (∀ hs, Grp rest hs → Grp l (fs1.map (·.g) ++ hs)) ∧ Below w.heap.size w wr) (fun s t wr => lenV14 s)
  case atStart => exact ⟨A, n, c, l, none, 0, [], rfl, rfl, HR.out, HP.out, HC.out, HS.out, by simp, AccR.nil _ _ _, by intro p hp; simp at hp, fun hs h => by simpa using h, Below.refl _ _⟩
  case round =>
    clear HR HP HC HS
    obtain ⟨A1, n1, c1, rest, A3, c3, fs1, rfl, rfl, hrow, hpl, hnc, hsr, hlen, hacc, hsf, hgr, hbl⟩ := hrel
    have HR := Lib.hid hrow
    have HP := Lib.hid hpl
    have HNC := Lib.hid (And.intro hnc hlen)
    have HSR := Lib.hid hsr
    have HA := Lib.hid hacc
    have HSF := Lib.hid hsf
    have HG := Lib.hid hgr
    have HB := Lib.hid hbl
    clear hrow hpl hnc hsr hacc hsf hgr hbl
    by_cases h0 : 0 < n1
    · obtain ⟨b, o, rfl, hbw, hcell⟩ := row_ent HR.out h0
      have hrl := HR.out.1
      obtain ⟨x, t, rfl⟩ := List.exists_cons_of_ne_nil (List.ne_nil_of_length_pos (by rw [hrl]; exact h0 : 0 < rest.length))
      have hx := hcell 0 (by simp) wr (HB.out.block b hbw)
      rw [Nat.zero_mul, Nat.add_zero] at hx
      have y0 : wr.cell? ⟨b, o, none⟩ = some (.int .i64 x.k.tail) := hx 0 _ rfl
      have y1 : wr.cell? ⟨b, o + 1, none⟩ = some (.int .i64 x.k.tun) := hx 1 _ rfl
      have y2 : wr.cell? ⟨b, o + 2, none⟩ = some (.int .i64 x.k.head) := hx 2 _ rfl
      have y3 : wr.cell? ⟨b, o + 3, none⟩ = some (.int .i64 x.k.lsp) := hx 3 _ rfl
      have i0 : (0 : Int) < (n1 : Int) := by omega
      have l1 := bel_new (Below.refl wr.heap.size wr) (.cells #[.int .i64 x.k.tail, .int .i64 x.k.tun, .int .i64 x.k.head, .int .i64 x.k.lsp] 25)
      have b1 : Blk (wr.alloc (.cells #[.int .i64 x.k.tail, .int .i64 x.k.tun, .int .i64 x.k.head, .int .i64 x.k.lsp] 25)) wr.heap.size 25 (kyc x.k) := Blk.new wr _ _
      have hbl1 := HB.out.trans (l1.mono HB.out.size)
      have hcall := indexf14_calls 32 wr.heap.size (fun y => !kKin y.k x.k) (some ⟨b, o, none⟩) n1 c1 (x :: t) (wr.alloc (.cells #[.int .i64 x.k.tail, .int .i64 x.k.tun, .int .i64 x.k.head, .int .i64 x.k.lsp] 25)) ((HR.out.below hbl1).more hbl1.size) (by have := HNC.out.2; omega) HE.out (fun y hy W hW => famc14_calls y x.k wr.heap.size W (b1.below hW))
      -- how many
      have hk : ∃ k : Nat, 0 < k ∧ k ≤ n1 ∧ ((idxF (fun y => !kKin y.k x.k) (x :: t) = -1 ∧ k = n1) ∨ idxF (fun y => !kKin y.k x.k) (x :: t) = (k : Int)) ∧ (x :: t).take k = x :: t.takeWhile (kinOf x) ∧ (x :: t).drop k = t.dropWhile (kinOf x) := by
        rcases idxF_cases (fun y => !kKin y.k x.k) (x :: t) with ⟨h1, h2⟩ | ⟨i, hi, h1, h2, h3⟩
        · refine ⟨n1, h0, Nat.le_refl _, .inl ⟨h1, rfl⟩, fam_cut (by rw [hrl]; exact Nat.le_refl _) h0 (fun j hj _ => by have := h2 _ (List.getElem_mem hj); simpa using this) (fun hj => by rw [hrl] at hj; omega)⟩
        · have hi0 : 0 < i := by
            rcases Nat.eq_zero_or_pos i with e | e
            · subst e
              rw [List.getElem_cons_zero] at h2
              rw [show kKin x.k x.k = true from kinOf_self x] at h2
              cases h2
            · exact e
          exact ⟨i, hi0, by rw [← hrl]; omega, .inr h1, fam_cut (by omega) hi0 (fun j hj hji => by have := h3 j hj hji; simpa using this) (fun _ => by simpa using h2)⟩
      obtain ⟨k, hk0, hkn, hkr, hkt, hkd⟩ := hk
      have HH := Lib.hid (show ((x :: t).take k).length = k by rw [List.length_take, hrl]; omega)
      have hsd : Srt14 ((x :: t).drop k) := List.Pairwise.sublist (List.drop_sublist _ _) HSR.out
      have hgr2 : ∀ hs, Grp ((x :: t).drop k) hs → Grp l ((fs1 ++ [(⟨some ⟨b, o, none⟩, k, c1, (x :: t).take k⟩ : SF)]).map (·.g) ++ hs) := by
        intro hs hg
        rw [List.map_append, List.append_assoc]
        refine HG.out _ ?_
        show Grp (x :: t) ((x :: t).take k :: hs)
        rw [hkd] at hg
        obtain ⟨gs, hgs⟩ := grp_of HSR.out
        have := Grp.cut HSR.out hg hgs
        rw [hkt, ← this]
        exact hgs
      have hrow2 : Row ent w w.heap.size (some ⟨b, o, none⟩) k ((x :: t).take k) := HR.out.head ent_length k hkn
      have hrow3 := HR.out.low ent_length (.inr ⟨b, o, rfl⟩) k c1 hkn HNC.out.1
      have hpl3 : Pla (lowA (some ⟨b, o, none⟩) k c1 10) := Pla.low (.inr ⟨b, o, rfl⟩) k c1
      have hnc := HNC.out.1
      have hlen := HNC.out.2
      have hs1 := fun W => slice_high (P := Tryz.prog) (a := some ⟨b, o, none⟩) Tryz.underlying63 sizeEnt14 (.inr ⟨b, o, rfl⟩) n1 c1 k (by omega) W
      have hs2 := fun W => slice_low (P := Tryz.prog) (a := some ⟨b, o, none⟩) Tryz.underlying63 sizeEnt14 n1 c1 k hkn W
      have hsf2 : Sfs w w.heap.size (fs1 ++ [(⟨some ⟨b, o, none⟩, k, c1, (x :: t).take k⟩ : SF)]) := by
        intro p hpm
        rw [List.mem_append, List.mem_singleton] at hpm
        rcases hpm with hpm | rfl
        · exact HSF.out p hpm
        · exact ⟨hrow2, hk0, by simp only; omega, by simp only; omega⟩
      obtain ⟨r, hr⟩ : ∃ r, idxF (fun y => !kKin y.k x.k) (x :: t) = r := ⟨_, rfl⟩
      rw [hr] at hcall hkr
      have HCALL := Lib.hid hcall
      have HKR := Lib.hid hkr
      have HG2 := Lib.hid hgr2
      have HSD := Lib.hid hsd
      have HR3 := Lib.hid hrow3
      have HP3 := Lib.hid hpl3
      have HSF2 := Lib.hid hsf2
      have B1 := Lib.hid b1
      have L1 := Lib.hid hbl1
      have A1' := Lib.hid (HA.out.bel l1)
      have HKK := Lib.hid (And.intro hk0 (And.intro hkn (And.intro hnc hlen)))
      clear hcell hx hbw hcall hkr hkt hkd hr hsd hgr2 hrow2 hrow3 hpl3 hsf2 b1 hbl1 l1 hk0 hkn HA HSR HR hnc hlen h0 hrl
      go_upto_region 4 with fail
      generalize wr.alloc (.cells #[.int .i64 x.k.tail, .int .i64 x.k.tun, .int .i64 x.k.head, .int .i64 x.k.lsp] 25) = w1 at *
      go_wp2_with fail
      ((with_reducible refine HCALL.out.mono ?_))
      rintro e w2 ⟨rfl, hb⟩
      have L2 := Lib.hid (L1.out.trans (hb.mono L1.out.size))
      have A2' := Lib.hid (A1'.out.bel hb)
      clear hb HCALL L1 A1' B1 y0 y1 y2 y3
      go_upto_if 17 with fail
      go_cut [5] from 6 to 28 (fun s W => s = .int .i64 (k : Int) ∧ W = w2)
      case first =>
        rcases HKR.out with ⟨rfl, rfl⟩ | rfl
        · go_wp2_with fail
          go_meet
          exact ⟨rfl, rfl⟩
        · have g1 : ¬ (k : Int) < 0 := by omega
          go_wp2_with fail
          go_meet
          exact ⟨rfl, rfl⟩
      case rest =>
        obtain ⟨rfl, hw⟩ := hcut
        rw [hw]
        clear hw wc
        obtain ⟨A4, c4, w4, hrun, hacc, hgrow⟩ := sf_push A2'.out ⟨some ⟨b, o, none⟩, k, c1, (x :: t).take k⟩ L2.out.size (by have := HKK.out; omega)
        have HRUN := Lib.hid (show (Builtin.append_ #[69, 69] 69 #[.slice A3 fs1.length c3, .slice (some ⟨w2.heap.size, 0, none⟩) 1 1]).run Tryz.prog (w2.alloc (.cells #[.slice (some ⟨b, o, none⟩) k c1] 99)) = .ok (.slice A4 (fs1.length + 1) c4) w4 from hrun)
        have HA4 := Lib.hid hacc
        have HB4 := Lib.hid (belr_acc L2.out A2'.out hgrow)
        clear hrun hacc hgrow
        go_wp2_with (at_builtin; refine step_append (o := ⟨some 25, _, _, _, _, _⟩) rfl rfl rfl rfl HRUN.out ?_)
        go_roundw
        case rel => exact ⟨_, n1 - k, c1 - k, _, A4, c4, _, rfl, by simp, HR3.out, HP3.out, by have := HKK.out; omega, HSD.out, by have := HKK.out; simp; omega, HA4.out, HSF2.out, HG2.out, HB4.out⟩
        case measure => have := HKK.out; simp [lenV14]; omega
    · have h0' : n1 = 0 := by omega
      subst h0'
      have hr := HR.out.zero
      subst hr
      have hg := HG.out [] Grp.nil
      rw [List.append_nil] at hg
      have HG2 := Lib.hid hg
      clear hg h0
      go_wp2_with fail
      go_ret
      exact ⟨A3, c3, fs1, rfl, HA.out, HSF.out, HG2.out, HB.out⟩
end Go.Proofs.YtjflbfianncpfaaGreat

namespace Go.Proofs.YtjflbfianncpfaaGreat
set_option maxRecDepth 100000
set_option linter.unusedVariables false
open Go.RowKit

instance : Inhabited Ky := ⟨⟨0, 0, 0, 0⟩⟩
theorem by14 (x y : Ky) (W : World) : Calls Tryz.prog 68 #[.agg #[.int .i64 x.tail, .int .i64 x.tun, .int .i64 x.head, .int .i64 x.lsp], .agg #[.int .i64 y.tail, .int .i64 y.tun, .int .i64 y.head, .int .i64 y.lsp]] W fun e w' => e = .returned (.int .i64 (ordK x y)) ∧ ∃ q os', w' = Go.Sort.grow (W.drewN q) os' := by
  refine (order14_worlds x y W).mono ?_
  rintro e w' ⟨h1, a, b, c, rfl⟩
  exact ⟨h1, 1, _, by rw [Go.Sort.alloc_eq_grow, Go.Sort.alloc_eq_grow, Go.Sort.alloc_eq_grow, Go.Sort.grow_grow, Go.Sort.grow_grow]; rfl⟩
theorem lt14 (x y : Ky) : ltOf ordK x y = kBef x y := by unfold ltOf; exact ordK_lt x y
theorem swo14 : Go.Sort.SWO (ltOf ordK) where
  irrefl x := by rw [lt14]; exact kBef_irrefl x
  trans x y z h1 h2 := by rw [lt14] at *; exact kBef_trans h1 h2
  ntrans x y z h1 h2 := by
    rw [lt14] at *
    rcases ordK_cases x z with ⟨h, _⟩ | ⟨h, _⟩ | ⟨h, _⟩
    · exfalso
      rcases ordK_cases x y with ⟨h3, _⟩ | ⟨h3, _⟩ | ⟨h3, _⟩
      · rw [h3] at h1; cases h1
      · have := kBef_trans h3 h
        rw [this] at h2; cases h2
      · subst h3
        rw [h] at h2; cases h2
    · exact kBef_asymm h
    · subst h; exact kBef_irrefl x
theorem sortk_some {w : World} {base c g : Nat} {l : List Ky} (h : AccR kyc 4 w base 25 (some ⟨g, 0, none⟩) c l) (hl : l.length ≤ 1099511627776) :
    Calls Tryz.prog 67 #[.slice (some ⟨g, 0, none⟩) l.length c, .func (.func 68) #[] #[]] w fun e w' =>
      e = .returned (.tuple #[]) ∧ ∃ ts : List Ky, ts.Perm l ∧ ts.Pairwise (fun a b => kBef b a = false) ∧ AccR kyc 4 w' base 25 (some ⟨g, 0, none⟩) c ts ∧ w.grownBy w' (some g) := by
  have eg : ∀ args w, (callFunc 68 args).run Tryz.prog w = .ok (.enter 68 args) w := enters_of Tryz.func68 (by kernel_rfl) rfl
  have hcon := AnyQ.slices_SortFunc Tryz.sortK 4 Tryz.isAgg25 Tryz.sizeOf25 kyc kyc_length kyc_one ordK swo14 68 #[] g 0 c l.toArray w eg (fun _ _ _ _ x y => by14 x y _) (accr_holds kyc_length h) (AccR.ge h rfl).2 (by simp; omega)
  change Calls Tryz.prog 67 _ _ _ at hcon
  have hs : l.toArray.size = l.length := by simp
  rw [hs] at hcon
  refine hcon.mono ?_
  rintro e w' ⟨rfl, d', n, os, hp, hso, rfl⟩
  have hp' : d'.toList.Perm l := by
    have := Go.Proofs.YtjflbfianncpfaaGreat.perm_of_in (d := l.toArray) (d' := d') (by rw [hs]; exact hp)
    simpa using this
  have hz : d'.size = l.length := by have := hp'.length_eq; simpa using this
  have hpw := pairwise_of_in (d := d') (lt := ltOf ordK) (by rw [hz]; exact hso)
  refine ⟨rfl, d'.toList, hp', hpw.imp (fun {a b} hab => by rw [lt14] at hab; exact hab), ?_, grown_sortedK d'⟩
  have := accr_sorted (n := n) (os := os) kyc_length h d'.toList hp'.length_eq
  simpa using this
theorem sortk_none (p : Option Addr) (c : Nat) (w : World) : Calls Tryz.prog 67 #[.slice p 0 c, .func (.func 68) #[] #[]] w fun e w' => e = .returned (.tuple #[]) ∧ w' = w :=
  AnyF.slices_SortFunc_none Tryz.sortK p c _ w
theorem infoKey14 : (Tryz.prog.info? 25).map (fun i => (i.zero, i.size, i.bytes)) = some (some (.agg #[.int .i64 0, .int .i64 0, .int .i64 0, .int .i64 0]), 4, 32) := by kernel_rfl
theorem key_push {w : World} {base c : Nat} {A : Option Addr} {l : List Ky} (h : AccR kyc 4 w base 25 A c l) (x : Ky) (hb : base ≤ w.heap.size) (hl : l.length ≤ 1048576) :
    ∃ A' c' w', (Builtin.append_ #[48, 48] 48 #[.slice A l.length c, .slice (some ⟨w.heap.size, 0, none⟩) 1 1]).run Tryz.prog (w.alloc (.cells (kyc x).toArray 25)) = .ok (.slice A' (l.length + 1) c') w' ∧
      AccR kyc 4 w' base 25 A' c' (l ++ [x]) ∧ w.grownBy w' (blk A) :=
  accr_push kyc_length kyc_one (by omega) h x Tryz.underlying48 infoKey14 rfl hb (by omega) (by omega)
/-- What it answers. -/
def KeysP14 (l : List Et) (w : World) (e : Ending) (w' : World) : Prop :=
  ∃ A2 c2 ks, e = .returned (.slice A2 ks.length c2) ∧ AccR kyc 4 w' w.heap.size 25 A2 c2 ks ∧ ks.Perm (l.map (·.k)) ∧ ks.Pairwise (fun a b => kBef b a = false) ∧ Below w.heap.size w w'
set_option maxHeartbeats 3200000 in
theorem keysc14_calls (A : Option Addr) (n c : Nat) (l : List Et) (w : World) (h : Row ent w w.heap.size A n l) (hn : n ≤ 1024) :
    Calls Tryz.prog 40 #[.slice A n c] w (KeysP14 l w) := by
  have HR := Lib.hid h
  have HLEN := Lib.hid h.1
  have HN := Lib.hid hn
  have HIN := Lib.hid (show ∀ x, (Tryz.prog.info? 77).map (·.size) = some (ent x).length from fun x => infoEntC14)
  have HZL := Lib.hid (show ∀ x, ([.int .i64 0, .int .i64 0, .int .i64 0, .int .i64 0, .int .u64 0, .int .i64 0, .int .i64 0, .int .u32 0, .int .u32 0, .int .u32 0] : List Value).length = (ent x).length from fun x => rfl)
  have HONE := Lib.hid ent_one
  unfold KeysP14
  clear h hn
  go_enter Tryz.func40, Tryz.ntmps40
  go_wp2_with fail
  go_loopw [3, 8] (fun s t wr => ∃ (j : Nat) (A2 : Option Addr) (c2 : Nat), j ≤ n ∧ s = .slice A2 j c2 ∧ t = .int .i64 (j : Int) ∧ AccR kyc 4 wr w.heap.size 25 A2 c2 ((l.take j).map (·.k)) ∧ Below w.heap.size w wr) (fun s t wr => n - (intOf t).toNat)
  case atStart => exact ⟨0, none, 0, by omega, rfl, rfl, AccR.nil _ _ _, Below.refl _ _⟩
  case round =>
    obtain ⟨j, A2, c2, hj, rfl, rfl, hacc, hbl⟩ := hrel
    have HA := Lib.hid hacc
    have HB := Lib.hid hbl
    clear hacc hbl
    by_cases hlt : j < n
    · obtain ⟨b, o, rfl, hbw, hcell⟩ := row_ent HR.out (by omega)
      have hjl : j < l.length := by have := HLEN.out; omega
      have HX := Lib.hid (hcell j hjl wr (HB.out.block b hbw))
      have hsn : (l.take (j + 1)).map (·.k) = (l.take j).map (·.k) ++ [l[j].k] := by rw [List.take_succ_eq_append_getElem hjl, List.map_append]; rfl
      obtain ⟨x, hx⟩ : ∃ x, l[j] = x := ⟨_, rfl⟩
      rw [hx] at HX hsn
      have hl2 : ((l.take j).map (·.k)).length = j := by simp; omega
      obtain ⟨ks, hks⟩ : ∃ ks, (l.take j).map (·.k) = ks := ⟨_, rfl⟩
      rw [hks] at HA hsn hl2
      have b5 := Lib.hid (show Blk (wr.alloc (.cells #[.int .i64 0, .int .i64 0, .int .i64 0, .int .i64 0, .int .u64 0, .int .i64 0, .int .i64 0, .int .u32 0, .int .u32 0, .int .u32 0] 77)) wr.heap.size 77 [.int .i64 0, .int .i64 0, .int .i64 0, .int .i64 0, .int .u64 0, .int .i64 0, .int .i64 0, .int .u32 0, .int .u32 0, .int .u32 0] from Blk.new wr _ _)
      have l5 := Lib.hid (bel_new HB.out (.cells #[.int .i64 0, .int .i64 0, .int .i64 0, .int .i64 0, .int .u64 0, .int .i64 0, .int .i64 0, .int .u32 0, .int .u32 0, .int .u32 0] 77))
      have a5 := Lib.hid (HA.out.alloc (.cells #[.int .i64 0, .int .i64 0, .int .i64 0, .int .i64 0, .int .u64 0, .int .i64 0, .int .i64 0, .int .u32 0, .int .u32 0, .int .u32 0] 77))
      have hgt := HA.out.pla
      have HNE := Lib.hid (show ∀ g, blk A2 = some g → g ≠ wr.heap.size from fun g hg => by have := (HA.out.ge hg).2; omega)
      have i1 : (j : Int) < (n : Int) := by omega
      have i2 : IntKind.i64.wrap ((j : Int) + 1) = ((j + 1 : Nat) : Int) := by have := HN.out; rw [IntWalk.i64_in _ (by omega)]; omega
      have HJ := Lib.hid (And.intro hlt hsn)
      have HL2 := Lib.hid hl2
      have HQ := Lib.hid HB.out.size
      clear hcell hbw hsn hx hks hl2 hgt hj hlt hjl
      go_upto_region 5 with (first | (refine step_load_at (o := ⟨some 11, _, _, _, _, _⟩) rfl rfl rfl HX.out Tryz.underlying77 rfl (HIN.out _) ?_) | ((with_reducible refine step_store (o := ⟨none, _, _, _, _, _⟩) (vs := ent x) (ty := 77) (x := .tmp 5) (y := .tmp 11) ?_ ?_ ?_ ?_ b5.out (HIN.out _) (HZL.out _) (HONE.out _) ?_); (rfl); (rfl); (rfl); (rfl); intro w2 hb2 hg2 hs2))
      have A2' := Lib.hid (show AccR kyc 4 w2 w.heap.size 25 A2 c2 ks from a5.out.kept hg2 (fun g hg e => HNE.out g hg (by injection e with e; exact e.symm)))
      have L2 := Lib.hid (bel_upd l5.out hg2 (Nat.le_refl _) HQ.out)
      have y0 : w2.cell? ⟨wr.heap.size, 0, none⟩ = some (.int .i64 x.k.tail) := hb2.cell 0
      have y1 : w2.cell? ⟨wr.heap.size, 1, none⟩ = some (.int .i64 x.k.tun) := hb2.cell 1
      have y2 : w2.cell? ⟨wr.heap.size, 2, none⟩ = some (.int .i64 x.k.head) := hb2.cell 2
      have y3 : w2.cell? ⟨wr.heap.size, 3, none⟩ = some (.int .i64 x.k.lsp) := hb2.cell 3
      clear hb2 hg2 hs2 b5 l5 a5 HX HA HB
      obtain ⟨A4, c4, w4, hrun, hacc, hgrow⟩ := key_push A2'.out x.k L2.out.size (by have := HL2.out; have := HJ.out.1; have := HN.out; omega)
      rw [HL2.out] at hrun
      have HRUN := Lib.hid (show (Builtin.append_ #[48, 48] 48 #[.slice A2 j c2, .slice (some ⟨w2.heap.size, 0, none⟩) 1 1]).run Tryz.prog (w2.alloc (.cells #[.int .i64 x.k.tail, .int .i64 x.k.tun, .int .i64 x.k.head, .int .i64 x.k.lsp] 25)) = .ok (.slice A4 (j + 1) c4) w4 from hrun)
      have HA4 := Lib.hid (show AccR kyc 4 w4 w.heap.size 25 A4 c4 ((l.take (j + 1)).map (·.k)) by rw [HJ.out.2]; exact hacc)
      have HB4 := Lib.hid (belr_acc L2.out A2'.out hgrow)
      clear hrun hacc hgrow A2' L2
      go_wp2_with (at_builtin; refine step_append (o := ⟨some 16, _, _, _, _, _⟩) rfl rfl rfl rfl HRUN.out ?_)
      go_roundw
      case rel => exact ⟨j + 1, A4, c4, by have := HJ.out; omega, rfl, by first | rfl | (simp; omega), HA4.out, HB4.out⟩
      case measure => have := HJ.out.1; simp [intOf]; omega
    · have i1 : ¬ (j : Int) < (n : Int) := by omega
      have hjn : l.take j = l := by rw [show j = n by omega, ← HLEN.out]; exact List.take_length
      rw [hjn] at HA
      have hl2 : (l.map (·.k)).length = j := by have := HLEN.out; simp; omega
      obtain ⟨ks, hks⟩ : ∃ ks, l.map (·.k) = ks := ⟨_, rfl⟩
      rw [hks] at HA hl2
      have hj1024 : j ≤ 1024 := by have := HN.out; omega
      clear hjn hj hlt
      subst hl2
      rcases Nat.eq_zero_or_pos ks.length with h0 | h0
      · have hk0 := List.eq_nil_of_length_eq_zero h0
        subst hk0
        simp only [List.length_nil] at i1
        have hsort := sortk_none A2 c2 wr
        have HS := Lib.hid hsort
        have HK := Lib.hid hks
        clear hsort h0 hks
        go_wp2_with fail
        ((with_reducible refine HS.out.mono ?_))
        rintro e w2 ⟨rfl, rfl⟩
        go_wp2_with fail
        go_ret
        exact ⟨A2, c2, [], rfl, HA.out, by rw [HK.out], List.Pairwise.nil, HB.out⟩
      · obtain ⟨g, rfl⟩ := HA.out.at0 h0
        have hsort := sortk_some HA.out (by omega)
        have HG := Lib.hid (HA.out.ge rfl)
        have HS := Lib.hid hsort
        have HK := Lib.hid hks
        clear hsort h0 hks
        go_wp2_with fail
        ((with_reducible refine HS.out.mono ?_))
        rintro e w2 ⟨rfl, ts, hp, hpw, ha2, hg2⟩
        have HLN := Lib.hid hp.length_eq
        have A3 := Lib.hid ha2
        have B3 := Lib.hid (HB.out.grown hg2 HB.out.size (fun j hj => by cases hj; exact HG.out.1))
        have HP := Lib.hid (And.intro hp hpw)
        rw [← HLN.out]
        clear hp hpw ha2 hg2 HS
        go_wp2_with fail
        go_ret
        exact ⟨_, c2, ts, rfl, A3.out, by rw [HK.out]; exact HP.out.1, HP.out.2, B3.out⟩
end Go.Proofs.YtjflbfianncpfaaGreat
