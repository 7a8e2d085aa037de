/-
  The document's routes (viaductref11): All. Condition: the links read as links, at most 2^30 of them.
-/
import Derived.Test.YtkagfgnjfdlicaaSpfW
import Derived.Test.YtkagfgnjfdlicaaGraphJ
import Derived.Deep.CutBlock
namespace Go.Proofs.Ytkagfgnjfdlicaa
set_option maxRecDepth 100000
open Go.RowKit

theorem net_of_chk {n : Int} {L : List Lk} (h : chk n L = 0) : 1 ≤ n ∧ n ≤ 16 ∧ L.length ≤ 64 ∧ NetOk n L := by
  unfold chk at h
  split at h
  · split at h
    · omega
    · split at h
      · rename_i h1 h2 h3
        refine ⟨h1.1, h1.2, by omega, fun z hz => ?_⟩
        simp only [netB, Bool.and_eq_true, List.all_eq_true] at h3
        have := h3.1 z hz
        simp only [vld, gwn, Bool.and_eq_true, decide_eq_true_eq] at this
        omega
      · omega
  · omega
/-- An operation behind a guard that does not hold is not carried out. -/
theorem seq_unmakeS {P : Program} {ops : Array Oper} {Q : Exit → Act → World → Prop} {S : World → Prop} {i : Nat} {r : List (Nat × Bool)} {a : Act} {w : World} {o : Oper} (ho : ops.toList[i]? = some o) (hw : Region.wanted o (yielded ops a.tmps) = false) (hS : S w)
    (h : wpSeq P ops Q S r (a.put o.dst undef) w) : wpSeq P ops Q S ((i, false) :: r) a w := by
  refine wpOp_step (o := o) (by rw [← Array.getElem?_toList]; exact ho) (fun K hK => ?_)
  rw [if_neg (by rw [hw]; exact Bool.false_ne_true)]
  exact hK _ _ ⟨S, fun _ h => h, hS, h⟩
theorem fold_take {L : List Lk} {u : Nat} (hu : u < L.length) (S : List (Option (Int × List Int))) : (L.take (u + 1)).foldl rlx S = rlx ((L.take u).foldl rlx S) L[u] := by
  rw [List.take_succ_eq_append_getElem hu, List.foldl_append]; rfl
theorem rlx_none {S : List (Option (Int × List Int))} {z : Lk} (h : sat S z.f = none) : rlx S z = S := by unfold rlx; rw [h]
theorem rlx_in {S : List (Option (Int × List Int))} {z : Lk} {c : Int} {r : List Int} (h : sat S z.f = some (c, r)) (ht : z.t ∈ r) : rlx S z = S := by unfold rlx; rw [h]; simp [ht]
theorem rlx_set {S : List (Option (Int × List Int))} {z : Lk} {c : Int} {r : List Int} (h : sat S z.f = some (c, r)) (ht : z.t ∉ r) (hb : ∀ q, sat S z.t = some q → bet (c + z.m, r ++ [z.t]) q) : rlx S z = S.set z.t.toNat (some (c + z.m, r ++ [z.t])) := by
  unfold rlx
  rw [h]
  simp only [ht, if_false]
  cases h2 : sat S z.t with
  | none => rfl
  | some q => simp only [hb q h2, if_true]
theorem rlx_not {S : List (Option (Int × List Int))} {z : Lk} {c : Int} {r : List Int} {q : Int × List Int} (h : sat S z.f = some (c, r)) (ht : z.t ∉ r) (h2 : sat S z.t = some q) (hb : ¬ bet (c + z.m, r ++ [z.t]) q) : rlx S z = S := by
  unfold rlx
  rw [h]
  simp only [ht, if_false]
  rw [h2]
  simp [hb]
theorem sat_get {S : List (Option (Int × List Int))} {i : Nat} (h : i < S.length) : S[i]? = some (sat S (i : Int)) := by
  simp [sat, List.getD_eq_getElem?_getD, h]
/-- What the document's All answers. -/
def RAllPost (w : World) (n : Int) (L : List Lk) (a : Int) (e : Ending) (w' : World) : Prop :=
  Below w.heap.size w w' ∧ ((¬ (chk n L = 0 ∧ 0 ≤ a ∧ a < n) ∧ e = .returned (.tuple #[.slice none 0 0, .int .i64 2])) ∨
    (chk n L = 0 ∧ 0 ≤ a ∧ a < n ∧ ∃ g c S xs, e = .returned (.tuple #[.slice (some ⟨g, 0, none⟩) xs.length c, .int .i64 0]) ∧ Wys w w' g c S xs ∧ AllW n L a S))

set_option maxRecDepth 100000 in
set_option maxHeartbeats 4000000 in
theorem rall_calls (n : Int) (p : Option Addr) (m cl : Nat) (L : List Lk) (a : Int) (w : World) (h : Row lkc w w.heap.size p m L) (hm : m ≤ 1073741824) :
    Calls Try.prog 14 #[.int .i64 n, .slice p m cl, .int .i64 a] w (RAllPost w n L a) := by
  have HR := Lib.hid h
  have hck := rcheck_calls n p m cl L w h hm
  by_cases hc : chk n L = 0 ∧ 0 ≤ a ∧ a < n
  case neg =>
    have HC := Lib.hid hc
    by_cases h0 : chk n L = 0
    · rw [h0] at hck
      by_cases h1 : 0 ≤ a
      · have h2 : ¬ a < n := fun h2 => hc ⟨h0, h1, h2⟩
        have h3 : ¬ a < 0 := by omega
        have h4 : n ≤ a := by omega
        clear hc h0 h1 h2 h
        go_enter Try.func14, Try.ntmps14
        go_wp2_with fail
        ((with_reducible refine hck.mono ?_))
        rintro e w1 ⟨rfl, hb⟩
        go_wp2_with fail
        go_ret2
        exact ⟨hb, .inl ⟨HC.out, rfl⟩⟩
      · have h3 : a < 0 := by omega
        clear hc h0 h1 h
        go_enter Try.func14, Try.ntmps14
        go_wp2_with fail
        ((with_reducible refine hck.mono ?_))
        rintro e w1 ⟨rfl, hb⟩
        go_wp2_with fail
        go_ret2
        exact ⟨hb, .inl ⟨HC.out, rfl⟩⟩
    · generalize chk n L = e0 at hck h0
      clear hc h
      go_enter Try.func14, Try.ntmps14
      go_wp2_with fail
      ((with_reducible refine hck.mono ?_))
      rintro e w1 ⟨rfl, hb⟩
      go_wp2_with fail
      go_ret2
      exact ⟨hb, .inl ⟨HC.out, rfl⟩⟩
  obtain ⟨h0, ha0, han⟩ := hc
  have hnet := net_of_chk h0
  obtain ⟨N, rfl⟩ : ∃ N : Nat, n = (N : Int) := ⟨n.toNat, by omega⟩
  obtain ⟨k, rfl⟩ : ∃ k : Nat, a = (k : Int) := ⟨a.toNat, by omega⟩
  rw [h0] at hck
  have HC := Lib.hid (And.intro h0 (And.intro ha0 han))
  have HNET := Lib.hid hnet
  have N16 : N ≤ 16 := by omega
  have N1 : 1 ≤ N := by omega
  have kN : k < N := by omega
  have g1 : ¬ (k : Int) < 0 := by omega
  have g2 : ¬ (N : Int) ≤ (k : Int) := by omega
  have d1 : decide ((k : Int) < 0) = false := by simp
  have d2 : decide ((N : Int) ≤ (k : Int)) = false := by simp; omega
  have d3 : decide (N ≤ k) = false := by simp; omega
  clear h hnet h0 ha0 han g1 g2
  go_enter Try.func14, Try.ntmps14
  go_wp2_with fail
  ((with_reducible refine hck.mono ?_))
  rintro e w1 ⟨rfl, hb⟩
  have B1 := Lib.hid hb
  clear hb hck
  go_wp2_with fail
  clear d1 d2 d3
  go_loopw [8, 9] (fun s t W => ∃ (i c1 : Nat) (A : Option Addr), s = .slice A i c1 ∧ t = .int .i64 (i : Int) ∧ i ≤ N ∧ AccR wenc 2 W w.heap.size 37 A c1 (List.replicate i ⟨none, 0, 0, -1⟩) ∧ Below w.heap.size w W) (fun s t W => N - (intOf t).toNat)
  case atStart => exact ⟨0, 0, none, rfl, rfl, Nat.zero_le _, AccR.nil _ _ _, B1.out⟩
  case round =>
    obtain ⟨i, c1, A, rfl, rfl, hi, hacc, hb⟩ := hrel
    have HA := Lib.hid hacc
    have HB := Lib.hid hb
    clear hacc hb
    by_cases hlt : i < N
    · have i1 : (i : Int) < (N : Int) := by omega
      obtain ⟨A9, c9, w9, r9, a9, g9⟩ := accr_push (P := Try.prog) wenc_length wenc_one (by omega) HA.out ⟨none, 0, 0, -1⟩ (ty := 33) Try.underlying33 infoWay3 rfl HB.out.size (by rw [List.length_replicate]; omega) (by rw [List.length_replicate]; omega)
      rw [List.length_replicate] at r9
      rw [show List.replicate i (⟨none, 0, 0, -1⟩ : Wc) ++ [⟨none, 0, 0, -1⟩] = List.replicate (i + 1) ⟨none, 0, 0, -1⟩ from List.replicate_succ'.symm] at a9
      have B9 := Lib.hid (show Below w.heap.size w w9 from belr_acc HB.out HA.out g9)
      have A9' := Lib.hid a9
      have R9 := Lib.hid (show (Builtin.append_ #[33, 33] 33 #[.slice A i c1, .slice (some ⟨wr.heap.size, 0, none⟩) 1 1]).run Try.prog (wr.alloc (.cells #[.slice none 0 0, .int .i64 (-1)] 37)) = .ok (.slice A9 (i + 1) c9) w9 from r9)
      clear r9 a9 g9
      go_wp2_with (at_builtin; refine step_append rfl rfl rfl rfl R9.out ?_)
      go_roundw
      case rel => exact ⟨i + 1, c9, A9, rfl, rfl, by omega, A9'.out, B9.out⟩
      case measure => simp [intOf]; omega
    · obtain rfl : i = N := by omega
      have i1 : ¬ (i : Int) < (i : Int) := by omega
      obtain ⟨g, rfl⟩ : ∃ g, A = some ⟨g, 0, none⟩ := by
        rcases HA.out.2 with ⟨_, h0⟩ | ⟨g', cap, cur, hv, _⟩
        · rw [List.length_replicate] at h0; omega
        · injection hv with e; exact ⟨g', e⟩
      clear hlt hi
      have hw0 : Wys w wr g c1 (List.replicate i none) (List.replicate i ⟨none, 0, 0, -1⟩) := by
        refine ⟨HA.out, by simp, fun j x q hx hq => ?_, HB.out⟩
        rw [List.getElem?_replicate] at hx hq
        split at hx
        · rename_i hj
          rw [if_pos hj] at hq
          injection hx with hx
          injection hq with hq
          subst hx
          subst hq
          exact ⟨rfl, rfl⟩
        · cases hx
      have hw1 := hw0.below (bel_new (Below.refl _ _) (.cells #[.int .i64 (k : Int)] 3))
      have hfb := Blk.new wr 3 [.int .i64 (k : Int)]
      have hglt := hw0.lt.2
      have hsz : (wr.alloc (.cells #[.int .i64 (k : Int)] 3)).heap.size = wr.heap.size + 1 := by simp
      have hxk : (List.replicate i (⟨none, 0, 0, -1⟩ : Wc))[k]? = some ⟨none, 0, 0, -1⟩ := by rw [List.getElem?_replicate, if_pos kN]
      have f0 := hw1.free (k * 2)
      have f1 := hw1.free (k * 2 + 1)
      have c0 : (wr.alloc (.cells #[.int .i64 (k : Int)] 3)).cell? ⟨g, k * 2, none⟩ = some (.slice none 0 0) := hw1.range hxk 0 _ rfl
      have c1' : (wr.alloc (.cells #[.int .i64 (k : Int)] 3)).cell? ⟨g, k * 2 + 1, none⟩ = some (.int .i64 (-1)) := hw1.range hxk 1 _ rfl
      have hok : WayOk (wr.alloc (.cells #[.int .i64 (k : Int)] 3)) w.heap.size g ⟨some ⟨wr.heap.size, 0, none⟩, 1, 1, 0⟩ (some (0, [(k : Int)])) := by
        refine ⟨rfl, Int.le_refl _, rfl, ⟨rfl, fun _ => ⟨wr.heap.size, 0, rfl, by rw [hsz]; omega, fun j hj => ?_⟩⟩, fun b o e => ?_⟩
        · have : j = 0 := by simp [ei] at hj; exact hj
          subst this
          exact hfb.cell 0
        · injection e with e
          injection e with e _
          have := HB.out.size
          exact ⟨by omega, by omega⟩
      have hw2 := hw1.store (i := k) ⟨some ⟨wr.heap.size, 0, none⟩, 1, 1, 0⟩ (some (0, [(k : Int)])) hok
      have hst : (List.replicate i (none : Option (Int × List Int))).set k (some (0, [(k : Int)])) = st0 (i : Int) (k : Int) := by unfold st0; simp
      rw [hst] at hw2
      have hw2' : Wys w (((wr.alloc (.cells #[.int .i64 (k : Int)] 3)).setCell ⟨g, k * 2, none⟩ (.slice (some ⟨wr.heap.size, 0, none⟩) 1 1)).setCell ⟨g, k * 2 + 1, none⟩ (.int .i64 0)) g c1 (st0 (i : Int) (k : Int)) ((List.replicate i (⟨none, 0, 0, -1⟩ : Wc)).set k ⟨some ⟨wr.heap.size, 0, none⟩, 1, 1, 0⟩) := hw2
      have kk : (k : Int) < (i : Int) := by omega
      clear hw0 hw1 hfb hglt hsz hxk hok hw2 hst
      go_upto_region 9 with fail
      generalize (((wr.alloc (.cells #[.int .i64 (k : Int)] 3)).setCell ⟨g, k * 2, none⟩ (.slice (some ⟨wr.heap.size, 0, none⟩) 1 1)).setCell ⟨g, k * 2 + 1, none⟩ (.int .i64 0)) = w5 at hw2' ⊢
      generalize (List.replicate i (⟨none, 0, 0, -1⟩ : Wc)).set k ⟨some ⟨wr.heap.size, 0, none⟩, 1, 1, 0⟩ = xs0 at hw2'
      have W5 := Lib.hid hw2'
      have NT0 := Lib.hid (st0_ntd (L := L) (n := (i : Int)) (a := (k : Int)) HC.out.2)
      have HLM := Lib.hid HR.out.1
      clear hw2' f0 f1 c0 c1' HA HB
      generalize wr.heap.size = fb
      go_wp2_with fail
      go_loopw [10] (fun t W => ∃ (j : Nat) (xs : List Wc), j ≤ i ∧ t = .int .i64 (j : Int) ∧ Wys w W g c1 (rnds L j (st0 (i : Int) (k : Int))) xs) (fun t W => i - (intOf t).toNat)
      case atStart => exact ⟨0, xs0, Nat.zero_le _, rfl, W5.out⟩
      case round =>
        obtain ⟨j, xs1, hj, rfl, hw⟩ := hrel
        have W6 := Lib.hid hw
        clear hw
        by_cases hji : j < i
        · have j1 : (j : Int) < (i : Int) := by omega
          go_wp2_with fail
          go_loopw [11] (fun t W => ∃ (u : Nat) (xs : List Wc), u ≤ m ∧ t = .int .i64 (u : Int) ∧ Wys w W g c1 ((L.take u).foldl rlx (rnds L j (st0 (i : Int) (k : Int)))) xs) (fun t W => m - (intOf t).toNat)
          case atStart => exact ⟨0, xs1, Nat.zero_le _, rfl, W6.out⟩
          case round =>
            obtain ⟨u, xs, hu, rfl, hw⟩ := hrel
            have HW := Lib.hid hw
            clear hw
            by_cases hum : u < m
            · have hul : u < L.length := by have := HLM.out; omega
              obtain ⟨b, o, rfl, hbw, hcell⟩ := row_link HR.out (by omega)
              have hz : L[u] ∈ L := List.getElem_mem hul
              have hlk := hcell u hul
              have hnx := fold_take hul (rnds L j (st0 (i : Int) (k : Int)))
              have hnt := fold_ntd HNET.out.2.2.2 (L.take u) _ (fun y hy => List.mem_of_mem_take hy) (rnds_ntd HNET.out.2.2.2 NT0.out j)
              have hm5 := HNET.out.2.2.2 _ hz
              generalize L[u] = z at hz hlk hnx hm5
              generalize (L.take u).foldl rlx (rnds L j (st0 (i : Int) (k : Int))) = S at hnx hnt HW
              obtain ⟨zf, zt, zc, zm, zg⟩ := z
              simp only at hm5
              obtain ⟨fN, rfl⟩ : ∃ fN : Nat, zf = (fN : Int) := ⟨zf.toNat, by omega⟩
              obtain ⟨tN, rfl⟩ : ∃ tN : Nat, zt = (tN : Int) := ⟨zt.toNat, by omega⟩
              have fi : fN < i := by omega
              have ti : tN < i := by omega
              have fi' : (fN : Int) < (i : Int) := by omega
              have ti' : (tN : Int) < (i : Int) := by omega
              have hSl : S.length = i := by have := hnt.len; omega
              have hxl : xs.length = i := by rw [HW.out.len]; exact hSl
              obtain ⟨xf, hxf⟩ : ∃ xf, xs[fN]? = some xf := ⟨xs[fN]'(by omega), List.getElem?_eq_getElem _⟩
              obtain ⟨yt, hyt⟩ : ∃ yt, xs[tN]? = some yt := ⟨xs[tN]'(by omega), List.getElem?_eq_getElem _⟩
              have hokf := HW.out.ok fN xf _ hxf (sat_get (by omega))
              have hokt := HW.out.ok tN yt _ hyt (sat_get (by omega))
              have LC := Lib.hid (show ∀ W, Below w.heap.size w W → W.cell? ⟨b, o + u * 5, none⟩ = some (.int .i64 (fN : Int)) ∧ W.cell? ⟨b, o + u * 5 + 1, none⟩ = some (.int .i64 (tN : Int)) ∧ W.cell? ⟨b, o + u * 5 + 3, none⟩ = some (.int .i64 zm) from fun W hW => by
                have hl := link_cells (w := w) hlk
                exact ⟨(hW.cell (p := ⟨b, o + u * 5, none⟩) hbw).trans hl.1, (hW.cell (p := ⟨b, o + u * 5 + 1, none⟩) hbw).trans hl.2.1, (hW.cell (p := ⟨b, o + u * 5 + 3, none⟩) hbw).trans hl.2.2.2.1⟩)
              have u1 : (u : Int) < (m : Int) := by omega
              have HNX := Lib.hid hnx
              have HNT := Lib.hid hnt
              have HZ := Lib.hid hz
              have HM5 := Lib.hid hm5
              clear hcell hlk hnx hnt hz hm5 hul hum
              cases hp : sat S (fN : Int) with
              | none =>
                rw [hp] at hokf
                obtain ⟨xa, xn, xc, xco⟩ := xf
                obtain ⟨h1, h2⟩ := hokf
                simp only at h1 h2
                subst h1
                subst h2
                have HP := Lib.hid hp
                clear hokt hp
                have cf0 : wr.cell? ⟨g, fN * 2, none⟩ = some (.slice xa 0 xc) := HW.out.range hxf 0 _ rfl
                have cf1 : wr.cell? ⟨g, fN * 2 + 1, none⟩ = some (.int .i64 (-1)) := HW.out.range hxf 1 _ rfl
                have l0 := (LC.out wr HW.out.bel).1
                have l1 := (LC.out wr HW.out.bel).2.1
                go_upto_region 16 with fail
                have hb6 : Below wr.heap.size wr (wr.alloc (.cells #[.slice xa 0 xc, .int .i64 (-1)] 37)) := bel_new (Below.refl _ _) _
                have ht6 : Blk (wr.alloc (.cells #[.slice xa 0 xc, .int .i64 (-1)] 37)) wr.heap.size 37 [.slice xa 0 xc, .int .i64 (-1)] := Blk.new wr _ _
                have hw6 := HW.out.below hb6
                clear cf0 cf1 l0 l1
                generalize wr.alloc (.cells #[.slice xa 0 xc, .int .i64 (-1)] 37) = w6 at hb6 ht6 hw6 ⊢
                generalize wr.heap.size = tb at ht6 ⊢
                have HW6 := Lib.hid hw6
                have TB := Lib.hid ht6
                have T6 := Lib.hid (show ∀ W, Below w6.heap.size w6 W → W.cell? ⟨tb, 0, none⟩ = some (.slice xa 0 xc) ∧ W.cell? ⟨tb, 1, none⟩ = some (.int .i64 (-1)) ∧ W.cell? ⟨b, o + u * 5 + 1, none⟩ = some (.int .i64 (tN : Int)) from fun W hW => ⟨(ht6.below hW).cell 0, (ht6.below hW).cell 1, (LC.out W (hw6.bel.trans (hW.mono hw6.bel.size))).2.1⟩)
                clear hb6 ht6 hw6
                refine region_seq (fun W => Below w6.heap.size w6 W) [(0, true), (1, true), (2, true), (3, true), (4, true), (5, true), (6, true), (7, true), (8, true), (9, true), (10, true), (11, false), (12, true)]
                  (by kernel_rfl) (by kernel_rfl) (by kernel_rfl) (by kernel_rfl) (fun _ _ _ _ _ h => h) (Below.refl _ _).drew ?_
                repeat first
                  | refine seq_skip rfl (by rfl) ?_
                    simp only [Act.put, List.setIfInBounds_toArray, List.set_cons_zero, List.set_cons_succ]
                  | refine seq_pure (v := ?_) rfl (by rfl) (fun W hW => ?_) ?_
                    rotate_left
                    · have t0 := (T6.out W hW).1
                      have t1 := (T6.out W hW).2.1
                      have l1 := (T6.out W hW).2.2
                      clear hW
                      go_simp
                      with_reducible rfl
                    simp only [Act.put, List.setIfInBounds_toArray, List.set_cons_zero, List.set_cons_succ]
                refine seq_unmakeS rfl (by rfl) (Below.refl _ _).drew ?_
                simp only [Act.put, List.setIfInBounds_toArray, List.set_cons_zero, List.set_cons_succ]
                repeat first
                  | refine seq_skip rfl (by rfl) ?_
                    simp only [Act.put, List.setIfInBounds_toArray, List.set_cons_zero, List.set_cons_succ]
                  | refine seq_pure (v := ?_) rfl (by rfl) (fun W hW => ?_) ?_
                    rotate_left
                    · have t0 := (T6.out W hW).1
                      have t1 := (T6.out W hW).2.1
                      have l1 := (T6.out W hW).2.2
                      clear hW
                      go_simp
                      with_reducible rfl
                    simp only [Act.put, List.setIfInBounds_toArray, List.set_cons_zero, List.set_cons_succ]
                refine seq_done ?_
                go_wp2_with fail
                go_roundw
                case rel => exact ⟨u + 1, xs, by omega, rfl, by rw [HNX.out, rlx_none HP.out]; exact HW6.out.below (Below.refl _ _).drew⟩
                case measure => simp [intOf]; omega
              | some q =>
                obtain ⟨cc, rr⟩ := q
                rw [hp] at hokf
                obtain ⟨xa, xn, xc, xco⟩ := xf
                obtain ⟨h1, h2, h3, h4, h5⟩ := hokf
                simp only at h1 h2 h3 h4 h5
                subst h1
                have HP := Lib.hid hp
                have HOKT := Lib.hid hokt
                have HRR := Lib.hid h4
                have HNL := Lib.hid h3
                clear hokt hp h3 h4
                have hcc : ¬ xco < 0 := by omega
                have cf0 : wr.cell? ⟨g, fN * 2, none⟩ = some (.slice xa xn xc) := HW.out.range hxf 0 _ rfl
                have cf1 : wr.cell? ⟨g, fN * 2 + 1, none⟩ = some (.int .i64 xco) := HW.out.range hxf 1 _ rfl
                have l0 := (LC.out wr HW.out.bel).1
                have l1 := (LC.out wr HW.out.bel).2.1
                go_upto_region 16 with fail
                have hb6 : Below wr.heap.size wr (wr.alloc (.cells #[.slice xa xn xc, .int .i64 xco] 37)) := bel_new (Below.refl _ _) _
                have ht6 : Blk (wr.alloc (.cells #[.slice xa xn xc, .int .i64 xco] 37)) wr.heap.size 37 [.slice xa xn xc, .int .i64 xco] := Blk.new wr _ _
                have hw6 := HW.out.below hb6
                clear cf0 cf1 l0 l1
                generalize wr.alloc (.cells #[.slice xa xn xc, .int .i64 xco] 37) = w6 at hb6 ht6 hw6 ⊢
                generalize wr.heap.size = tb at ht6 ⊢
                have HW6 := Lib.hid hw6
                have TB := Lib.hid ht6
                have T6 := Lib.hid (show ∀ W, Below w6.heap.size w6 W → W.cell? ⟨tb, 0, none⟩ = some (.slice xa xn xc) ∧ W.cell? ⟨tb, 1, none⟩ = some (.int .i64 xco) ∧ W.cell? ⟨b, o + u * 5 + 1, none⟩ = some (.int .i64 (tN : Int)) from fun W hW => ⟨(ht6.below hW).cell 0, (ht6.below hW).cell 1, (LC.out W (hw6.bel.trans (hW.mono hw6.bel.size))).2.1⟩)
                clear hb6 ht6 hw6
                have hrr6 : Row ei w6 w6.heap.size xa xn rr := by
                  have := HW6.out.ok fN ⟨xa, xn, xc, xco⟩ _ hxf (sat_get (by omega))
                  rw [HP.out] at this
                  exact this.2.2.2.1
                have HRR6 := Lib.hid hrr6
                clear hrr6
                have hway := HNT.out.way (fN : Int) xco rr (by omega) (by omega) HP.out
                have hcost := hway.cost HNET.out.2.2.2
                have hshort := hway.short HNET.out.2.2.2 HC.out.2
                have hxn16 : xn ≤ 16 := by have := HNL.out; omega
                have hhas := rhas_calls (tN : Int) xa xn xc w6.heap.size rr w6.drew HRR6.out (by omega)
                have HCO := Lib.hid hcost
                have HSH := Lib.hid hshort
                clear hcost hshort hway
                by_cases hin : (tN : Int) ∈ rr
                · have hd : decide ((tN : Int) ∈ rr) = true := by simpa using hin
                  rw [hd] at hhas
                  have HIN := Lib.hid hin
                  clear hin hd
                  refine region_seq (fun W => Below w6.heap.size w6 W) [(0, true), (1, true), (2, true), (3, true), (4, true), (5, true), (6, true), (7, true), (8, true), (9, true), (10, true), (11, false), (12, true)]
                    (by kernel_rfl) (by kernel_rfl) (by kernel_rfl) (by kernel_rfl) (fun _ _ _ _ _ h => h) (Below.refl _ _).drew ?_
                  repeat first
                    | refine seq_skip rfl (by rfl) ?_
                      simp only [Act.put, List.setIfInBounds_toArray, List.set_cons_zero, List.set_cons_succ]
                    | refine seq_pure (v := ?_) rfl (by rfl) (fun W hW => ?_) ?_
                      rotate_left
                      · have t0 := (T6.out W hW).1
                        have t1 := (T6.out W hW).2.1
                        have l1 := (T6.out W hW).2.2
                        clear hW
                        go_simp
                        with_reducible rfl
                      simp only [Act.put, List.setIfInBounds_toArray, List.set_cons_zero, List.set_cons_succ]
                  refine seq_make rfl (by rfl) (fun K hK => ?_)
                  go_simp
                  ((with_reducible refine hhas.mono ?_))
                  rintro e w7 ⟨rfl, rfl⟩
                  go_simp
                  refine hK _ _ (fun W => Below w6.heap.size w6 W) (fun W h => h) (Below.refl _ _).drew ?_
                  clear hK K
                  repeat first
                    | refine seq_skip rfl (by rfl) ?_
                      simp only [Act.put, List.setIfInBounds_toArray, List.set_cons_zero, List.set_cons_succ]
                    | refine seq_pure (v := ?_) rfl (by rfl) (fun W hW => ?_) ?_
                      rotate_left
                      · have t0 := (T6.out W hW).1
                        have t1 := (T6.out W hW).2.1
                        have l1 := (T6.out W hW).2.2
                        clear hW
                        go_simp
                        with_reducible rfl
                      simp only [Act.put, List.setIfInBounds_toArray, List.set_cons_zero, List.set_cons_succ]
                  refine seq_done ?_
                  go_wp2_with fail
                  go_roundw
                  case rel => exact ⟨u + 1, xs, by omega, rfl, by rw [HNX.out, rlx_in HP.out HIN.out]; exact HW6.out.below (Below.refl _ _).drew⟩
                  case measure => simp [intOf]; omega
                · have hd : decide ((tN : Int) ∈ rr) = false := by simpa using hin
                  rw [hd] at hhas
                  have HIN := Lib.hid hin
                  clear hin hd
                  refine region_seq (fun W => Below w6.heap.size w6 W) [(0, true), (1, true), (2, true), (3, true), (4, true), (5, true), (6, true), (7, true), (8, true), (9, true), (10, true), (11, false), (12, true)]
                    (by kernel_rfl) (by kernel_rfl) (by kernel_rfl) (by kernel_rfl) (fun _ _ _ _ _ h => h) (Below.refl _ _).drew ?_
                  repeat first
                    | refine seq_skip rfl (by rfl) ?_
                      simp only [Act.put, List.setIfInBounds_toArray, List.set_cons_zero, List.set_cons_succ]
                    | refine seq_pure (v := ?_) rfl (by rfl) (fun W hW => ?_) ?_
                      rotate_left
                      · have t0 := (T6.out W hW).1
                        have t1 := (T6.out W hW).2.1
                        have l1 := (T6.out W hW).2.2
                        clear hW
                        go_simp
                        with_reducible rfl
                      simp only [Act.put, List.setIfInBounds_toArray, List.set_cons_zero, List.set_cons_succ]
                  refine seq_make rfl (by rfl) (fun K hK => ?_)
                  go_simp
                  ((with_reducible refine hhas.mono ?_))
                  rintro e w7 ⟨rfl, rfl⟩
                  go_simp
                  refine hK _ _ (fun W => Below w6.heap.size w6 W) (fun W h => h) (Below.refl _ _).drew ?_
                  clear hK K
                  repeat first
                    | refine seq_skip rfl (by rfl) ?_
                      simp only [Act.put, List.setIfInBounds_toArray, List.set_cons_zero, List.set_cons_succ]
                    | refine seq_pure (v := ?_) rfl (by rfl) (fun W hW => ?_) ?_
                      rotate_left
                      · have t0 := (T6.out W hW).1
                        have t1 := (T6.out W hW).2.1
                        have l1 := (T6.out W hW).2.2
                        clear hW
                        go_simp
                        with_reducible rfl
                      simp only [Act.put, List.setIfInBounds_toArray, List.set_cons_zero, List.set_cons_succ]
                  refine seq_done ?_
                  go_upto_region 17 with fail
                  have hb7 : Below w6.heap.size w6 w6.drew := (Below.refl _ _).drew
                  have hw7 := HW6.out.below hb7
                  have htb7 := TB.out.below hb7
                  have hrr7 := (HRR6.out.below hb7).more hb7.size
                  clear hhas T6
                  generalize w6.drew = w7 at hb7 hw7 htb7 hrr7 ⊢
                  have HW7 := Lib.hid hw7
                  have HRR7 := Lib.hid hrr7
                  obtain ⟨ya, yn, yc, yco⟩ := yt
                  have T7 := Lib.hid (show ∀ W, Below w7.heap.size w7 W → W.cell? ⟨tb, 0, none⟩ = some (.slice xa xn xc) ∧ W.cell? ⟨tb, 1, none⟩ = some (.int .i64 xco) ∧ W.cell? ⟨b, o + u * 5 + 1, none⟩ = some (.int .i64 (tN : Int)) ∧ W.cell? ⟨b, o + u * 5 + 3, none⟩ = some (.int .i64 zm) ∧ W.cell? ⟨g, tN * 2, none⟩ = some (.slice ya yn yc) ∧ W.cell? ⟨g, tN * 2 + 1, none⟩ = some (.int .i64 yco) from fun W hW => by
                    have hbw : Below w.heap.size w W := hw7.bel.trans (hW.mono hw7.bel.size)
                    have hg := hw7.lt.2
                    exact ⟨(htb7.below hW).cell 0, (htb7.below hW).cell 1, (LC.out W hbw).2.1, (LC.out W hbw).2.2, (hW.cell (p := ⟨g, tN * 2, none⟩) hg).trans (hw7.range hyt 0 _ rfl), (hW.cell (p := ⟨g, tN * 2 + 1, none⟩) hg).trans (hw7.range hyt 1 _ rfl)⟩)
                  have hzm := HM5.out
                  have hfur : ∀ W, Below w7.heap.size w7 W → Calls Try.prog 30 #[.agg #[.slice xa xn xc, .int .i64 xco], .int .i64 (tN : Int), .int .i64 zm] W (fun e W' => Below W.heap.size W W' ∧ ∃ A c', e = .returned (.agg #[.slice A (xn + 1) c', .int .i64 (xco + zm)]) ∧ AccI W' W.heap.size A c' (rr ++ [(tN : Int)])) := fun W hW => by
                    have := rfurther_calls xa xn xc rr xco (tN : Int) zm W ((HRR7.out.below hW).more hW.size) (by omega) (by have := HCO.out; have := HNL.out; omega) (by omega)
                    unfold FurPost at this
                    rw [← HNL.out] at this
                    exact this
                  have HFUR := Lib.hid hfur
                  clear hb7 hw7 htb7 hrr7 hfur hzm
                  go_cut [13, 14] from 75 to 94 (fun s t W => ∃ (b13 b14 c9 : Nat) (A9 : Option Addr), s = Value.pointer (some ⟨b13, 0, none⟩) ∧ t = Value.pointer (some ⟨b14, 0, none⟩) ∧ w7.heap.size ≤ b13 ∧ Blk W b13 37 [.slice A9 (xn + 1) c9, .int .i64 (xco + zm)] ∧ Blk W b14 37 [.slice ya yn yc, .int .i64 yco] ∧ AccI W w7.heap.size A9 c9 (rr ++ [(tN : Int)]) ∧ Below w7.heap.size w7 W)
                  case first =>
                    refine region_way (fun W => Below w7.heap.size w7 W) (.step 0 true (.step 1 true (.step 2 true (.step 3 true (.step 4 true (.step 5 true (.step 6 true (.step 7 true (.step 8 true (.step 9 true (.step 10 true (.step 12 true (.step 13 true (.step 14 true (.step 15 true (.step 16 true (.step 17 true (.step 18 true (.step 19 true (.three 11 20 21 (.both 20 21 (.step 21 false (.step 22 false (.step 23 false .done))) (.step 20 false (.step 22 false (.step 23 false .done)))) (.both 11 21 (.step 21 false (.step 22 false (.step 23 false .done))) (.step 11 false (.step 22 false (.step 23 false .done)))) (.both 11 20 (.step 20 false (.step 22 false (.step 23 false .done))) (.step 11 false (.step 22 false (.step 23 false .done))))))))))))))))))))))))
                      (by kernel_rfl) (by kernel_rfl) (by kernel_rfl) (by kernel_rfl) (fun _ _ _ _ _ h => h) (Below.refl _ _).drew ?_
                    repeat
                      refine way_pure (v := ?_) rfl (by rfl) (fun W hW => ?_) ?_
                      rotate_left
                      · obtain ⟨t0, t1, t2, t3, t4, t5⟩ := T7.out W hW
                        clear hW
                        go_simp
                        with_reducible rfl
                      simp only [Act.put, List.setIfInBounds_toArray, List.set_cons_zero, List.set_cons_succ]
                    have hb70 : Below w7.heap.size w7 w7.drew := (Below.refl _ _).drew
                    generalize w7.drew = w70 at hb70 ⊢
                    have B0 := Lib.hid hb70
                    clear hb70
                    refine way_three rfl (by rfl) rfl (by rfl) rfl (by rfl) (fun K hK => ?_) (fun K hK => ?_) (fun K hK => ?_)
                    · skip
                      go_simp
                      ((with_reducible refine (HFUR.out w70 B0.out).mono ?_))
                      rintro e w71 ⟨hbn, A9, c9, rfl, hacc⟩
                      have B1 := Lib.hid (show Below w7.heap.size w7 w71 from B0.out.trans (hbn.mono B0.out.size))
                      have ACC1 := Lib.hid (show AccI w71 w7.heap.size A9 c9 (rr ++ [(tN : Int)]) from AccR.lower hacc B0.out.size)
                      clear hbn hacc
                      go_simp
                      refine hK _ _ (fun W => Below w7.heap.size w7 W) (fun W h => h) B1.out ?_
                      clear hK K
                      refine way_both rfl (by rfl) rfl (by rfl) (fun K hK => ?_) (fun K hK => ?_)
                      · skip
                        go_simp
                        have hbn : Below w71.heap.size w71 (w71.alloc (.cells #[.slice none 0 0, .int .i64 0] 37)) := bel_new (Below.refl _ _) _
                        have hpn : Blk (w71.alloc (.cells #[.slice none 0 0, .int .i64 0] 37)) w71.heap.size 37 [.slice none 0 0, .int .i64 0] := Blk.new w71 _ _
                        have hge : w7.heap.size ≤ w71.heap.size := B1.out.size
                        have hbw := B1.out.trans (hbn.mono B1.out.size)
                        have hac := AccR.bel ACC1.out hbn
                        generalize w71.alloc (.cells #[.slice none 0 0, .int .i64 0] 37) = w72 at *
                        generalize w71.heap.size = b13 at *
                        have B2 := Lib.hid hbw
                        have P13_2 := Lib.hid hpn
                        have Gb13 := Lib.hid hge
                        have ACC2 := Lib.hid (show AccI w72 w7.heap.size A9 c9 (rr ++ [(tN : Int)]) from hac)
                        clear hbn hpn hge hbw hac
                        refine hK _ _ (fun W => Below w7.heap.size w7 W) (fun W h => h) B2.out ?_
                        clear hK K
                        refine way_make rfl (by rfl) (fun K hK => ?_)
                        go_simp
                        have hbn : Below w72.heap.size w72 (w72.alloc (.cells #[.slice none 0 0, .int .i64 0] 37)) := bel_new (Below.refl _ _) _
                        have hpn : Blk (w72.alloc (.cells #[.slice none 0 0, .int .i64 0] 37)) w72.heap.size 37 [.slice none 0 0, .int .i64 0] := Blk.new w72 _ _
                        have hge : w7.heap.size ≤ w72.heap.size := B2.out.size
                        have hne : b13 ≠ w72.heap.size := by have := P13_2.out.lt; omega
                        have hbw := B2.out.trans (hbn.mono B2.out.size)
                        have hac := AccR.bel ACC2.out hbn
                        have hoth := P13_2.out.below hbn
                        generalize w72.alloc (.cells #[.slice none 0 0, .int .i64 0] 37) = w73 at *
                        generalize w72.heap.size = b14 at *
                        have B3 := Lib.hid hbw
                        have P14_3 := Lib.hid hpn
                        have Gb14 := Lib.hid hge
                        have ACC3 := Lib.hid (show AccI w73 w7.heap.size A9 c9 (rr ++ [(tN : Int)]) from hac)
                        have P13_3 := Lib.hid hoth
                        have NE := Lib.hid hne
                        clear hbn hpn hge hbw hac hoth hne
                        refine hK _ _ (fun W => Below w7.heap.size w7 W) (fun W h => h) B3.out ?_
                        clear hK K
                        refine way_make rfl (by rfl) (fun K hK => ?_)
                        have f0 := P13_3.out.free 0
                        have f1 := P13_3.out.free 1
                        have e0 : w73.cell? ⟨b13, 0, none⟩ = some (.slice none 0 0) := P13_3.out.cell 0
                        have e1 : w73.cell? ⟨b13, 1, none⟩ = some (.int .i64 0) := P13_3.out.cell 1
                        go_simp
                        have hp := put2 P13_3.out (.slice A9 (xn + 1) c9) (.int .i64 (xco + zm))
                        clear f0 f1 e0 e1
                        generalize (w73.setCell ⟨b13, 0, none⟩ (.slice A9 (xn + 1) c9)).setCell ⟨b13, 1, none⟩ (.int .i64 (xco + zm)) = w74 at *
                        obtain ⟨hp1, hp2⟩ := hp
                        have P13_4 := Lib.hid hp1
                        have P14_4 := Lib.hid (P14_3.out.same (hp2.block b14 P14_3.out.lt (by have := NE.out; simp; omega)))
                        have B4 := Lib.hid (show Below w7.heap.size w7 w74 from B3.out.grown hp2 B3.out.size (fun k hk => by injection hk with hk; have := Gb13.out; omega))
                        have ACC4 := Lib.hid (show AccI w74 w7.heap.size A9 c9 (rr ++ [(tN : Int)]) from AccR.kept ACC3.out hp2 (fun x hx e => by injection e with e; exact accr_ne ACC3.out P13_3.out (by decide) x hx e.symm))
                        clear hp1 hp2
                        refine hK _ _ (fun W => Below w7.heap.size w7 W) (fun W h => h) B4.out ?_
                        clear hK K
                        refine way_make rfl (by rfl) (fun K hK => ?_)
                        have f0 := P14_4.out.free 0
                        have f1 := P14_4.out.free 1
                        have e0 : w74.cell? ⟨b14, 0, none⟩ = some (.slice none 0 0) := P14_4.out.cell 0
                        have e1 : w74.cell? ⟨b14, 1, none⟩ = some (.int .i64 0) := P14_4.out.cell 1
                        go_simp
                        have hp := put2 P14_4.out (.slice ya yn yc) (.int .i64 yco)
                        clear f0 f1 e0 e1
                        generalize (w74.setCell ⟨b14, 0, none⟩ (.slice ya yn yc)).setCell ⟨b14, 1, none⟩ (.int .i64 yco) = w75 at *
                        obtain ⟨hp1, hp2⟩ := hp
                        have P14_5 := Lib.hid hp1
                        have P13_5 := Lib.hid (P13_4.out.same (hp2.block b13 P13_4.out.lt (by have := NE.out; simp; omega)))
                        have B5 := Lib.hid (show Below w7.heap.size w7 w75 from B4.out.grown hp2 B4.out.size (fun k hk => by injection hk with hk; have := Gb14.out; omega))
                        have ACC5 := Lib.hid (show AccI w75 w7.heap.size A9 c9 (rr ++ [(tN : Int)]) from AccR.kept ACC4.out hp2 (fun x hx e => by injection e with e; exact accr_ne ACC4.out P14_4.out (by decide) x hx e.symm))
                        clear hp1 hp2
                        refine hK _ _ (fun W => Below w7.heap.size w7 W) (fun W h => h) B5.out ?_
                        clear hK K
                        refine way_done ?_
                        go_wp2_with fail
                        go_meet
                        exact ⟨b13, b14, c9, A9, rfl, rfl, Gb13.out, P13_5.out, P14_5.out, ACC5.out, B5.out⟩
                      · skip
                        go_simp
                        have hbn : Below w71.heap.size w71 (w71.alloc (.cells #[.slice none 0 0, .int .i64 0] 37)) := bel_new (Below.refl _ _) _
                        have hpn : Blk (w71.alloc (.cells #[.slice none 0 0, .int .i64 0] 37)) w71.heap.size 37 [.slice none 0 0, .int .i64 0] := Blk.new w71 _ _
                        have hge : w7.heap.size ≤ w71.heap.size := B1.out.size
                        have hbw := B1.out.trans (hbn.mono B1.out.size)
                        have hac := AccR.bel ACC1.out hbn
                        generalize w71.alloc (.cells #[.slice none 0 0, .int .i64 0] 37) = w72 at *
                        generalize w71.heap.size = b14 at *
                        have B2 := Lib.hid hbw
                        have P14_2 := Lib.hid hpn
                        have Gb14 := Lib.hid hge
                        have ACC2 := Lib.hid (show AccI w72 w7.heap.size A9 c9 (rr ++ [(tN : Int)]) from hac)
                        clear hbn hpn hge hbw hac
                        refine hK _ _ (fun W => Below w7.heap.size w7 W) (fun W h => h) B2.out ?_
                        clear hK K
                        refine way_make rfl (by rfl) (fun K hK => ?_)
                        go_simp
                        have hbn : Below w72.heap.size w72 (w72.alloc (.cells #[.slice none 0 0, .int .i64 0] 37)) := bel_new (Below.refl _ _) _
                        have hpn : Blk (w72.alloc (.cells #[.slice none 0 0, .int .i64 0] 37)) w72.heap.size 37 [.slice none 0 0, .int .i64 0] := Blk.new w72 _ _
                        have hge : w7.heap.size ≤ w72.heap.size := B2.out.size
                        have hne : b14 ≠ w72.heap.size := by have := P14_2.out.lt; omega
                        have hbw := B2.out.trans (hbn.mono B2.out.size)
                        have hac := AccR.bel ACC2.out hbn
                        have hoth := P14_2.out.below hbn
                        generalize w72.alloc (.cells #[.slice none 0 0, .int .i64 0] 37) = w73 at *
                        generalize w72.heap.size = b13 at *
                        have B3 := Lib.hid hbw
                        have P13_3 := Lib.hid hpn
                        have Gb13 := Lib.hid hge
                        have ACC3 := Lib.hid (show AccI w73 w7.heap.size A9 c9 (rr ++ [(tN : Int)]) from hac)
                        have P14_3 := Lib.hid hoth
                        have NE := Lib.hid hne
                        clear hbn hpn hge hbw hac hoth hne
                        refine hK _ _ (fun W => Below w7.heap.size w7 W) (fun W h => h) B3.out ?_
                        clear hK K
                        refine way_make rfl (by rfl) (fun K hK => ?_)
                        have f0 := P13_3.out.free 0
                        have f1 := P13_3.out.free 1
                        have e0 : w73.cell? ⟨b13, 0, none⟩ = some (.slice none 0 0) := P13_3.out.cell 0
                        have e1 : w73.cell? ⟨b13, 1, none⟩ = some (.int .i64 0) := P13_3.out.cell 1
                        go_simp
                        have hp := put2 P13_3.out (.slice A9 (xn + 1) c9) (.int .i64 (xco + zm))
                        clear f0 f1 e0 e1
                        generalize (w73.setCell ⟨b13, 0, none⟩ (.slice A9 (xn + 1) c9)).setCell ⟨b13, 1, none⟩ (.int .i64 (xco + zm)) = w74 at *
                        obtain ⟨hp1, hp2⟩ := hp
                        have P13_4 := Lib.hid hp1
                        have P14_4 := Lib.hid (P14_3.out.same (hp2.block b14 P14_3.out.lt (by have := NE.out; simp; omega)))
                        have B4 := Lib.hid (show Below w7.heap.size w7 w74 from B3.out.grown hp2 B3.out.size (fun k hk => by injection hk with hk; have := Gb13.out; omega))
                        have ACC4 := Lib.hid (show AccI w74 w7.heap.size A9 c9 (rr ++ [(tN : Int)]) from AccR.kept ACC3.out hp2 (fun x hx e => by injection e with e; exact accr_ne ACC3.out P13_3.out (by decide) x hx e.symm))
                        clear hp1 hp2
                        refine hK _ _ (fun W => Below w7.heap.size w7 W) (fun W h => h) B4.out ?_
                        clear hK K
                        refine way_make rfl (by rfl) (fun K hK => ?_)
                        have f0 := P14_4.out.free 0
                        have f1 := P14_4.out.free 1
                        have e0 : w74.cell? ⟨b14, 0, none⟩ = some (.slice none 0 0) := P14_4.out.cell 0
                        have e1 : w74.cell? ⟨b14, 1, none⟩ = some (.int .i64 0) := P14_4.out.cell 1
                        go_simp
                        have hp := put2 P14_4.out (.slice ya yn yc) (.int .i64 yco)
                        clear f0 f1 e0 e1
                        generalize (w74.setCell ⟨b14, 0, none⟩ (.slice ya yn yc)).setCell ⟨b14, 1, none⟩ (.int .i64 yco) = w75 at *
                        obtain ⟨hp1, hp2⟩ := hp
                        have P14_5 := Lib.hid hp1
                        have P13_5 := Lib.hid (P13_4.out.same (hp2.block b13 P13_4.out.lt (by have := NE.out; simp; omega)))
                        have B5 := Lib.hid (show Below w7.heap.size w7 w75 from B4.out.grown hp2 B4.out.size (fun k hk => by injection hk with hk; have := Gb14.out; omega))
                        have ACC5 := Lib.hid (show AccI w75 w7.heap.size A9 c9 (rr ++ [(tN : Int)]) from AccR.kept ACC4.out hp2 (fun x hx e => by injection e with e; exact accr_ne ACC4.out P14_4.out (by decide) x hx e.symm))
                        clear hp1 hp2
                        refine hK _ _ (fun W => Below w7.heap.size w7 W) (fun W h => h) B5.out ?_
                        clear hK K
                        refine way_done ?_
                        go_wp2_with fail
                        go_meet
                        exact ⟨b13, b14, c9, A9, rfl, rfl, Gb13.out, P13_5.out, P14_5.out, ACC5.out, B5.out⟩
                    · skip
                      go_simp
                      have hbn : Below w70.heap.size w70 (w70.alloc (.cells #[.slice none 0 0, .int .i64 0] 37)) := bel_new (Below.refl _ _) _
                      have hpn : Blk (w70.alloc (.cells #[.slice none 0 0, .int .i64 0] 37)) w70.heap.size 37 [.slice none 0 0, .int .i64 0] := Blk.new w70 _ _
                      have hge : w7.heap.size ≤ w70.heap.size := B0.out.size
                      have hbw := B0.out.trans (hbn.mono B0.out.size)
                      generalize w70.alloc (.cells #[.slice none 0 0, .int .i64 0] 37) = w71 at *
                      generalize w70.heap.size = b13 at *
                      have B1 := Lib.hid hbw
                      have P13_1 := Lib.hid hpn
                      have Gb13 := Lib.hid hge
                      clear hbn hpn hge hbw
                      refine hK _ _ (fun W => Below w7.heap.size w7 W) (fun W h => h) B1.out ?_
                      clear hK K
                      refine way_both rfl (by rfl) rfl (by rfl) (fun K hK => ?_) (fun K hK => ?_)
                      · skip
                        go_simp
                        ((with_reducible refine (HFUR.out w71 B1.out).mono ?_))
                        rintro e w72 ⟨hbn, A9, c9, rfl, hacc⟩
                        have B2 := Lib.hid (show Below w7.heap.size w7 w72 from B1.out.trans (hbn.mono B1.out.size))
                        have ACC2 := Lib.hid (show AccI w72 w7.heap.size A9 c9 (rr ++ [(tN : Int)]) from AccR.lower hacc B1.out.size)
                        have P13_2 := Lib.hid (P13_1.out.below hbn)
                        clear hbn hacc
                        go_simp
                        refine hK _ _ (fun W => Below w7.heap.size w7 W) (fun W h => h) B2.out ?_
                        clear hK K
                        refine way_make rfl (by rfl) (fun K hK => ?_)
                        go_simp
                        have hbn : Below w72.heap.size w72 (w72.alloc (.cells #[.slice none 0 0, .int .i64 0] 37)) := bel_new (Below.refl _ _) _
                        have hpn : Blk (w72.alloc (.cells #[.slice none 0 0, .int .i64 0] 37)) w72.heap.size 37 [.slice none 0 0, .int .i64 0] := Blk.new w72 _ _
                        have hge : w7.heap.size ≤ w72.heap.size := B2.out.size
                        have hne : b13 ≠ w72.heap.size := by have := P13_2.out.lt; omega
                        have hbw := B2.out.trans (hbn.mono B2.out.size)
                        have hac := AccR.bel ACC2.out hbn
                        have hoth := P13_2.out.below hbn
                        generalize w72.alloc (.cells #[.slice none 0 0, .int .i64 0] 37) = w73 at *
                        generalize w72.heap.size = b14 at *
                        have B3 := Lib.hid hbw
                        have P14_3 := Lib.hid hpn
                        have Gb14 := Lib.hid hge
                        have ACC3 := Lib.hid (show AccI w73 w7.heap.size A9 c9 (rr ++ [(tN : Int)]) from hac)
                        have P13_3 := Lib.hid hoth
                        have NE := Lib.hid hne
                        clear hbn hpn hge hbw hac hoth hne
                        refine hK _ _ (fun W => Below w7.heap.size w7 W) (fun W h => h) B3.out ?_
                        clear hK K
                        refine way_make rfl (by rfl) (fun K hK => ?_)
                        have f0 := P13_3.out.free 0
                        have f1 := P13_3.out.free 1
                        have e0 : w73.cell? ⟨b13, 0, none⟩ = some (.slice none 0 0) := P13_3.out.cell 0
                        have e1 : w73.cell? ⟨b13, 1, none⟩ = some (.int .i64 0) := P13_3.out.cell 1
                        go_simp
                        have hp := put2 P13_3.out (.slice A9 (xn + 1) c9) (.int .i64 (xco + zm))
                        clear f0 f1 e0 e1
                        generalize (w73.setCell ⟨b13, 0, none⟩ (.slice A9 (xn + 1) c9)).setCell ⟨b13, 1, none⟩ (.int .i64 (xco + zm)) = w74 at *
                        obtain ⟨hp1, hp2⟩ := hp
                        have P13_4 := Lib.hid hp1
                        have P14_4 := Lib.hid (P14_3.out.same (hp2.block b14 P14_3.out.lt (by have := NE.out; simp; omega)))
                        have B4 := Lib.hid (show Below w7.heap.size w7 w74 from B3.out.grown hp2 B3.out.size (fun k hk => by injection hk with hk; have := Gb13.out; omega))
                        have ACC4 := Lib.hid (show AccI w74 w7.heap.size A9 c9 (rr ++ [(tN : Int)]) from AccR.kept ACC3.out hp2 (fun x hx e => by injection e with e; exact accr_ne ACC3.out P13_3.out (by decide) x hx e.symm))
                        clear hp1 hp2
                        refine hK _ _ (fun W => Below w7.heap.size w7 W) (fun W h => h) B4.out ?_
                        clear hK K
                        refine way_make rfl (by rfl) (fun K hK => ?_)
                        have f0 := P14_4.out.free 0
                        have f1 := P14_4.out.free 1
                        have e0 : w74.cell? ⟨b14, 0, none⟩ = some (.slice none 0 0) := P14_4.out.cell 0
                        have e1 : w74.cell? ⟨b14, 1, none⟩ = some (.int .i64 0) := P14_4.out.cell 1
                        go_simp
                        have hp := put2 P14_4.out (.slice ya yn yc) (.int .i64 yco)
                        clear f0 f1 e0 e1
                        generalize (w74.setCell ⟨b14, 0, none⟩ (.slice ya yn yc)).setCell ⟨b14, 1, none⟩ (.int .i64 yco) = w75 at *
                        obtain ⟨hp1, hp2⟩ := hp
                        have P14_5 := Lib.hid hp1
                        have P13_5 := Lib.hid (P13_4.out.same (hp2.block b13 P13_4.out.lt (by have := NE.out; simp; omega)))
                        have B5 := Lib.hid (show Below w7.heap.size w7 w75 from B4.out.grown hp2 B4.out.size (fun k hk => by injection hk with hk; have := Gb14.out; omega))
                        have ACC5 := Lib.hid (show AccI w75 w7.heap.size A9 c9 (rr ++ [(tN : Int)]) from AccR.kept ACC4.out hp2 (fun x hx e => by injection e with e; exact accr_ne ACC4.out P14_4.out (by decide) x hx e.symm))
                        clear hp1 hp2
                        refine hK _ _ (fun W => Below w7.heap.size w7 W) (fun W h => h) B5.out ?_
                        clear hK K
                        refine way_done ?_
                        go_wp2_with fail
                        go_meet
                        exact ⟨b13, b14, c9, A9, rfl, rfl, Gb13.out, P13_5.out, P14_5.out, ACC5.out, B5.out⟩
                      · skip
                        go_simp
                        have hbn : Below w71.heap.size w71 (w71.alloc (.cells #[.slice none 0 0, .int .i64 0] 37)) := bel_new (Below.refl _ _) _
                        have hpn : Blk (w71.alloc (.cells #[.slice none 0 0, .int .i64 0] 37)) w71.heap.size 37 [.slice none 0 0, .int .i64 0] := Blk.new w71 _ _
                        have hge : w7.heap.size ≤ w71.heap.size := B1.out.size
                        have hne : b13 ≠ w71.heap.size := by have := P13_1.out.lt; omega
                        have hbw := B1.out.trans (hbn.mono B1.out.size)
                        have hoth := P13_1.out.below hbn
                        generalize w71.alloc (.cells #[.slice none 0 0, .int .i64 0] 37) = w72 at *
                        generalize w71.heap.size = b14 at *
                        have B2 := Lib.hid hbw
                        have P14_2 := Lib.hid hpn
                        have Gb14 := Lib.hid hge
                        have P13_2 := Lib.hid hoth
                        have NE := Lib.hid hne
                        clear hbn hpn hge hbw hoth hne
                        refine hK _ _ (fun W => Below w7.heap.size w7 W) (fun W h => h) B2.out ?_
                        clear hK K
                        refine way_make rfl (by rfl) (fun K hK => ?_)
                        go_simp
                        ((with_reducible refine (HFUR.out w72 B2.out).mono ?_))
                        rintro e w73 ⟨hbn, A9, c9, rfl, hacc⟩
                        have B3 := Lib.hid (show Below w7.heap.size w7 w73 from B2.out.trans (hbn.mono B2.out.size))
                        have ACC3 := Lib.hid (show AccI w73 w7.heap.size A9 c9 (rr ++ [(tN : Int)]) from AccR.lower hacc B2.out.size)
                        have P13_3 := Lib.hid (P13_2.out.below hbn)
                        have P14_3 := Lib.hid (P14_2.out.below hbn)
                        clear hbn hacc
                        go_simp
                        refine hK _ _ (fun W => Below w7.heap.size w7 W) (fun W h => h) B3.out ?_
                        clear hK K
                        refine way_make rfl (by rfl) (fun K hK => ?_)
                        have f0 := P13_3.out.free 0
                        have f1 := P13_3.out.free 1
                        have e0 : w73.cell? ⟨b13, 0, none⟩ = some (.slice none 0 0) := P13_3.out.cell 0
                        have e1 : w73.cell? ⟨b13, 1, none⟩ = some (.int .i64 0) := P13_3.out.cell 1
                        go_simp
                        have hp := put2 P13_3.out (.slice A9 (xn + 1) c9) (.int .i64 (xco + zm))
                        clear f0 f1 e0 e1
                        generalize (w73.setCell ⟨b13, 0, none⟩ (.slice A9 (xn + 1) c9)).setCell ⟨b13, 1, none⟩ (.int .i64 (xco + zm)) = w74 at *
                        obtain ⟨hp1, hp2⟩ := hp
                        have P13_4 := Lib.hid hp1
                        have P14_4 := Lib.hid (P14_3.out.same (hp2.block b14 P14_3.out.lt (by have := NE.out; simp; omega)))
                        have B4 := Lib.hid (show Below w7.heap.size w7 w74 from B3.out.grown hp2 B3.out.size (fun k hk => by injection hk with hk; have := Gb13.out; omega))
                        have ACC4 := Lib.hid (show AccI w74 w7.heap.size A9 c9 (rr ++ [(tN : Int)]) from AccR.kept ACC3.out hp2 (fun x hx e => by injection e with e; exact accr_ne ACC3.out P13_3.out (by decide) x hx e.symm))
                        clear hp1 hp2
                        refine hK _ _ (fun W => Below w7.heap.size w7 W) (fun W h => h) B4.out ?_
                        clear hK K
                        refine way_make rfl (by rfl) (fun K hK => ?_)
                        have f0 := P14_4.out.free 0
                        have f1 := P14_4.out.free 1
                        have e0 : w74.cell? ⟨b14, 0, none⟩ = some (.slice none 0 0) := P14_4.out.cell 0
                        have e1 : w74.cell? ⟨b14, 1, none⟩ = some (.int .i64 0) := P14_4.out.cell 1
                        go_simp
                        have hp := put2 P14_4.out (.slice ya yn yc) (.int .i64 yco)
                        clear f0 f1 e0 e1
                        generalize (w74.setCell ⟨b14, 0, none⟩ (.slice ya yn yc)).setCell ⟨b14, 1, none⟩ (.int .i64 yco) = w75 at *
                        obtain ⟨hp1, hp2⟩ := hp
                        have P14_5 := Lib.hid hp1
                        have P13_5 := Lib.hid (P13_4.out.same (hp2.block b13 P13_4.out.lt (by have := NE.out; simp; omega)))
                        have B5 := Lib.hid (show Below w7.heap.size w7 w75 from B4.out.grown hp2 B4.out.size (fun k hk => by injection hk with hk; have := Gb14.out; omega))
                        have ACC5 := Lib.hid (show AccI w75 w7.heap.size A9 c9 (rr ++ [(tN : Int)]) from AccR.kept ACC4.out hp2 (fun x hx e => by injection e with e; exact accr_ne ACC4.out P14_4.out (by decide) x hx e.symm))
                        clear hp1 hp2
                        refine hK _ _ (fun W => Below w7.heap.size w7 W) (fun W h => h) B5.out ?_
                        clear hK K
                        refine way_done ?_
                        go_wp2_with fail
                        go_meet
                        exact ⟨b13, b14, c9, A9, rfl, rfl, Gb13.out, P13_5.out, P14_5.out, ACC5.out, B5.out⟩
                    · skip
                      go_simp
                      have hbn : Below w70.heap.size w70 (w70.alloc (.cells #[.slice none 0 0, .int .i64 0] 37)) := bel_new (Below.refl _ _) _
                      have hpn : Blk (w70.alloc (.cells #[.slice none 0 0, .int .i64 0] 37)) w70.heap.size 37 [.slice none 0 0, .int .i64 0] := Blk.new w70 _ _
                      have hge : w7.heap.size ≤ w70.heap.size := B0.out.size
                      have hbw := B0.out.trans (hbn.mono B0.out.size)
                      generalize w70.alloc (.cells #[.slice none 0 0, .int .i64 0] 37) = w71 at *
                      generalize w70.heap.size = b14 at *
                      have B1 := Lib.hid hbw
                      have P14_1 := Lib.hid hpn
                      have Gb14 := Lib.hid hge
                      clear hbn hpn hge hbw
                      refine hK _ _ (fun W => Below w7.heap.size w7 W) (fun W h => h) B1.out ?_
                      clear hK K
                      refine way_both rfl (by rfl) rfl (by rfl) (fun K hK => ?_) (fun K hK => ?_)
                      · skip
                        go_simp
                        ((with_reducible refine (HFUR.out w71 B1.out).mono ?_))
                        rintro e w72 ⟨hbn, A9, c9, rfl, hacc⟩
                        have B2 := Lib.hid (show Below w7.heap.size w7 w72 from B1.out.trans (hbn.mono B1.out.size))
                        have ACC2 := Lib.hid (show AccI w72 w7.heap.size A9 c9 (rr ++ [(tN : Int)]) from AccR.lower hacc B1.out.size)
                        have P14_2 := Lib.hid (P14_1.out.below hbn)
                        clear hbn hacc
                        go_simp
                        refine hK _ _ (fun W => Below w7.heap.size w7 W) (fun W h => h) B2.out ?_
                        clear hK K
                        refine way_make rfl (by rfl) (fun K hK => ?_)
                        go_simp
                        have hbn : Below w72.heap.size w72 (w72.alloc (.cells #[.slice none 0 0, .int .i64 0] 37)) := bel_new (Below.refl _ _) _
                        have hpn : Blk (w72.alloc (.cells #[.slice none 0 0, .int .i64 0] 37)) w72.heap.size 37 [.slice none 0 0, .int .i64 0] := Blk.new w72 _ _
                        have hge : w7.heap.size ≤ w72.heap.size := B2.out.size
                        have hne : b14 ≠ w72.heap.size := by have := P14_2.out.lt; omega
                        have hbw := B2.out.trans (hbn.mono B2.out.size)
                        have hac := AccR.bel ACC2.out hbn
                        have hoth := P14_2.out.below hbn
                        generalize w72.alloc (.cells #[.slice none 0 0, .int .i64 0] 37) = w73 at *
                        generalize w72.heap.size = b13 at *
                        have B3 := Lib.hid hbw
                        have P13_3 := Lib.hid hpn
                        have Gb13 := Lib.hid hge
                        have ACC3 := Lib.hid (show AccI w73 w7.heap.size A9 c9 (rr ++ [(tN : Int)]) from hac)
                        have P14_3 := Lib.hid hoth
                        have NE := Lib.hid hne
                        clear hbn hpn hge hbw hac hoth hne
                        refine hK _ _ (fun W => Below w7.heap.size w7 W) (fun W h => h) B3.out ?_
                        clear hK K
                        refine way_make rfl (by rfl) (fun K hK => ?_)
                        have f0 := P13_3.out.free 0
                        have f1 := P13_3.out.free 1
                        have e0 : w73.cell? ⟨b13, 0, none⟩ = some (.slice none 0 0) := P13_3.out.cell 0
                        have e1 : w73.cell? ⟨b13, 1, none⟩ = some (.int .i64 0) := P13_3.out.cell 1
                        go_simp
                        have hp := put2 P13_3.out (.slice A9 (xn + 1) c9) (.int .i64 (xco + zm))
                        clear f0 f1 e0 e1
                        generalize (w73.setCell ⟨b13, 0, none⟩ (.slice A9 (xn + 1) c9)).setCell ⟨b13, 1, none⟩ (.int .i64 (xco + zm)) = w74 at *
                        obtain ⟨hp1, hp2⟩ := hp
                        have P13_4 := Lib.hid hp1
                        have P14_4 := Lib.hid (P14_3.out.same (hp2.block b14 P14_3.out.lt (by have := NE.out; simp; omega)))
                        have B4 := Lib.hid (show Below w7.heap.size w7 w74 from B3.out.grown hp2 B3.out.size (fun k hk => by injection hk with hk; have := Gb13.out; omega))
                        have ACC4 := Lib.hid (show AccI w74 w7.heap.size A9 c9 (rr ++ [(tN : Int)]) from AccR.kept ACC3.out hp2 (fun x hx e => by injection e with e; exact accr_ne ACC3.out P13_3.out (by decide) x hx e.symm))
                        clear hp1 hp2
                        refine hK _ _ (fun W => Below w7.heap.size w7 W) (fun W h => h) B4.out ?_
                        clear hK K
                        refine way_make rfl (by rfl) (fun K hK => ?_)
                        have f0 := P14_4.out.free 0
                        have f1 := P14_4.out.free 1
                        have e0 : w74.cell? ⟨b14, 0, none⟩ = some (.slice none 0 0) := P14_4.out.cell 0
                        have e1 : w74.cell? ⟨b14, 1, none⟩ = some (.int .i64 0) := P14_4.out.cell 1
                        go_simp
                        have hp := put2 P14_4.out (.slice ya yn yc) (.int .i64 yco)
                        clear f0 f1 e0 e1
                        generalize (w74.setCell ⟨b14, 0, none⟩ (.slice ya yn yc)).setCell ⟨b14, 1, none⟩ (.int .i64 yco) = w75 at *
                        obtain ⟨hp1, hp2⟩ := hp
                        have P14_5 := Lib.hid hp1
                        have P13_5 := Lib.hid (P13_4.out.same (hp2.block b13 P13_4.out.lt (by have := NE.out; simp; omega)))
                        have B5 := Lib.hid (show Below w7.heap.size w7 w75 from B4.out.grown hp2 B4.out.size (fun k hk => by injection hk with hk; have := Gb14.out; omega))
                        have ACC5 := Lib.hid (show AccI w75 w7.heap.size A9 c9 (rr ++ [(tN : Int)]) from AccR.kept ACC4.out hp2 (fun x hx e => by injection e with e; exact accr_ne ACC4.out P14_4.out (by decide) x hx e.symm))
                        clear hp1 hp2
                        refine hK _ _ (fun W => Below w7.heap.size w7 W) (fun W h => h) B5.out ?_
                        clear hK K
                        refine way_done ?_
                        go_wp2_with fail
                        go_meet
                        exact ⟨b13, b14, c9, A9, rfl, rfl, Gb13.out, P13_5.out, P14_5.out, ACC5.out, B5.out⟩
                      · skip
                        go_simp
                        have hbn : Below w71.heap.size w71 (w71.alloc (.cells #[.slice none 0 0, .int .i64 0] 37)) := bel_new (Below.refl _ _) _
                        have hpn : Blk (w71.alloc (.cells #[.slice none 0 0, .int .i64 0] 37)) w71.heap.size 37 [.slice none 0 0, .int .i64 0] := Blk.new w71 _ _
                        have hge : w7.heap.size ≤ w71.heap.size := B1.out.size
                        have hne : b14 ≠ w71.heap.size := by have := P14_1.out.lt; omega
                        have hbw := B1.out.trans (hbn.mono B1.out.size)
                        have hoth := P14_1.out.below hbn
                        generalize w71.alloc (.cells #[.slice none 0 0, .int .i64 0] 37) = w72 at *
                        generalize w71.heap.size = b13 at *
                        have B2 := Lib.hid hbw
                        have P13_2 := Lib.hid hpn
                        have Gb13 := Lib.hid hge
                        have P14_2 := Lib.hid hoth
                        have NE := Lib.hid hne
                        clear hbn hpn hge hbw hoth hne
                        refine hK _ _ (fun W => Below w7.heap.size w7 W) (fun W h => h) B2.out ?_
                        clear hK K
                        refine way_make rfl (by rfl) (fun K hK => ?_)
                        go_simp
                        ((with_reducible refine (HFUR.out w72 B2.out).mono ?_))
                        rintro e w73 ⟨hbn, A9, c9, rfl, hacc⟩
                        have B3 := Lib.hid (show Below w7.heap.size w7 w73 from B2.out.trans (hbn.mono B2.out.size))
                        have ACC3 := Lib.hid (show AccI w73 w7.heap.size A9 c9 (rr ++ [(tN : Int)]) from AccR.lower hacc B2.out.size)
                        have P13_3 := Lib.hid (P13_2.out.below hbn)
                        have P14_3 := Lib.hid (P14_2.out.below hbn)
                        clear hbn hacc
                        go_simp
                        refine hK _ _ (fun W => Below w7.heap.size w7 W) (fun W h => h) B3.out ?_
                        clear hK K
                        refine way_make rfl (by rfl) (fun K hK => ?_)
                        have f0 := P13_3.out.free 0
                        have f1 := P13_3.out.free 1
                        have e0 : w73.cell? ⟨b13, 0, none⟩ = some (.slice none 0 0) := P13_3.out.cell 0
                        have e1 : w73.cell? ⟨b13, 1, none⟩ = some (.int .i64 0) := P13_3.out.cell 1
                        go_simp
                        have hp := put2 P13_3.out (.slice A9 (xn + 1) c9) (.int .i64 (xco + zm))
                        clear f0 f1 e0 e1
                        generalize (w73.setCell ⟨b13, 0, none⟩ (.slice A9 (xn + 1) c9)).setCell ⟨b13, 1, none⟩ (.int .i64 (xco + zm)) = w74 at *
                        obtain ⟨hp1, hp2⟩ := hp
                        have P13_4 := Lib.hid hp1
                        have P14_4 := Lib.hid (P14_3.out.same (hp2.block b14 P14_3.out.lt (by have := NE.out; simp; omega)))
                        have B4 := Lib.hid (show Below w7.heap.size w7 w74 from B3.out.grown hp2 B3.out.size (fun k hk => by injection hk with hk; have := Gb13.out; omega))
                        have ACC4 := Lib.hid (show AccI w74 w7.heap.size A9 c9 (rr ++ [(tN : Int)]) from AccR.kept ACC3.out hp2 (fun x hx e => by injection e with e; exact accr_ne ACC3.out P13_3.out (by decide) x hx e.symm))
                        clear hp1 hp2
                        refine hK _ _ (fun W => Below w7.heap.size w7 W) (fun W h => h) B4.out ?_
                        clear hK K
                        refine way_make rfl (by rfl) (fun K hK => ?_)
                        have f0 := P14_4.out.free 0
                        have f1 := P14_4.out.free 1
                        have e0 : w74.cell? ⟨b14, 0, none⟩ = some (.slice none 0 0) := P14_4.out.cell 0
                        have e1 : w74.cell? ⟨b14, 1, none⟩ = some (.int .i64 0) := P14_4.out.cell 1
                        go_simp
                        have hp := put2 P14_4.out (.slice ya yn yc) (.int .i64 yco)
                        clear f0 f1 e0 e1
                        generalize (w74.setCell ⟨b14, 0, none⟩ (.slice ya yn yc)).setCell ⟨b14, 1, none⟩ (.int .i64 yco) = w75 at *
                        obtain ⟨hp1, hp2⟩ := hp
                        have P14_5 := Lib.hid hp1
                        have P13_5 := Lib.hid (P13_4.out.same (hp2.block b13 P13_4.out.lt (by have := NE.out; simp; omega)))
                        have B5 := Lib.hid (show Below w7.heap.size w7 w75 from B4.out.grown hp2 B4.out.size (fun k hk => by injection hk with hk; have := Gb14.out; omega))
                        have ACC5 := Lib.hid (show AccI w75 w7.heap.size A9 c9 (rr ++ [(tN : Int)]) from AccR.kept ACC4.out hp2 (fun x hx e => by injection e with e; exact accr_ne ACC4.out P14_4.out (by decide) x hx e.symm))
                        clear hp1 hp2
                        refine hK _ _ (fun W => Below w7.heap.size w7 W) (fun W h => h) B5.out ?_
                        clear hK K
                        refine way_done ?_
                        go_wp2_with fail
                        go_meet
                        exact ⟨b13, b14, c9, A9, rfl, rfl, Gb13.out, P13_5.out, P14_5.out, ACC5.out, B5.out⟩
                  case rest =>
                    obtain ⟨b13, b14, c9, A9, rfl, rfl, hg13, hp13, hp14, hacc, hb8⟩ := hcut
                    have W8 := Lib.hid (HW7.out.below hb8)
                    have P13 := Lib.hid hp13
                    have ACC := Lib.hid hacc
                    have hrow := AccR.row hacc
                    rw [show (rr ++ [(tN : Int)]).length = xn + 1 by simp [HNL.out]] at hrow
                    have G13 := Lib.hid hg13
                    have x0 : wc.cell? ⟨b13, 0, none⟩ = some (.slice A9 (xn + 1) c9) := hp13.cell 0
                    have x1 : wc.cell? ⟨b13, 1, none⟩ = some (.int .i64 (xco + zm)) := hp13.cell 1
                    have y0 : wc.cell? ⟨b14, 0, none⟩ = some (.slice ya yn yc) := hp14.cell 0
                    have y1 : wc.cell? ⟨b14, 1, none⟩ = some (.int .i64 yco) := hp14.cell 1
                    have hokt := HOKT.out
                    cases hpt : sat S (tN : Int) with
                    | none =>
                      rw [hpt] at hokt
                      obtain ⟨e1, e2⟩ := hokt
                      simp only at e1 e2
                      subst e1
                      subst e2
                      have HPT := Lib.hid hpt
                      clear hp13 hp14 hacc hb8 hpt hrow
                      go_upto_region 19 with fail
                      clear x0 x1 y0 y1
                      have HT := Lib.hid (show rlx S ⟨(fN : Int), (tN : Int), zc, zm, zg⟩ = S.set tN (some (xco + zm, rr ++ [(tN : Int)])) from rlx_set HP.out HIN.out (fun q hq => by rw [show sat S (⟨(fN : Int), (tN : Int), zc, zm, zg⟩ : Lk).t = none from HPT.out] at hq; cases hq))
                      have hwy := W8.out
                      have hglt := hwy.lt
                      have hgb : b13 ≠ g := by have := G13.out; have := HW7.out.lt.2; omega
                      have r0 : wc.cell? ⟨b13, 0, none⟩ = some (.slice A9 (xn + 1) c9) := P13.out.cell 0
                      have r1 : wc.cell? ⟨b13, 1, none⟩ = some (.int .i64 (xco + zm)) := P13.out.cell 1
                      have r2 : wc.cell? ⟨b, o + u * 5 + 1, none⟩ = some (.int .i64 (tN : Int)) := (LC.out wc hwy.bel).2.1
                      have k0 : wc.cell? ⟨g, tN * 2, none⟩ = some (.slice ya 0 yc) := hwy.range hyt 0 _ rfl
                      have k1 : wc.cell? ⟨g, tN * 2 + 1, none⟩ = some (.int .i64 (-1)) := hwy.range hyt 1 _ rfl
                      have f0 := hwy.free (tN * 2)
                      have f1 := hwy.free (tN * 2 + 1)
                      have hok : WayOk wc w.heap.size g ⟨A9, xn + 1, c9, xco + zm⟩ (some (xco + zm, rr ++ [(tN : Int)])) := by
                        refine ⟨rfl, by have := HM5.out; omega, by simp [HNL.out], ?_, fun b' o' e => ?_⟩
                        · have := AccR.row ACC.out
                          rw [show (rr ++ [(tN : Int)]).length = xn + 1 by simp [HNL.out]] at this
                          exact this
                        · have h1 := (AccR.ge ACC.out (x := b') (by have e' : A9 = some ⟨b', o', none⟩ := e; rw [e']; rfl)).1
                          have h2 := HW7.out.lt.2
                          have h3 := HW7.out.bel.size
                          exact ⟨by omega, by omega⟩
                      have hst := hwy.store (i := tN) ⟨A9, xn + 1, c9, xco + zm⟩ (some (xco + zm, rr ++ [(tN : Int)])) hok
                      have hst' : Wys w ((wc.setCell ⟨g, tN * 2, none⟩ (.slice A9 (xn + 1) c9)).setCell ⟨g, tN * 2 + 1, none⟩ (.int .i64 (xco + zm))) g c1 (S.set tN (some (xco + zm, rr ++ [(tN : Int)]))) (xs.set tN ⟨A9, xn + 1, c9, xco + zm⟩) := hst
                      have HST := Lib.hid hst'
                      have SS := Lib.hid (show (wc.cell? ⟨b13, 0, none⟩ = some (.slice A9 (xn + 1) c9) ∧ wc.cell? ⟨b13, 1, none⟩ = some (.int .i64 (xco + zm)) ∧ wc.cell? ⟨b, o + u * 5 + 1, none⟩ = some (.int .i64 (tN : Int))) ∧ (((wc.setCell ⟨g, tN * 2, none⟩ (.slice A9 (xn + 1) c9)).setCell ⟨g, tN * 2 + 1, none⟩ (.int .i64 (xco + zm))).cell? ⟨b13, 0, none⟩ = some (.slice A9 (xn + 1) c9) ∧ ((wc.setCell ⟨g, tN * 2, none⟩ (.slice A9 (xn + 1) c9)).setCell ⟨g, tN * 2 + 1, none⟩ (.int .i64 (xco + zm))).cell? ⟨b13, 1, none⟩ = some (.int .i64 (xco + zm)) ∧ ((wc.setCell ⟨g, tN * 2, none⟩ (.slice A9 (xn + 1) c9)).setCell ⟨g, tN * 2 + 1, none⟩ (.int .i64 (xco + zm))).cell? ⟨b, o + u * 5 + 1, none⟩ = some (.int .i64 (tN : Int))) from by
                        have hb13 := (P13.out.other (p := ⟨g, tN * 2, none⟩) (Ne.symm hgb) (.slice A9 (xn + 1) c9)).other (p := ⟨g, tN * 2 + 1, none⟩) (Ne.symm hgb) (.int .i64 (xco + zm))
                        exact ⟨⟨r0, r1, r2⟩, hb13.cell 0, hb13.cell 1, (LC.out _ hst'.bel).2.1⟩)
                      clear hwy hglt r0 r1 r2 hok hst hst'
                      go_wp2_with fail
                      refine region_seq (fun W => W.cell? ⟨b13, 0, none⟩ = some (.slice A9 (xn + 1) c9) ∧ W.cell? ⟨b13, 1, none⟩ = some (.int .i64 (xco + zm)) ∧ W.cell? ⟨b, o + u * 5 + 1, none⟩ = some (.int .i64 (tN : Int))) [(0, true), (1, true), (2, true), (3, true), (4, true), (5, true), (6, true), (7, true), (8, false)]
                        (by kernel_rfl) (by kernel_rfl) (by kernel_rfl) (by kernel_rfl) (fun _ _ _ _ _ h => h) SS.out.1 ?_
                      repeat
                        refine seq_pure (v := ?_) rfl (by rfl) (fun W hW => ?_) ?_
                        rotate_left
                        · obtain ⟨r0, r1, r2⟩ := hW
                          go_simp
                          with_reducible rfl
                        simp only [Act.put, List.setIfInBounds_toArray, List.set_cons_zero, List.set_cons_succ]
                      refine seq_make rfl (by rfl) (fun K hK => ?_)
                      go_simp
                      refine hK _ _ (fun W => W.cell? ⟨b13, 0, none⟩ = some (.slice A9 (xn + 1) c9) ∧ W.cell? ⟨b13, 1, none⟩ = some (.int .i64 (xco + zm)) ∧ W.cell? ⟨b, o + u * 5 + 1, none⟩ = some (.int .i64 (tN : Int))) (fun W h => h) SS.out.2 ?_
                      clear hK K f0 f1 k0 k1
                      refine seq_done ?_
                      have HST2 := Lib.hid (HST.out.below (Below.refl _ _).drew)
                      go_wp2_with fail
                      go_roundw
                      case rel => exact ⟨u + 1, _, by omega, rfl, by rw [HNX.out, HT.out]; exact HST2.out⟩
                      case measure => simp [intOf]; omega
                    | some q2 =>
                      obtain ⟨c2, r2⟩ := q2
                      rw [hpt] at hokt
                      obtain ⟨e1, e2, e3, e4, e5⟩ := hokt
                      simp only at e1 e2 e3 e4 e5
                      subst e1
                      have hok8 := W8.out.ok tN ⟨ya, yn, yc, yco⟩ _ hyt (sat_get (by omega))
                      rw [hpt] at hok8
                      have hrow2 := hok8.2.2.2.1
                      have hway2 := HNT.out.way (tN : Int) yco r2 (by omega) (by omega) hpt
                      have hsh2 := hway2.short HNET.out.2.2.2 HC.out.2
                      have hbc := rbetter_calls (xco + zm) yco A9 ya (xn + 1) yn c9 yc wc.heap.size wc.heap.size (rr ++ [(tN : Int)]) r2 wc hrow hrow2 (by omega) (by omega)
                      unfold BetPost at hbc
                      have HPT := Lib.hid hpt
                      have hyc : ¬ yco < 0 := by omega
                      clear hp13 hp14 hacc hb8 hpt hrow hrow2 hway2 hsh2 hok8 e2 e3 e4 e5
                      go_wp2_with fail
                      ((with_reducible refine hbc.mono ?_))
                      rintro e w9 ⟨rfl, kd, hkd⟩
                      have hb9 : Below wc.heap.size wc w9 := by rw [hkd]; exact bel_drewN (Below.refl _ _) kd
                      have W8 := Lib.hid (W8.out.below hb9)
                      have P13 := Lib.hid (P13.out.below hb9)
                      have ACC := Lib.hid (show AccI w9 w7.heap.size A9 c9 (rr ++ [(tN : Int)]) from AccR.bel ACC.out hb9)
                      clear hkd hb9 hbc x0 x1 y0 y1
                      by_cases hbt : bet (xco + zm, rr ++ [(tN : Int)]) (yco, r2)
                      · have hd : decide (bet (xco + zm, rr ++ [(tN : Int)]) (yco, r2)) = true := by simpa using hbt
                        rw [hd]
                        have HBT := Lib.hid hbt
                        clear hbt hd
                        go_upto_region 19 with fail
                        have HT := Lib.hid (show rlx S ⟨(fN : Int), (tN : Int), zc, zm, zg⟩ = S.set tN (some (xco + zm, rr ++ [(tN : Int)])) from rlx_set HP.out HIN.out (fun q hq => by rw [show sat S (⟨(fN : Int), (tN : Int), zc, zm, zg⟩ : Lk).t = some (yco, r2) from HPT.out] at hq; injection hq with hq; subst hq; exact HBT.out))
                        have hwy := W8.out
                        have hglt := hwy.lt
                        have hgb : b13 ≠ g := by have := G13.out; have := HW7.out.lt.2; omega
                        have r0 : w9.cell? ⟨b13, 0, none⟩ = some (.slice A9 (xn + 1) c9) := P13.out.cell 0
                        have r1 : w9.cell? ⟨b13, 1, none⟩ = some (.int .i64 (xco + zm)) := P13.out.cell 1
                        have rt2 : w9.cell? ⟨b, o + u * 5 + 1, none⟩ = some (.int .i64 (tN : Int)) := (LC.out w9 hwy.bel).2.1
                        have k0 : w9.cell? ⟨g, tN * 2, none⟩ = some (.slice ya yn yc) := hwy.range hyt 0 _ rfl
                        have k1 : w9.cell? ⟨g, tN * 2 + 1, none⟩ = some (.int .i64 yco) := hwy.range hyt 1 _ rfl
                        have f0 := hwy.free (tN * 2)
                        have f1 := hwy.free (tN * 2 + 1)
                        have hok : WayOk w9 w.heap.size g ⟨A9, xn + 1, c9, xco + zm⟩ (some (xco + zm, rr ++ [(tN : Int)])) := by
                          refine ⟨rfl, by have := HM5.out; omega, by simp [HNL.out], ?_, fun b' o' e => ?_⟩
                          · have := AccR.row ACC.out
                            rw [show (rr ++ [(tN : Int)]).length = xn + 1 by simp [HNL.out]] at this
                            exact this
                          · have h1 := (AccR.ge ACC.out (x := b') (by have e' : A9 = some ⟨b', o', none⟩ := e; rw [e']; rfl)).1
                            have h2 := HW7.out.lt.2
                            have h3 := HW7.out.bel.size
                            exact ⟨by omega, by omega⟩
                        have hst := hwy.store (i := tN) ⟨A9, xn + 1, c9, xco + zm⟩ (some (xco + zm, rr ++ [(tN : Int)])) hok
                        have hst' : Wys w ((w9.setCell ⟨g, tN * 2, none⟩ (.slice A9 (xn + 1) c9)).setCell ⟨g, tN * 2 + 1, none⟩ (.int .i64 (xco + zm))) g c1 (S.set tN (some (xco + zm, rr ++ [(tN : Int)]))) (xs.set tN ⟨A9, xn + 1, c9, xco + zm⟩) := hst
                        have HST := Lib.hid hst'
                        have SS := Lib.hid (show (w9.cell? ⟨b13, 0, none⟩ = some (.slice A9 (xn + 1) c9) ∧ w9.cell? ⟨b13, 1, none⟩ = some (.int .i64 (xco + zm)) ∧ w9.cell? ⟨b, o + u * 5 + 1, none⟩ = some (.int .i64 (tN : Int))) ∧ (((w9.setCell ⟨g, tN * 2, none⟩ (.slice A9 (xn + 1) c9)).setCell ⟨g, tN * 2 + 1, none⟩ (.int .i64 (xco + zm))).cell? ⟨b13, 0, none⟩ = some (.slice A9 (xn + 1) c9) ∧ ((w9.setCell ⟨g, tN * 2, none⟩ (.slice A9 (xn + 1) c9)).setCell ⟨g, tN * 2 + 1, none⟩ (.int .i64 (xco + zm))).cell? ⟨b13, 1, none⟩ = some (.int .i64 (xco + zm)) ∧ ((w9.setCell ⟨g, tN * 2, none⟩ (.slice A9 (xn + 1) c9)).setCell ⟨g, tN * 2 + 1, none⟩ (.int .i64 (xco + zm))).cell? ⟨b, o + u * 5 + 1, none⟩ = some (.int .i64 (tN : Int))) from by
                          have hb13 := (P13.out.other (p := ⟨g, tN * 2, none⟩) (Ne.symm hgb) (.slice A9 (xn + 1) c9)).other (p := ⟨g, tN * 2 + 1, none⟩) (Ne.symm hgb) (.int .i64 (xco + zm))
                          exact ⟨⟨r0, r1, rt2⟩, hb13.cell 0, hb13.cell 1, (LC.out _ hst'.bel).2.1⟩)
                        clear hwy hglt r0 r1 rt2 hok hst hst'
                        go_wp2_with fail
                        refine region_seq (fun W => W.cell? ⟨b13, 0, none⟩ = some (.slice A9 (xn + 1) c9) ∧ W.cell? ⟨b13, 1, none⟩ = some (.int .i64 (xco + zm)) ∧ W.cell? ⟨b, o + u * 5 + 1, none⟩ = some (.int .i64 (tN : Int))) [(0, true), (1, true), (2, true), (3, true), (4, true), (5, true), (6, true), (7, true), (8, false)]
                          (by kernel_rfl) (by kernel_rfl) (by kernel_rfl) (by kernel_rfl) (fun _ _ _ _ _ h => h) SS.out.1 ?_
                        repeat
                          refine seq_pure (v := ?_) rfl (by rfl) (fun W hW => ?_) ?_
                          rotate_left
                          · obtain ⟨r0, r1, r2⟩ := hW
                            go_simp
                            with_reducible rfl
                          simp only [Act.put, List.setIfInBounds_toArray, List.set_cons_zero, List.set_cons_succ]
                        refine seq_make rfl (by rfl) (fun K hK => ?_)
                        go_simp
                        refine hK _ _ (fun W => W.cell? ⟨b13, 0, none⟩ = some (.slice A9 (xn + 1) c9) ∧ W.cell? ⟨b13, 1, none⟩ = some (.int .i64 (xco + zm)) ∧ W.cell? ⟨b, o + u * 5 + 1, none⟩ = some (.int .i64 (tN : Int))) (fun W h => h) SS.out.2 ?_
                        clear hK K f0 f1 k0 k1
                        refine seq_done ?_
                        have HST2 := Lib.hid (HST.out.below (Below.refl _ _).drew)
                        go_wp2_with fail
                        go_roundw
                        case rel => exact ⟨u + 1, _, by omega, rfl, by rw [HNX.out, HT.out]; exact HST2.out⟩
                        case measure => simp [intOf]; omega
                      · have hd : decide (bet (xco + zm, rr ++ [(tN : Int)]) (yco, r2)) = false := by simpa using hbt
                        rw [hd]
                        have HBT := Lib.hid hbt
                        clear hbt hd
                        go_wp2_with fail
                        go_roundw
                        case rel => exact ⟨u + 1, xs, by omega, rfl, by rw [HNX.out, rlx_not HP.out HIN.out HPT.out HBT.out]; exact W8.out⟩
                        case measure => simp [intOf]; omega
            · obtain rfl : u = m := by omega
              have u1 : ¬ (u : Int) < (u : Int) := by omega
              have hall : (L.take u).foldl rlx (rnds L j (st0 (i : Int) (k : Int))) = rnds L (j + 1) (st0 (i : Int) (k : Int)) := by
                rw [List.take_of_length_le (by rw [HLM.out]; exact Nat.le_refl _)]; rfl
              have hw := HW.out
              rw [hall] at hw
              have HW' := Lib.hid hw
              clear hw hall
              go_wp2_with fail
              go_roundw
              case rel => exact ⟨j + 1, xs, by omega, rfl, HW'.out⟩
              case measure => simp [intOf]; omega
        · obtain rfl : j = i := by omega
          have j1 : ¬ (j : Int) < (j : Int) := by omega
          have hlen : xs1.length = j := by
            have h1 := W6.out.len
            have h2 := (rnds_ntd HNET.out.2.2.2 NT0.out j).len
            omega
          have HALL := Lib.hid (show AllW (j : Int) L (k : Int) (rnds L j (st0 (j : Int) (k : Int))) from by
            have := rnds_all (L := L) (n := (j : Int)) (a := (k : Int)) HNET.out.2.2.2 HC.out.2 HNET.out.2.1
            simpa using this)
          go_wp2_with fail
          go_ret2
          refine ⟨W6.out.bel, .inr ⟨HC.out.1, HC.out.2.1, HC.out.2.2, g, c1, _, xs1, ?_, W6.out, HALL.out⟩⟩
          rw [hlen]; rfl
end Go.Proofs.Ytkagfgnjfdlicaa
