/-
  The document's routes of at most so many links (viaductref17): ways that lie anywhere, and grown. Condition: at most sixteen nodes, links as they may be, at most 2^30 of them.
-/
import Derived.Test.YtjflbfianncpfaaSpfRB
import Derived.Test.YtjflbfianncpfaaCspM
import Derived.Test.YtjflbfianncpfaaPruRT
namespace Go.Proofs.Ytjflbfianncpfaa
set_option maxRecDepth 100000
set_option linter.unusedVariables false
open Go.RowKit

/-- What a way tells, wherever its list lies. -/
def WayR (W : World) (x : Wc) : Option (Int × List Int) → Prop
  | none => x.n = 0 ∧ x.cost = -1
  | some (c, r) => x.cost = c ∧ 0 ≤ c ∧ x.n = r.length ∧ Row ei W W.heap.size x.a x.n r
/-- Ways that may be read. -/
structure WysR (W : World) (A : Option Addr) (n : Nat) (S : List (Option (Int × List Int))) (xs : List Wc) : Prop where
  row : Row wenc W W.heap.size A n xs
  len : xs.length = S.length
  ok : ∀ (i : Nat) (x : Wc) (p : Option (Int × List Int)), xs[i]? = some x → S[i]? = some p → WayR W x p
/-- Ways in a block, and what they tell; their lists lie anywhere but in that block. -/
structure Wyg (w W : World) (g c : Nat) (S : List (Option (Int × List Int))) (xs : List Wc) : Prop where
  row : AccR wenc 2 W w.heap.size 71 (some ⟨g, 0, none⟩) c xs
  len : xs.length = S.length
  ok : ∀ (i : Nat) (x : Wc) (p : Option (Int × List Int)), xs[i]? = some x → S[i]? = some p → WayOk W 0 g x p
  bel : Below w.heap.size w W
section
variable {w W W' : World} {g c : Nat} {S : List (Option (Int × List Int))} {xs : List Wc}
theorem Wyg.read (h : Wyg w W g c S xs) : WysR W (some ⟨g, 0, none⟩) S.length S xs :=
  ⟨by have := AccR.row h.row; rwa [h.len] at this, h.len, fun i x p h1 h2 => by
    have := h.ok i x p h1 h2
    cases p with
    | none => exact this
    | some q => exact ⟨this.1, this.2.1, this.2.2.1, this.2.2.2.1⟩⟩
theorem Wyg.below (h : Wyg w W g c S xs) (hb : Below W.heap.size W W') : Wyg w W' g c S xs :=
  ⟨h.row.bel hb, h.len, fun i x p h1 h2 => (h.ok i x p h1 h2).below hb, h.bel.trans (hb.mono h.bel.size)⟩
theorem Wyg.lt (h : Wyg w W g c S xs) : w.heap.size ≤ g ∧ g < W.heap.size := AccR.ge h.row rfl
theorem Wyg.range (h : Wyg w W g c S xs) {i : Nat} {x : Wc} (hi : xs[i]? = some x) : W.rangeAt g (i * 2) (wenc x) := by
  have hlt : i < xs.length := (List.getElem?_eq_some_iff.1 hi).1
  intro j v hv
  have hj : j < 2 := by have := (List.getElem?_eq_some_iff.1 hv).1; simpa [wenc] using this
  have h1 := World.ownsRow.cellAt h.row (i * 2 + j) (by omega)
  have h2 := flat_get wenc_length xs i hlt j hj
  have h3 : xs[i] = x := by rw [List.getElem?_eq_getElem hlt] at hi; injection hi
  rw [h3] at h2
  rw [h1, h2]; exact hv
theorem Wyg.free (h : Wyg w W g c S xs) (j : Nat) : W.frozen? ⟨g, j, none⟩ = false := World.ownsRow.frozenAt h.row j
/-- A way is laid over another one. -/
theorem Wyg.store (h : Wyg w W g c S xs) {i : Nat} (y : Wc) (q : Option (Int × List Int)) (hq : WayOk W 0 g y q) :
    Wyg w ((W.setCell ⟨g, i * 2, none⟩ (.slice y.a y.n y.c)).setCell ⟨g, i * 2 + 1, none⟩ (.int .i64 y.cost)) g c (S.set i q) (xs.set i y) := by
  have s1 := World.ownsRow.stored h.row (i * 2) (.slice y.a y.n y.c)
  have s2 := World.ownsRow.stored s1.1 (i * 2 + 1) (.int .i64 y.cost)
  have hg := s1.2.trans s2.2
  have t := s2.1
  rw [flat_set2 _ _ y rfl] at t
  have hgb : Below w.heap.size w ((W.setCell ⟨g, i * 2, none⟩ (.slice y.a y.n y.c)).setCell ⟨g, i * 2 + 1, none⟩ (.int .i64 y.cost)) := h.bel.grown hg h.bel.size (fun k hk => by injection hk with hk; have := h.lt; omega)
  have keep : ∀ (x : Wc) (p : Option (Int × List Int)), WayOk W 0 g x p → WayOk ((W.setCell ⟨g, i * 2, none⟩ (.slice y.a y.n y.c)).setCell ⟨g, i * 2 + 1, none⟩ (.int .i64 y.cost)) 0 g x p := by
    intro x p hp
    cases p with
    | none => exact hp
    | some q =>
      refine ⟨hp.1, hp.2.1, hp.2.2.1, ?_, hp.2.2.2.2⟩
      have hr := hp.2.2.2.1
      refine ⟨hr.1, fun hn => ?_⟩
      obtain ⟨b, o, e, hb, hc⟩ := hr.2 hn
      have hne := (hp.2.2.2.2 b o e).1
      exact ⟨b, o, e, Nat.lt_of_lt_of_le hb hg.size, fun k hk => (World.cell?_of_block (w := W) (hg.block b hb (by simp; exact hne))).trans (hc k hk)⟩
  refine ⟨?_, by rw [List.length_set, List.length_set]; exact h.len, fun k x p hx hp => ?_, hgb⟩
  · unfold AccR
    rw [List.length_set]
    exact t
  · rw [List.getElem?_set] at hx hp
    by_cases hk : i = k
    · subst hk
      have hlen := h.len
      by_cases hl : i < xs.length
      · rw [if_pos rfl, if_pos hl] at hx
        rw [if_pos rfl, if_pos (by omega)] at hp
        injection hx with hx
        injection hp with hp
        subst hx
        subst hp
        exact keep y q hq
      · rw [if_pos rfl, if_neg hl] at hx; cases hx
    · rw [if_neg hk] at hx hp
      exact keep x p (h.ok k x p hx hp)
end
theorem fold_takeG {L : List Lk} {u : Nat} (hu : u < L.length) (S O : List (Option (Int × List Int))) : (L.take (u + 1)).foldl (rlg S) O = rlg S ((L.take u).foldl (rlg S) O) L[u] := by
  rw [List.take_succ_eq_append_getElem hu, List.foldl_append]; rfl
section
variable {S O : List (Option (Int × List Int))} {z : Lk} {c : Int} {r : List Int}
theorem rlg_none (h : sat S z.f = none) : rlg S O z = O := by unfold rlg; rw [h]
theorem rlg_in (h : sat S z.f = some (c, r)) (ht : z.t ∈ r) : rlg S O z = O := by unfold rlg; rw [h]; simp [ht]
theorem rlg_set (h : sat S z.f = some (c, r)) (ht : z.t ∉ r) (hb : ∀ q, sat O z.t = some q → bet (c + z.m, r ++ [z.t]) q) : rlg S O z = O.set z.t.toNat (some (c + z.m, r ++ [z.t])) := by
  unfold rlg
  rw [h]
  simp only [ht, if_false]
  cases h2 : sat O z.t with
  | none => rfl
  | some q => simp only [hb q h2, if_true]
theorem rlg_not {q : Int × List Int} (h : sat S z.f = some (c, r)) (ht : z.t ∉ r) (h2 : sat O z.t = some q) (hb : ¬ bet (c + z.m, r ++ [z.t]) q) : rlg S O z = O := by
  unfold rlg
  rw [h]
  simp only [ht, if_false]
  rw [h2]
  simp [hb]
end
def GrwPost (w : World) (n : Nat) (S : List (Option (Int × List Int))) (e : Ending) (w' : World) : Prop :=
  Below w.heap.size w w' ∧ ∃ g c xs, e = .returned (.slice (some ⟨g, 0, none⟩) n c) ∧ Wyg w w' g c S xs

set_option maxHeartbeats 12800000 in
theorem rgrown_calls (p q : Option Addr) (n cn m cl k : Nat) (L : List Lk) (S : List (Option (Int × List Int))) (xs0 : List Wc) (a : Int) (w : World) (hs : WysR w p n S xs0) (h : Row lkc w w.heap.size q m L) (hm : m ≤ 1073741824) (hL : NetOk (n : Int) L) (ha : 0 ≤ a ∧ a < (n : Int)) (hn : n ≤ 16) (hA : AllK (n : Int) L a k S) :
    Calls Try.prog 25 #[.slice p n cn, .slice q m cl] w (GrwPost w n (grw L S)) := by
  have HR := Lib.hid h
  have HLM := Lib.hid h.1
  have HNET := Lib.hid hL
  have HAI := Lib.hid ha
  have HALL := Lib.hid hA
  have HXO := Lib.hid hs.ok
  have HXL := Lib.hid hs.len
  have HSL := Lib.hid (show S.length = n from by have := hA.len; omega)
  have N1 : 1 ≤ n := by omega
  obtain ⟨b0, o0, rfl, hb0, hc0⟩ := hs.row.cells wenc_length (by omega)
  have XC := Lib.hid (show ∀ W, Below w.heap.size w W → ∀ (i : Nat) (x : Wc), xs0[i]? = some x → W.cell? ⟨b0, o0 + i * 2, none⟩ = some (.slice x.a x.n x.c) ∧ W.cell? ⟨b0, o0 + i * 2 + 1, none⟩ = some (.int .i64 x.cost) from fun W hW i x hx => by
    obtain ⟨hi, rfl⟩ := List.getElem?_eq_some_iff.1 hx
    exact ⟨(hW.cell (p := ⟨b0, o0 + i * 2, none⟩) hb0).trans (hc0 i hi 0 (by omega)), (hW.cell (p := ⟨b0, o0 + i * 2 + 1, none⟩) hb0).trans (hc0 i hi 1 (by omega))⟩)
  clear h hL ha hA hs hb0 hc0
  go_enter Try.func25, Try.ntmps25
  go_wp2_with fail
  go_loopw [5, 6] (fun s t W => ∃ (i c1 : Nat) (A : Option Addr), s = .slice A i c1 ∧ t = .int .i64 (i : Int) ∧ i ≤ n ∧ AccR wenc 2 W w.heap.size 71 A c1 (xs0.take i) ∧ Below w.heap.size w W) (fun s t W => n - (intOf t).toNat)
  case atStart => exact ⟨0, 0, none, rfl, rfl, Nat.zero_le _, AccR.nil _ _ _, Below.refl _ _⟩
  case round =>
    obtain ⟨i, c1, A, rfl, rfl, hi, hacc, hb⟩ := hrel
    have HA := Lib.hid hacc
    have HB := Lib.hid hb
    clear hacc hb
    have hlen : (xs0.take i).length = i := by rw [List.length_take]; have := HXL.out; have := HSL.out; omega
    by_cases hlt : i < n
    · obtain ⟨x, hx⟩ : ∃ x, xs0[i]? = some x := ⟨xs0[i]'(by have := HXL.out; have := HSL.out; omega), List.getElem?_eq_getElem _⟩
      have hxc := XC.out wr HB.out i x hx
      have i1 : (i : Int) < (n : Int) := by omega
      obtain ⟨A9, c9, w9, r9, a9, g9⟩ := accr_push (P := Try.prog) wenc_length wenc_one (by omega) HA.out x (ty := 69) Try.underlying69 infoWay3 rfl HB.out.size (by rw [hlen]; omega) (by rw [hlen]; omega)
      rw [hlen] at r9
      rw [show xs0.take i ++ [x] = xs0.take (i + 1) by rw [List.take_add_one, hx]; rfl] at a9
      obtain ⟨xa, xn, xc, xco⟩ := x
      have d0 : wr.cell? ⟨b0, o0 + i * 2, none⟩ = some (.slice xa xn xc) := hxc.1
      have d1 : wr.cell? ⟨b0, o0 + i * 2 + 1, none⟩ = some (.int .i64 xco) := hxc.2
      have B9 := Lib.hid (show Below w.heap.size w w9 from belr_acc HB.out HA.out g9)
      have A9' := Lib.hid a9
      have R9 := Lib.hid (show (Builtin.append_ #[69, 69] 69 #[.slice A i c1, .slice (some ⟨wr.heap.size, 0, none⟩) 1 1]).run Try.prog (wr.alloc (.cells #[.slice xa xn xc, .int .i64 xco] 71)) = .ok (.slice A9 (i + 1) c9) w9 from r9)
      clear r9 a9 g9 hx hxc hlen
      go_wp2_with (at_builtin; refine step_append rfl rfl rfl rfl R9.out ?_)
      go_roundw
      case rel => exact ⟨i + 1, c9, A9, rfl, rfl, by omega, A9'.out, B9.out⟩
      case measure => simp [intOf]; omega
    · obtain rfl : i = n := by omega
      have i1 : ¬ (i : Int) < (i : Int) := by omega
      have hfull : xs0.take i = xs0 := List.take_of_length_le (by rw [HXL.out, HSL.out]; exact Nat.le_refl _)
      have hac := HA.out
      rw [hfull] at hac
      obtain ⟨g, rfl⟩ : ∃ g, A = some ⟨g, 0, none⟩ := by
        rcases hac.2 with ⟨_, h0⟩ | ⟨g', cap, cur, hv, _⟩
        · rw [HXL.out, HSL.out] at h0; omega
        · injection hv with e; exact ⟨g', e⟩
      have hgge : w.heap.size ≤ g := (AccR.ge hac rfl).1
      have hw0 : Wyg w wr g c1 S xs0 := ⟨hac, HXL.out, fun j x pq hx hq => by
        have ho := HXO.out j x pq hx hq
        cases pq with
        | none => exact ho
        | some pr =>
          refine ⟨ho.1, ho.2.1, ho.2.2.1, (ho.2.2.2.below HB.out).more HB.out.size, fun b o e => ⟨?_, Nat.zero_le _⟩⟩
          have hj : j < S.length := (List.getElem?_eq_some_iff.1 hq).1
          have hsj := sat_get hj
          rw [hq] at hsj
          injection hsj with hsj
          obtain ⟨pc, rr⟩ := pr
          have hwy := (HALL.out.best (j : Int) pc rr (by omega) (by have := HSL.out; omega) hsj.symm).1.1
          have hl := hwy.len
          obtain ⟨b', o', e', hb', _⟩ := ho.2.2.2.2 (by have := ho.2.2.1; omega)
          rw [e] at e'
          injection e' with e'
          injection e' with e1 _ _
          omega, HB.out⟩
      have W5 := Lib.hid hw0
      clear hlt hi hlen hfull hac HA HB hw0 hgge
      go_wp2_with fail
      go_loopw [7] (fun t W => ∃ (u : Nat) (xs : List Wc), u ≤ m ∧ t = .int .i64 (u : Int) ∧ Wyg w W g c1 ((L.take u).foldl (rlg S) S) xs) (fun t W => m - (intOf t).toNat)
      case atStart => exact ⟨0, xs0, Nat.zero_le _, rfl, W5.out⟩
      case round =>
        clear W5 i1
        obtain ⟨u, xs, hu, rfl, hw⟩ := hrel
        have HW := Lib.hid hw
        clear hw
        by_cases hum : u < m
        · have hul : u < L.length := by have := HLM.out; omega
          obtain ⟨b, o, rfl, hbw, hcell⟩ := row_link HR.out (by omega)
          have hz : L[u] ∈ L := List.getElem_mem hul
          have hlk := hcell u hul
          have hnx := fold_takeG hul S S
          have hnt : Gng (i : Int) L a k S (L.take u) ((L.take u).foldl (rlg S) S) := by
            have := Gng.fold HNET.out HALL.out (L.take u) [] S (fun y hy => List.mem_of_mem_take hy) (fun y hy => by cases hy) (Gng.start HALL.out)
            simpa using this
          have hm5 := HNET.out _ hz
          generalize L[u] = z at hz hlk hnx hm5
          generalize (L.take u).foldl (rlg S) S = O at hnx hnt HW
          obtain ⟨zf, zt, zc, zm, zg⟩ := z
          simp only at hm5
          obtain ⟨fN, rfl⟩ : ∃ fN : Nat, zf = (fN : Int) := ⟨zf.toNat, by omega⟩
          obtain ⟨tN, rfl⟩ : ∃ tN : Nat, zt = (tN : Int) := ⟨zt.toNat, by omega⟩
          have fi : fN < i := by omega
          have ti : tN < i := by omega
          have fi' : (fN : Int) < (i : Int) := by omega
          have ti' : (tN : Int) < (i : Int) := by omega
          have hOl : O.length = i := by have := hnt.len; omega
          have hxl : xs.length = i := by rw [HW.out.len]; exact hOl
          have hx0 : xs0.length = i := by rw [HXL.out]; exact HSL.out
          obtain ⟨xf, hxf⟩ : ∃ xf, xs0[fN]? = some xf := ⟨xs0[fN]'(by omega), List.getElem?_eq_getElem _⟩
          obtain ⟨yt, hyt⟩ : ∃ yt, xs[tN]? = some yt := ⟨xs[tN]'(by omega), List.getElem?_eq_getElem _⟩
          have hokf := HXO.out fN xf _ hxf (sat_get (by have := HSL.out; omega))
          have hokt := HW.out.ok tN yt _ hyt (sat_get (by omega))
          have LC := Lib.hid (show ∀ W, Below w.heap.size w W → W.cell? ⟨b, o + u * 5, none⟩ = some (.int .i64 (fN : Int)) ∧ W.cell? ⟨b, o + u * 5 + 1, none⟩ = some (.int .i64 (tN : Int)) ∧ W.cell? ⟨b, o + u * 5 + 3, none⟩ = some (.int .i64 zm) from fun W hW => by
            have hl := link_cells (w := w) hlk
            exact ⟨(hW.cell (p := ⟨b, o + u * 5, none⟩) hbw).trans hl.1, (hW.cell (p := ⟨b, o + u * 5 + 1, none⟩) hbw).trans hl.2.1, (hW.cell (p := ⟨b, o + u * 5 + 3, none⟩) hbw).trans hl.2.2.2.1⟩)
          have u1 : (u : Int) < (m : Int) := by omega
          have HNX := Lib.hid hnx
          have HNT := Lib.hid hnt
          have HM5 := Lib.hid hm5
          have hxc := XC.out wr HW.out.bel fN xf hxf
          clear hcell hlk hnx hnt hz hm5 hul hum
          cases hp : sat S (fN : Int) with
          | none =>
            rw [hp] at hokf
            obtain ⟨xa, xn, xc, xco⟩ := xf
            obtain ⟨h1, h2⟩ := hokf
            simp only at h1 h2
            subst h1
            subst h2
            have HP := Lib.hid hp
            clear hokt hp
            have cf0 : wr.cell? ⟨b0, o0 + fN * 2, none⟩ = some (.slice xa 0 xc) := hxc.1
            have cf1 : wr.cell? ⟨b0, o0 + fN * 2 + 1, none⟩ = some (.int .i64 (-1)) := hxc.2
            have l0 := (LC.out wr HW.out.bel).1
            have l1 := (LC.out wr HW.out.bel).2.1
            go_upto_region 10 with fail
            have hb6 : Below wr.heap.size wr (wr.alloc (.cells #[.slice xa 0 xc, .int .i64 (-1)] 71)) := bel_new (Below.refl _ _) _
            have ht6 : Blk (wr.alloc (.cells #[.slice xa 0 xc, .int .i64 (-1)] 71)) wr.heap.size 71 [.slice xa 0 xc, .int .i64 (-1)] := Blk.new wr _ _
            have hw6 := HW.out.below hb6
            clear cf0 cf1 l0 l1 hxc HW
            generalize wr.alloc (.cells #[.slice xa 0 xc, .int .i64 (-1)] 71) = w6 at hb6 ht6 hw6 ⊢
            generalize wr.heap.size = tb at ht6 ⊢
            have HW6 := Lib.hid hw6
            have TB := Lib.hid ht6
            have T6 := Lib.hid (show ∀ W, Below w6.heap.size w6 W → W.cell? ⟨tb, 0, none⟩ = some (.slice xa 0 xc) ∧ W.cell? ⟨tb, 1, none⟩ = some (.int .i64 (-1)) ∧ W.cell? ⟨b, o + u * 5 + 1, none⟩ = some (.int .i64 (tN : Int)) from fun W hW => ⟨(ht6.below hW).cell 0, (ht6.below hW).cell 1, (LC.out W (hw6.bel.trans (hW.mono hw6.bel.size))).2.1⟩)
            clear hb6 ht6 hw6
            refine region_seq (fun W => Below w6.heap.size w6 W) [(0, true), (1, true), (2, true), (3, true), (4, true), (5, true), (6, true), (7, true), (8, true), (9, true), (10, true), (11, false), (12, true)]
              (by kernel_rfl) (by kernel_rfl) (by kernel_rfl) (by kernel_rfl) (fun _ _ _ _ _ h => h) (Below.refl _ _).drew ?_

            repeat first
              | refine seq_skip rfl (by rfl) ?_
                simp only [Act.put, List.setIfInBounds_toArray, List.set_cons_zero, List.set_cons_succ]
              | refine seq_pure (v := ?_) rfl (by rfl) (fun W hW => ?_) ?_
                rotate_left
                · have t0 := (T6.out W hW).1
                  have t1 := (T6.out W hW).2.1
                  have l1 := (T6.out W hW).2.2
                  clear hW
                  go_simp
                  with_reducible rfl
                simp only [Act.put, List.setIfInBounds_toArray, List.set_cons_zero, List.set_cons_succ]
            refine seq_unmakeS rfl (by rfl) (Below.refl _ _).drew ?_
            simp only [Act.put, List.setIfInBounds_toArray, List.set_cons_zero, List.set_cons_succ]

            repeat first
              | refine seq_skip rfl (by rfl) ?_
                simp only [Act.put, List.setIfInBounds_toArray, List.set_cons_zero, List.set_cons_succ]
              | refine seq_pure (v := ?_) rfl (by rfl) (fun W hW => ?_) ?_
                rotate_left
                · have t0 := (T6.out W hW).1
                  have t1 := (T6.out W hW).2.1
                  have l1 := (T6.out W hW).2.2
                  clear hW
                  go_simp
                  with_reducible rfl
                simp only [Act.put, List.setIfInBounds_toArray, List.set_cons_zero, List.set_cons_succ]
            refine seq_done ?_

            go_wp2_with fail
            go_roundw
            case rel => exact ⟨u + 1, xs, by omega, rfl, by rw [HNX.out, rlg_none HP.out]; exact HW6.out.below (Below.refl _ _).drew⟩
            case measure => simp [intOf]; omega
          | some q =>
            obtain ⟨cc, rr⟩ := q
            rw [hp] at hokf
            obtain ⟨xa, xn, xc, xco⟩ := xf
            obtain ⟨h1, h2, h3, h4⟩ := hokf
            simp only at h1 h2 h3 h4
            subst h1
            have HP := Lib.hid hp
            have HOKT := Lib.hid hokt
            have HRR := Lib.hid h4
            have HNL := Lib.hid h3
            clear hokt hp h3 h4
            have hcc : ¬ xco < 0 := by omega
            have cf0 : wr.cell? ⟨b0, o0 + fN * 2, none⟩ = some (.slice xa xn xc) := hxc.1
            have cf1 : wr.cell? ⟨b0, o0 + fN * 2 + 1, none⟩ = some (.int .i64 xco) := hxc.2
            have l0 := (LC.out wr HW.out.bel).1
            have l1 := (LC.out wr HW.out.bel).2.1
            go_upto_region 10 with fail
            have hb6 : Below wr.heap.size wr (wr.alloc (.cells #[.slice xa xn xc, .int .i64 xco] 71)) := bel_new (Below.refl _ _) _
            have ht6 : Blk (wr.alloc (.cells #[.slice xa xn xc, .int .i64 xco] 71)) wr.heap.size 71 [.slice xa xn xc, .int .i64 xco] := Blk.new wr _ _
            have hw6 := HW.out.below hb6
            clear cf0 cf1 l0 l1 hxc HW
            generalize wr.alloc (.cells #[.slice xa xn xc, .int .i64 xco] 71) = w6 at hb6 ht6 hw6 ⊢
            generalize wr.heap.size = tb at ht6 ⊢
            have HW6 := Lib.hid hw6
            have TB := Lib.hid ht6
            have T6 := Lib.hid (show ∀ W, Below w6.heap.size w6 W → W.cell? ⟨tb, 0, none⟩ = some (.slice xa xn xc) ∧ W.cell? ⟨tb, 1, none⟩ = some (.int .i64 xco) ∧ W.cell? ⟨b, o + u * 5 + 1, none⟩ = some (.int .i64 (tN : Int)) from fun W hW => ⟨(ht6.below hW).cell 0, (ht6.below hW).cell 1, (LC.out W (hw6.bel.trans (hW.mono hw6.bel.size))).2.1⟩)
            clear hb6 ht6 hw6
            have hway := (HALL.out.best (fN : Int) xco rr (by omega) (by omega) HP.out).1.1
            have hcost := hway.cost HNET.out
            have hshort := hway.short HNET.out HAI.out
            have hxn16 : xn ≤ 16 := by have := HNL.out; omega
            have HRR6 := Lib.hid (show Row ei w6 w6.heap.size xa xn rr from (HRR.out.below HW6.out.bel).more HW6.out.bel.size)
            have hhas := rhas_calls (tN : Int) xa xn xc w6.heap.size rr w6.drew HRR6.out (by omega)
            have HCO := Lib.hid (show 0 ≤ xco ∧ xco ≤ 1048576 from by have := HNL.out; omega)
            have HX16 := Lib.hid hxn16
            clear hcost hshort hway hcc h2 hxn16
            by_cases hin : (tN : Int) ∈ rr
            · have hcc : ¬ xco < 0 := by have := HCO.out; omega
              have hd : decide ((tN : Int) ∈ rr) = true := by simpa using hin
              rw [hd] at hhas
              have HIN := Lib.hid hin
              clear hin hd
              refine region_seq (fun W => Below w6.heap.size w6 W) [(0, true), (1, true), (2, true), (3, true), (4, true), (5, true), (6, true), (7, true), (8, true), (9, true), (10, true), (11, false), (12, true)]
                (by kernel_rfl) (by kernel_rfl) (by kernel_rfl) (by kernel_rfl) (fun _ _ _ _ _ h => h) (Below.refl _ _).drew ?_

              repeat first
                | refine seq_skip rfl (by rfl) ?_
                  simp only [Act.put, List.setIfInBounds_toArray, List.set_cons_zero, List.set_cons_succ]
                | refine seq_pure (v := ?_) rfl (by rfl) (fun W hW => ?_) ?_
                  rotate_left
                  · have t0 := (T6.out W hW).1
                    have t1 := (T6.out W hW).2.1
                    have l1 := (T6.out W hW).2.2
                    clear hW
                    go_simp
                    with_reducible rfl
                  simp only [Act.put, List.setIfInBounds_toArray, List.set_cons_zero, List.set_cons_succ]

              refine seq_make rfl (by rfl) (fun K hK => ?_)
              go_simp
              ((with_reducible refine hhas.mono ?_))
              rintro e w7 ⟨rfl, rfl⟩
              go_simp
              refine hK _ _ (fun W => Below w6.heap.size w6 W) (fun W h => h) (Below.refl _ _).drew ?_
              clear hK K

              repeat first
                | refine seq_skip rfl (by rfl) ?_
                  simp only [Act.put, List.setIfInBounds_toArray, List.set_cons_zero, List.set_cons_succ]
                | refine seq_pure (v := ?_) rfl (by rfl) (fun W hW => ?_) ?_
                  rotate_left
                  · have t0 := (T6.out W hW).1
                    have t1 := (T6.out W hW).2.1
                    have l1 := (T6.out W hW).2.2
                    clear hW
                    go_simp
                    with_reducible rfl
                  simp only [Act.put, List.setIfInBounds_toArray, List.set_cons_zero, List.set_cons_succ]
              refine seq_done ?_

              go_wp2_with fail
              go_roundw
              case rel => exact ⟨u + 1, xs, by omega, rfl, by rw [HNX.out, rlg_in HP.out HIN.out]; exact HW6.out.below (Below.refl _ _).drew⟩
              case measure => simp [intOf]; omega
            · have hcc : ¬ xco < 0 := by have := HCO.out; omega
              have hd : decide ((tN : Int) ∈ rr) = false := by simpa using hin
              rw [hd] at hhas
              have HIN := Lib.hid hin
              clear hin hd
              refine region_seq (fun W => Below w6.heap.size w6 W) [(0, true), (1, true), (2, true), (3, true), (4, true), (5, true), (6, true), (7, true), (8, true), (9, true), (10, true), (11, false), (12, true)]
                (by kernel_rfl) (by kernel_rfl) (by kernel_rfl) (by kernel_rfl) (fun _ _ _ _ _ h => h) (Below.refl _ _).drew ?_

              repeat first
                | refine seq_skip rfl (by rfl) ?_
                  simp only [Act.put, List.setIfInBounds_toArray, List.set_cons_zero, List.set_cons_succ]
                | refine seq_pure (v := ?_) rfl (by rfl) (fun W hW => ?_) ?_
                  rotate_left
                  · have t0 := (T6.out W hW).1
                    have t1 := (T6.out W hW).2.1
                    have l1 := (T6.out W hW).2.2
                    clear hW
                    go_simp
                    with_reducible rfl
                  simp only [Act.put, List.setIfInBounds_toArray, List.set_cons_zero, List.set_cons_succ]

              refine seq_make rfl (by rfl) (fun K hK => ?_)
              go_simp
              ((with_reducible refine hhas.mono ?_))
              rintro e w7 ⟨rfl, rfl⟩
              go_simp
              refine hK _ _ (fun W => Below w6.heap.size w6 W) (fun W h => h) (Below.refl _ _).drew ?_
              clear hK K

              repeat first
                | refine seq_skip rfl (by rfl) ?_
                  simp only [Act.put, List.setIfInBounds_toArray, List.set_cons_zero, List.set_cons_succ]
                | refine seq_pure (v := ?_) rfl (by rfl) (fun W hW => ?_) ?_
                  rotate_left
                  · have t0 := (T6.out W hW).1
                    have t1 := (T6.out W hW).2.1
                    have l1 := (T6.out W hW).2.2
                    clear hW
                    go_simp
                    with_reducible rfl
                  simp only [Act.put, List.setIfInBounds_toArray, List.set_cons_zero, List.set_cons_succ]
              refine seq_done ?_
              clear hcc
              go_upto_region 11 with fail
              have hb7 : Below w6.heap.size w6 w6.drew := (Below.refl _ _).drew
              have hw7 := HW6.out.below hb7
              have htb7 := TB.out.below hb7
              have hrr7 := (HRR6.out.below hb7).more hb7.size
              clear hhas T6
              generalize w6.drew = w7 at hb7 hw7 htb7 hrr7 ⊢
              have HW7 := Lib.hid hw7
              have HRR7 := Lib.hid hrr7
              have T7 := Lib.hid (show ∀ W, Below w7.heap.size w7 W → W.cell? ⟨tb, 0, none⟩ = some (.slice xa xn xc) ∧ W.cell? ⟨tb, 1, none⟩ = some (.int .i64 xco) ∧ W.cell? ⟨b, o + u * 5 + 1, none⟩ = some (.int .i64 (tN : Int)) ∧ W.cell? ⟨b, o + u * 5 + 3, none⟩ = some (.int .i64 zm) from fun W hW => by
                have hbw : Below w.heap.size w W := hw7.bel.trans (hW.mono hw7.bel.size)
                exact ⟨(htb7.below hW).cell 0, (htb7.below hW).cell 1, (LC.out W hbw).2.1, (LC.out W hbw).2.2⟩)
              clear hb7 hw7 htb7 hrr7 HW6 HRR6 TB
              have wz : IntKind.i64.wrap (xco + zm) = xco + zm := by have := HCO.out; have := HM5.out; rw [IntWalk.i64_in _ (by omega)]
              refine region_seq (fun W => Below w7.heap.size w7 W) [(0, true), (1, true), (2, true), (3, true), (4, true), (5, true), (6, true), (7, true), (8, true), (9, false), (10, false)]
                (by kernel_rfl) (by kernel_rfl) (by kernel_rfl) (by kernel_rfl) (fun _ _ _ _ _ h => h) (Below.refl _ _).drew ?_
              repeat
                refine seq_pure (v := ?_) rfl (by rfl) (fun W hW => ?_) ?_
                rotate_left
                · obtain ⟨t0, t1, t2, t3⟩ := T7.out W hW
                  clear hW
                  go_simp
                  with_reducible rfl
                simp only [Act.put, List.setIfInBounds_toArray, List.set_cons_zero, List.set_cons_succ]
              clear wz
              have hb70 : Below w7.heap.size w7 w7.drew := (Below.refl _ _).drew
              generalize w7.drew = w70 at hb70 ⊢
              refine seq_make rfl (by rfl) (fun K hK => ?_)
              go_simp
              have hb71 := bel_new hb70 (.cells #[.slice none 0 0, .int .i64 0] 71)
              have hx71 : Blk (w70.alloc (.cells #[.slice none 0 0, .int .i64 0] 71)) w70.heap.size 71 [.slice none 0 0, .int .i64 0] := Blk.new w70 _ _
              have hge : w7.heap.size ≤ w70.heap.size := hb70.size
              generalize w70.alloc (.cells #[.slice none 0 0, .int .i64 0] 71) = w71 at *
              generalize w70.heap.size = xb at *
              have XB1 := Lib.hid hx71
              have B71 := Lib.hid hb71
              have GXB := Lib.hid hge
              clear hb70 hb71 hx71 hge
              refine hK _ _ (fun W => Below w7.heap.size w7 W) (fun W h => h) B71.out ?_
              clear hK K
              refine seq_make rfl (by rfl) (fun K hK => ?_)
              have f0 := XB1.out.free 0
              have f1 := XB1.out.free 1
              have e0 : w71.cell? ⟨xb, 0, none⟩ = some (.slice none 0 0) := XB1.out.cell 0
              have e1 : w71.cell? ⟨xb, 1, none⟩ = some (.int .i64 0) := XB1.out.cell 1
              go_simp
              have hp := put2 XB1.out (.slice none 0 0) (.int .i64 (xco + zm))
              clear f0 f1 e0 e1
              generalize (w71.setCell ⟨xb, 0, none⟩ (.slice none 0 0)).setCell ⟨xb, 1, none⟩ (.int .i64 (xco + zm)) = w72 at *
              obtain ⟨hp1, hp2⟩ := hp
              have XB2 := Lib.hid hp1
              have B72 := Lib.hid (show Below w7.heap.size w7 w72 from B71.out.grown hp2 B71.out.size (fun k hk => by injection hk with hk; have := GXB.out; omega))
              clear hp1 hp2 XB1 B71
              refine hK _ _ (fun W => Below w7.heap.size w7 W) (fun W h => h) B72.out ?_
              clear hK K
              refine seq_done ?_
              go_wp2_with fail
              go_loopw [10] (fun t W => ∃ (v c9 : Nat) (A9 : Option Addr), v ≤ xn ∧ t = .int .i64 (v : Int) ∧ Blk W xb 71 [.slice A9 v c9, .int .i64 (xco + zm)] ∧ AccI W (xb + 1) A9 c9 (rr.take v) ∧ Below w7.heap.size w7 W) (fun t W => xn - (intOf t).toNat)
              case atStart => exact ⟨0, 0, none, Nat.zero_le _, rfl, XB2.out, AccR.nil _ _ _, B72.out⟩
              case round =>
                clear XB2 B72
                obtain ⟨v, c9, A9, hv, rfl, hxk, hac, hbl⟩ := hrel
                have XK := Lib.hid hxk
                have ACC := Lib.hid hac
                have HBL := Lib.hid hbl
                clear hxk hac hbl
                have hlv : (rr.take v).length = v := by rw [List.length_take]; have := HNL.out; omega
                by_cases hvn : v < xn
                · obtain ⟨bb, oo, rfl, hbbw, hcl⟩ := row_int HRR7.out (by omega)
                  have hvl : v < rr.length := by have := HNL.out; omega
                  have hd := hcl v hvl
                  have hgy : rr[v]? = some rr[v] := List.getElem?_eq_getElem hvl
                  generalize rr[v] = y at hd hgy
                  have HTK := Lib.hid (show rr.take v ++ [y] = rr.take (v + 1) by rw [List.take_add_one, hgy]; rfl)
                  have T8 := Lib.hid (show ∀ W, Below w7.heap.size w7 W → W.cell? ⟨tb, 0, none⟩ = some (.slice (some ⟨bb, oo, none⟩) xn xc) ∧ W.cell? ⟨bb, oo + v, none⟩ = some (.int .i64 y) from fun W hW => ⟨(T7.out W hW).1, (hW.cell (p := ⟨bb, oo + v, none⟩) hbbw).trans hd⟩)
                  have i1 : (v : Int) < (xn : Int) := by omega
                  have HVN := Lib.hid hvn
                  have t0 := (T8.out wr HBL.out).1
                  clear hbbw hcl hvl hd hgy hvn hv
                  go_upto_region 15 with fail
                  clear t0
                  have XD := Lib.hid (XK.out.drew)
                  have AD := Lib.hid (show AccI wr.drew (xb + 1) A9 c9 (rr.take v) from AccR.drew ACC.out)
                  have BD := Lib.hid (HBL.out.drew)
                  refine region_way (fun W => Below w7.heap.size w7 W) (.step 0 true (.step 2 true (.step 3 true (.step 4 true (.step 5 true (.step 6 true (.both 1 7 (.step 7 false (.step 8 false (.step 9 true (.step 10 false .done)))) (.step 1 false (.step 8 false (.step 9 true (.step 10 false .done))))))))))) (by kernel_rfl) (by kernel_rfl) (by kernel_rfl) (by kernel_rfl) (fun _ _ _ _ _ h => h) BD.out ?_
                  repeat
                    refine way_pure (v := ?_) rfl (by rfl) (fun W hW => ?_) ?_
                    rotate_left
                    · obtain ⟨t0, t1⟩ := T8.out W hW
                      clear hW
                      go_simp
                      with_reducible rfl
                    simp only [Act.put, List.setIfInBounds_toArray, List.set_cons_zero, List.set_cons_succ]
                  generalize wr.drew = u0 at *
                  obtain ⟨A8, c8, w9, r9, a9, g9⟩ := acci_push AD.out y (show xb + 1 ≤ u0.heap.size from XD.out.lt) (by rw [hlv]; have := HX16.out; omega) 29
                  rw [hlv] at r9
                  have hbn := bel_new BD.out (.cells #[.int .i64 y] 3)
                  have R9 := Lib.hid r9
                  have A9' := Lib.hid a9
                  have XKn := Lib.hid (XD.out.alloc (.cells #[.int .i64 y] 3))
                  have HBn := Lib.hid hbn
                  have XK9 := Lib.hid (show Blk w9 xb 71 [.slice A9 v c9, .int .i64 (xco + zm)] from XD.out.same (g9.block _ XD.out.lt (fun e => by have := (AccR.ge AD.out e.symm).1; omega)))
                  have HB9 := Lib.hid (show Below w7.heap.size w7 w9 from BD.out.grown g9 BD.out.size (fun x hx => by have := (AccR.ge AD.out hx).1; have := GXB.out; omega))
                  clear r9 a9 g9 hbn
                  refine way_both rfl (by rfl) rfl (by rfl) (fun K hK => ?_) (fun K hK => ?_)
                  · have c6 : u0.cell? ⟨xb, 0, none⟩ = some (.slice A9 v c9) := XD.out.cell 0
                    go_simp
                    clear c6
                    refine hK _ _ (fun W => Below w7.heap.size w7 W) (fun W h => h) BD.out ?_
                    clear hK K
                    refine way_make rfl (by rfl) (fun K hK => ?_)
                    go_simp
                    refine hK _ _ (fun W => Below w7.heap.size w7 W) (fun W h => h) HBn.out ?_
                    clear hK K
                    refine way_make rfl (by rfl) (fun K hK => ?_)
                    refine op_append rfl rfl rfl R9.out ?_
                    simp only [Act.put, List.setIfInBounds_toArray, List.set_cons_zero, List.set_cons_succ]
                    refine hK _ w9 (fun W => Below w7.heap.size w7 W) (fun W h => h) HB9.out ?_
                    clear hK K

                    refine way_pure (v := ?_) rfl (by rfl) (fun W hW => ?_) ?_
                    rotate_left
                    · clear hW
                      go_simp
                      with_reducible rfl
                    simp only [Act.put, List.setIfInBounds_toArray, List.set_cons_zero, List.set_cons_succ]

                    refine way_make rfl (by rfl) (fun K hK => ?_)
                    have cc6 : w9.cell? ⟨xb, 0, none⟩ = some (.slice A9 v c9) := XK9.out.cell 0
                    have ff6 := XK9.out.free 0
                    go_simp
                    clear cc6 ff6
                    refine hK _ _ (fun W => Below w7.heap.size w7 W) (fun W h => h) (HB9.out.setCell (p := ⟨xb, 0, none⟩) GXB.out _) ?_
                    clear hK K
                    refine way_done ?_

                    have HFA := Lib.hid (accr_setBelow16 A9'.out (p := ⟨xb, 0, none⟩) (Nat.lt_succ_self _) (.slice A8 (v + 1) c8))
                    have hx16 := HX16.out
                    have hvn := HVN.out
                    go_wp2_with fail
                    go_roundw
                    case rel => exact ⟨v + 1, c8, A8, HVN.out, by first | rfl | (simp; omega), XK9.out.set 0 _, by rw [← HTK.out]; exact HFA.out, HB9.out.setCell (p := ⟨xb, 0, none⟩) GXB.out _⟩
                    case measure => have := HVN.out; simp [intOf]; omega
                  · go_simp
                    refine hK _ _ (fun W => Below w7.heap.size w7 W) (fun W h => h) HBn.out ?_
                    clear hK K
                    refine way_make rfl (by rfl) (fun K hK => ?_)
                    have c6 : (u0.alloc (.cells #[.int .i64 y] 3)).cell? ⟨xb, 0, none⟩ = some (.slice A9 v c9) := XKn.out.cell 0
                    go_simp
                    clear c6
                    refine hK _ _ (fun W => Below w7.heap.size w7 W) (fun W h => h) HBn.out ?_
                    clear hK K
                    refine way_make rfl (by rfl) (fun K hK => ?_)
                    refine op_append rfl rfl rfl R9.out ?_
                    simp only [Act.put, List.setIfInBounds_toArray, List.set_cons_zero, List.set_cons_succ]
                    refine hK _ w9 (fun W => Below w7.heap.size w7 W) (fun W h => h) HB9.out ?_
                    clear hK K

                    refine way_pure (v := ?_) rfl (by rfl) (fun W hW => ?_) ?_
                    rotate_left
                    · clear hW
                      go_simp
                      with_reducible rfl
                    simp only [Act.put, List.setIfInBounds_toArray, List.set_cons_zero, List.set_cons_succ]

                    refine way_make rfl (by rfl) (fun K hK => ?_)
                    have cc6 : w9.cell? ⟨xb, 0, none⟩ = some (.slice A9 v c9) := XK9.out.cell 0
                    have ff6 := XK9.out.free 0
                    go_simp
                    clear cc6 ff6
                    refine hK _ _ (fun W => Below w7.heap.size w7 W) (fun W h => h) (HB9.out.setCell (p := ⟨xb, 0, none⟩) GXB.out _) ?_
                    clear hK K
                    refine way_done ?_

                    have HFA := Lib.hid (accr_setBelow16 A9'.out (p := ⟨xb, 0, none⟩) (Nat.lt_succ_self _) (.slice A8 (v + 1) c8))
                    have hx16 := HX16.out
                    have hvn := HVN.out
                    go_wp2_with fail
                    go_roundw
                    case rel => exact ⟨v + 1, c8, A8, HVN.out, by first | rfl | (simp; omega), XK9.out.set 0 _, by rw [← HTK.out]; exact HFA.out, HB9.out.setCell (p := ⟨xb, 0, none⟩) GXB.out _⟩
                    case measure => have := HVN.out; simp [intOf]; omega
                · obtain rfl : v = xn := by omega
                  have i1 : ¬ (v : Int) < (v : Int) := by omega
                  have hfull : rr.take v = rr := List.take_of_length_le (by rw [← HNL.out]; exact Nat.le_refl _)
                  rw [hfull] at hlv
                  have ACC := Lib.hid (show AccI wr (xb + 1) A9 c9 rr from by have := ACC.out; rwa [hfull] at this)
                  have t0 := (T7.out wr HBL.out).1
                  clear hvn hv hfull
                  go_upto_region 16 with fail
                  clear t0
                  go_cut [] from 78 to 87 (fun W => ∃ (c8 : Nat) (A8 : Option Addr), Blk W xb 71 [.slice A8 (v + 1) c8, .int .i64 (xco + zm)] ∧ AccI W (xb + 1) A8 c8 (rr ++ [(tN : Int)]) ∧ Below w7.heap.size w7 W)
                  case first =>
                    have XD := Lib.hid (XK.out.drew)
                    have AD := Lib.hid (show AccI wr.drew (xb + 1) A9 c9 rr from AccR.drew ACC.out)
                    have BD := Lib.hid (HBL.out.drew)
                    refine region_way (fun W => Below w7.heap.size w7 W) (.step 0 true (.step 2 true (.step 3 true (.step 4 true (.step 5 true (.step 6 true (.both 1 7 (.step 7 false (.step 8 false (.step 9 true (.step 10 false .done)))) (.step 1 false (.step 8 false (.step 9 true (.step 10 false .done))))))))))) (by kernel_rfl) (by kernel_rfl) (by kernel_rfl) (by kernel_rfl) (fun _ _ _ _ _ h => h) BD.out ?_
                    repeat
                      refine way_pure (v := ?_) rfl (by rfl) (fun W hW => ?_) ?_
                      rotate_left
                      · obtain ⟨t0, t1, t2, t3⟩ := T7.out W hW
                        clear hW
                        go_simp
                        with_reducible rfl
                      simp only [Act.put, List.setIfInBounds_toArray, List.set_cons_zero, List.set_cons_succ]
                    generalize wr.drew = u0 at *
                    obtain ⟨A8, c8, w9, r9, a9, g9⟩ := acci_push AD.out (tN : Int) (show xb + 1 ≤ u0.heap.size from XD.out.lt) (by rw [hlv]; have := HX16.out; omega) 29
                    rw [hlv] at r9
                    have hbn := bel_new BD.out (.cells #[.int .i64 (tN : Int)] 3)
                    have R9 := Lib.hid r9
                    have A9' := Lib.hid a9
                    have XKn := Lib.hid (XD.out.alloc (.cells #[.int .i64 (tN : Int)] 3))
                    have HBn := Lib.hid hbn
                    have XK9 := Lib.hid (show Blk w9 xb 71 [.slice A9 v c9, .int .i64 (xco + zm)] from XD.out.same (g9.block _ XD.out.lt (fun e => by have := (AccR.ge AD.out e.symm).1; omega)))
                    have HB9 := Lib.hid (show Below w7.heap.size w7 w9 from BD.out.grown g9 BD.out.size (fun x hx => by have := (AccR.ge AD.out hx).1; have := GXB.out; omega))
                    clear r9 a9 g9 hbn
                    refine way_both rfl (by rfl) rfl (by rfl) (fun K hK => ?_) (fun K hK => ?_)
                    · have c6 : u0.cell? ⟨xb, 0, none⟩ = some (.slice A9 v c9) := XD.out.cell 0
                      go_simp
                      clear c6
                      refine hK _ _ (fun W => Below w7.heap.size w7 W) (fun W h => h) BD.out ?_
                      clear hK K
                      refine way_make rfl (by rfl) (fun K hK => ?_)
                      go_simp
                      refine hK _ _ (fun W => Below w7.heap.size w7 W) (fun W h => h) HBn.out ?_
                      clear hK K
                      refine way_make rfl (by rfl) (fun K hK => ?_)
                      refine op_append rfl rfl rfl R9.out ?_
                      simp only [Act.put, List.setIfInBounds_toArray, List.set_cons_zero, List.set_cons_succ]
                      refine hK _ w9 (fun W => Below w7.heap.size w7 W) (fun W h => h) HB9.out ?_
                      clear hK K

                      refine way_pure (v := ?_) rfl (by rfl) (fun W hW => ?_) ?_
                      rotate_left
                      · clear hW
                        go_simp
                        with_reducible rfl
                      simp only [Act.put, List.setIfInBounds_toArray, List.set_cons_zero, List.set_cons_succ]

                      refine way_make rfl (by rfl) (fun K hK => ?_)
                      have cc6 : w9.cell? ⟨xb, 0, none⟩ = some (.slice A9 v c9) := XK9.out.cell 0
                      have ff6 := XK9.out.free 0
                      go_simp
                      clear cc6 ff6
                      refine hK _ _ (fun W => Below w7.heap.size w7 W) (fun W h => h) (HB9.out.setCell (p := ⟨xb, 0, none⟩) GXB.out _) ?_
                      clear hK K
                      refine way_done ?_

                      have HFA := Lib.hid (accr_setBelow16 A9'.out (p := ⟨xb, 0, none⟩) (Nat.lt_succ_self _) (.slice A8 (v + 1) c8))
                      go_wp2_with fail
                      go_meet
                      exact ⟨c8, A8, XK9.out.set 0 _, HFA.out, HB9.out.setCell (p := ⟨xb, 0, none⟩) GXB.out _⟩
                    · go_simp
                      refine hK _ _ (fun W => Below w7.heap.size w7 W) (fun W h => h) HBn.out ?_
                      clear hK K
                      refine way_make rfl (by rfl) (fun K hK => ?_)
                      have c6 : (u0.alloc (.cells #[.int .i64 (tN : Int)] 3)).cell? ⟨xb, 0, none⟩ = some (.slice A9 v c9) := XKn.out.cell 0
                      go_simp
                      clear c6
                      refine hK _ _ (fun W => Below w7.heap.size w7 W) (fun W h => h) HBn.out ?_
                      clear hK K
                      refine way_make rfl (by rfl) (fun K hK => ?_)
                      refine op_append rfl rfl rfl R9.out ?_
                      simp only [Act.put, List.setIfInBounds_toArray, List.set_cons_zero, List.set_cons_succ]
                      refine hK _ w9 (fun W => Below w7.heap.size w7 W) (fun W h => h) HB9.out ?_
                      clear hK K

                      refine way_pure (v := ?_) rfl (by rfl) (fun W hW => ?_) ?_
                      rotate_left
                      · clear hW
                        go_simp
                        with_reducible rfl
                      simp only [Act.put, List.setIfInBounds_toArray, List.set_cons_zero, List.set_cons_succ]

                      refine way_make rfl (by rfl) (fun K hK => ?_)
                      have cc6 : w9.cell? ⟨xb, 0, none⟩ = some (.slice A9 v c9) := XK9.out.cell 0
                      have ff6 := XK9.out.free 0
                      go_simp
                      clear cc6 ff6
                      refine hK _ _ (fun W => Below w7.heap.size w7 W) (fun W h => h) (HB9.out.setCell (p := ⟨xb, 0, none⟩) GXB.out _) ?_
                      clear hK K
                      refine way_done ?_

                      have HFA := Lib.hid (accr_setBelow16 A9'.out (p := ⟨xb, 0, none⟩) (Nat.lt_succ_self _) (.slice A8 (v + 1) c8))
                      go_wp2_with fail
                      go_meet
                      exact ⟨c8, A8, XK9.out.set 0 _, HFA.out, HB9.out.setCell (p := ⟨xb, 0, none⟩) GXB.out _⟩
                  case rest =>
                    obtain ⟨c8, A8, hp13, hacc, hb8⟩ := hcut
                    obtain ⟨ya, yn, yc, yco⟩ := yt
                    have hw8 := HW7.out.below hb8
                    have k0 : wc.cell? ⟨g, tN * 2, none⟩ = some (.slice ya yn yc) := hw8.range hyt 0 _ rfl
                    have k1 : wc.cell? ⟨g, tN * 2 + 1, none⟩ = some (.int .i64 yco) := hw8.range hyt 1 _ rfl
                    have l1 := (LC.out wc hw8.bel).2.1
                    go_upto_region 18 with fail
                    have hbn : Below wc.heap.size wc (wc.alloc (.cells #[.slice ya yn yc, .int .i64 yco] 71)) := bel_new (Below.refl _ _) _
                    have hp14 : Blk (wc.alloc (.cells #[.slice ya yn yc, .int .i64 yco] 71)) wc.heap.size 71 [.slice ya yn yc, .int .i64 yco] := Blk.new wc _ _
                    have W8 := Lib.hid (hw8.below hbn)
                    have P13 := Lib.hid (hp13.below hbn)
                    have ACC := Lib.hid (show AccI (wc.alloc (.cells #[.slice ya yn yc, .int .i64 yco] 71)) (xb + 1) A8 c8 (rr ++ [(tN : Int)]) from AccR.bel hacc hbn)
                    clear k0 k1 l1 hw8 hp13 hacc hb8 hbn
                    generalize wc.alloc (.cells #[.slice ya yn yc, .int .i64 yco] 71) = we at *
                    generalize wc.heap.size = yb at *
                    have hrow := AccR.row ACC.out
                    rw [show (rr ++ [(tN : Int)]).length = v + 1 by simp [HNL.out]] at hrow
                    have x0 : we.cell? ⟨xb, 0, none⟩ = some (.slice A8 (v + 1) c8) := P13.out.cell 0
                    have x1 : we.cell? ⟨xb, 1, none⟩ = some (.int .i64 (xco + zm)) := P13.out.cell 1
                    have y0 : we.cell? ⟨yb, 0, none⟩ = some (.slice ya yn yc) := hp14.cell 0
                    have y1 : we.cell? ⟨yb, 1, none⟩ = some (.int .i64 yco) := hp14.cell 1
                    have hx16 := HX16.out
                    clear hp14
                    have hokt := HOKT.out
                    cases hpt : sat O (tN : Int) with
                    | none =>
                      rw [hpt] at hokt
                      obtain ⟨e1, e2⟩ := hokt
                      simp only at e1 e2
                      subst e1
                      subst e2
                      have HPT := Lib.hid hpt
                      clear hpt hrow
                      go_upto_region 19 with fail
                      clear x0 x1 y0 y1
                      have HT := Lib.hid (show rlg S O ⟨(fN : Int), (tN : Int), zc, zm, zg⟩ = O.set tN (some (xco + zm, rr ++ [(tN : Int)])) from rlg_set HP.out HIN.out (fun q hq => by rw [show sat O (⟨(fN : Int), (tN : Int), zc, zm, zg⟩ : Lk).t = none from HPT.out] at hq; cases hq))
                      have hwy := W8.out
                      have hglt := hwy.lt
                      have hgb : xb ≠ g := by have := GXB.out; have := HW7.out.lt.2; omega
                      have r0 : we.cell? ⟨xb, 0, none⟩ = some (.slice A8 (v + 1) c8) := P13.out.cell 0
                      have r1 : we.cell? ⟨xb, 1, none⟩ = some (.int .i64 (xco + zm)) := P13.out.cell 1
                      have r2 : we.cell? ⟨b, o + u * 5 + 1, none⟩ = some (.int .i64 (tN : Int)) := (LC.out we hwy.bel).2.1
                      have k0 : we.cell? ⟨g, tN * 2, none⟩ = some (.slice ya 0 yc) := hwy.range hyt 0 _ rfl
                      have k1 : we.cell? ⟨g, tN * 2 + 1, none⟩ = some (.int .i64 (-1)) := hwy.range hyt 1 _ rfl
                      have f0 := hwy.free (tN * 2)
                      have f1 := hwy.free (tN * 2 + 1)
                      have hok : WayOk we 0 g ⟨A8, v + 1, c8, xco + zm⟩ (some (xco + zm, rr ++ [(tN : Int)])) := by
                        refine ⟨rfl, by have := HM5.out; have := HCO.out; omega, by simp [HNL.out], ?_, fun b' o' e => ?_⟩
                        · have := AccR.row ACC.out
                          rw [show (rr ++ [(tN : Int)]).length = v + 1 by simp [HNL.out]] at this
                          exact this
                        · have h1 := (AccR.ge ACC.out (x := b') (by have e' : A8 = some ⟨b', o', none⟩ := e; rw [e']; rfl)).1
                          have h2 := HW7.out.lt.2
                          have h3 := HW7.out.bel.size
                          have h4 := GXB.out; exact ⟨by omega, Nat.zero_le _⟩
                      have hst := hwy.store (i := tN) ⟨A8, v + 1, c8, xco + zm⟩ (some (xco + zm, rr ++ [(tN : Int)])) hok
                      have hst' : Wyg w ((we.setCell ⟨g, tN * 2, none⟩ (.slice A8 (v + 1) c8)).setCell ⟨g, tN * 2 + 1, none⟩ (.int .i64 (xco + zm))) g c1 (O.set tN (some (xco + zm, rr ++ [(tN : Int)]))) (xs.set tN ⟨A8, v + 1, c8, xco + zm⟩) := hst
                      have HST := Lib.hid hst'
                      have SS := Lib.hid (show (we.cell? ⟨xb, 0, none⟩ = some (.slice A8 (v + 1) c8) ∧ we.cell? ⟨xb, 1, none⟩ = some (.int .i64 (xco + zm)) ∧ we.cell? ⟨b, o + u * 5 + 1, none⟩ = some (.int .i64 (tN : Int))) ∧ (((we.setCell ⟨g, tN * 2, none⟩ (.slice A8 (v + 1) c8)).setCell ⟨g, tN * 2 + 1, none⟩ (.int .i64 (xco + zm))).cell? ⟨xb, 0, none⟩ = some (.slice A8 (v + 1) c8) ∧ ((we.setCell ⟨g, tN * 2, none⟩ (.slice A8 (v + 1) c8)).setCell ⟨g, tN * 2 + 1, none⟩ (.int .i64 (xco + zm))).cell? ⟨xb, 1, none⟩ = some (.int .i64 (xco + zm)) ∧ ((we.setCell ⟨g, tN * 2, none⟩ (.slice A8 (v + 1) c8)).setCell ⟨g, tN * 2 + 1, none⟩ (.int .i64 (xco + zm))).cell? ⟨b, o + u * 5 + 1, none⟩ = some (.int .i64 (tN : Int))) from by
                        have hxb := (P13.out.other (p := ⟨g, tN * 2, none⟩) (Ne.symm hgb) (.slice A8 (v + 1) c8)).other (p := ⟨g, tN * 2 + 1, none⟩) (Ne.symm hgb) (.int .i64 (xco + zm))
                        exact ⟨⟨r0, r1, r2⟩, hxb.cell 0, hxb.cell 1, (LC.out _ hst'.bel).2.1⟩)
                      clear hwy hglt r0 r1 r2 hok hst hst'
                      go_wp2_with fail
                      refine region_seq (fun W => W.cell? ⟨xb, 0, none⟩ = some (.slice A8 (v + 1) c8) ∧ W.cell? ⟨xb, 1, none⟩ = some (.int .i64 (xco + zm)) ∧ W.cell? ⟨b, o + u * 5 + 1, none⟩ = some (.int .i64 (tN : Int))) [(0, true), (1, true), (2, true), (3, true), (4, true), (5, true), (6, true), (7, true), (8, false)]
                        (by kernel_rfl) (by kernel_rfl) (by kernel_rfl) (by kernel_rfl) (fun _ _ _ _ _ h => h) SS.out.1 ?_
                      repeat
                        refine seq_pure (v := ?_) rfl (by rfl) (fun W hW => ?_) ?_
                        rotate_left
                        · obtain ⟨r0, r1, r2⟩ := hW
                          go_simp
                          with_reducible rfl
                        simp only [Act.put, List.setIfInBounds_toArray, List.set_cons_zero, List.set_cons_succ]
                      refine seq_make rfl (by rfl) (fun K hK => ?_)
                      go_simp
                      refine hK _ _ (fun W => W.cell? ⟨xb, 0, none⟩ = some (.slice A8 (v + 1) c8) ∧ W.cell? ⟨xb, 1, none⟩ = some (.int .i64 (xco + zm)) ∧ W.cell? ⟨b, o + u * 5 + 1, none⟩ = some (.int .i64 (tN : Int))) (fun W h => h) SS.out.2 ?_
                      clear hK K f0 f1 k0 k1
                      refine seq_done ?_
                      have HST2 := Lib.hid (HST.out.below (Below.refl _ _).drew)
                      go_wp2_with fail
                      go_roundw
                      case rel => exact ⟨u + 1, _, by omega, rfl, by rw [HNX.out, HT.out]; exact HST2.out⟩
                      case measure => simp [intOf]; omega
                    | some q2 =>
                      obtain ⟨c2, r2⟩ := q2
                      rw [hpt] at hokt
                      obtain ⟨e1, e2, e3, e4, e5⟩ := hokt
                      simp only at e1 e2 e3 e4 e5
                      subst e1
                      have hok8 := W8.out.ok tN ⟨ya, yn, yc, yco⟩ _ hyt (sat_get (by omega))
                      rw [hpt] at hok8
                      have hrow2 := hok8.2.2.2.1
                      have hway2 := (HNT.out.way (tN : Int) yco r2 (by omega) (by omega) hpt).1
                      have hsh2 := hway2.short HNET.out HAI.out
                      have hbc := rbetter_calls (xco + zm) yco A8 ya (v + 1) yn c8 yc we.heap.size we.heap.size (rr ++ [(tN : Int)]) r2 we hrow hrow2 (by omega) (by omega)
                      unfold BetPost at hbc
                      have HPT := Lib.hid hpt
                      have hyc : ¬ yco < 0 := by omega
                      clear hpt hrow hrow2 hway2 hsh2 hok8 e2 e3 e4 e5
                      go_wp2_with fail
                      ((with_reducible refine hbc.mono ?_))
                      rintro e w9 ⟨rfl, kd, hkd⟩
                      have hb9 : Below we.heap.size we w9 := by rw [hkd]; exact bel_drewN (Below.refl _ _) kd
                      have W8 := Lib.hid (W8.out.below hb9)
                      have P13 := Lib.hid (P13.out.below hb9)
                      have ACC := Lib.hid (show AccI w9 (xb + 1) A8 c8 (rr ++ [(tN : Int)]) from AccR.bel ACC.out hb9)
                      clear hkd hb9 hbc x0 x1 y0 y1
                      by_cases hbt : bet (xco + zm, rr ++ [(tN : Int)]) (yco, r2)
                      · have hd : decide (bet (xco + zm, rr ++ [(tN : Int)]) (yco, r2)) = true := by simpa using hbt
                        rw [hd]
                        have HBT := Lib.hid hbt
                        clear hbt hd
                        go_upto_region 19 with fail
                        have HT := Lib.hid (show rlg S O ⟨(fN : Int), (tN : Int), zc, zm, zg⟩ = O.set tN (some (xco + zm, rr ++ [(tN : Int)])) from rlg_set HP.out HIN.out (fun q hq => by rw [show sat O (⟨(fN : Int), (tN : Int), zc, zm, zg⟩ : Lk).t = some (yco, r2) from HPT.out] at hq; injection hq with hq; subst hq; exact HBT.out))
                        have hwy := W8.out
                        have hglt := hwy.lt
                        have hgb : xb ≠ g := by have := GXB.out; have := HW7.out.lt.2; omega
                        have r0 : w9.cell? ⟨xb, 0, none⟩ = some (.slice A8 (v + 1) c8) := P13.out.cell 0
                        have r1 : w9.cell? ⟨xb, 1, none⟩ = some (.int .i64 (xco + zm)) := P13.out.cell 1
                        have rt2 : w9.cell? ⟨b, o + u * 5 + 1, none⟩ = some (.int .i64 (tN : Int)) := (LC.out w9 hwy.bel).2.1
                        have k0 : w9.cell? ⟨g, tN * 2, none⟩ = some (.slice ya yn yc) := hwy.range hyt 0 _ rfl
                        have k1 : w9.cell? ⟨g, tN * 2 + 1, none⟩ = some (.int .i64 yco) := hwy.range hyt 1 _ rfl
                        have f0 := hwy.free (tN * 2)
                        have f1 := hwy.free (tN * 2 + 1)
                        have hok : WayOk w9 0 g ⟨A8, v + 1, c8, xco + zm⟩ (some (xco + zm, rr ++ [(tN : Int)])) := by
                          refine ⟨rfl, by have := HM5.out; have := HCO.out; omega, by simp [HNL.out], ?_, fun b' o' e => ?_⟩
                          · have := AccR.row ACC.out
                            rw [show (rr ++ [(tN : Int)]).length = v + 1 by simp [HNL.out]] at this
                            exact this
                          · have h1 := (AccR.ge ACC.out (x := b') (by have e' : A8 = some ⟨b', o', none⟩ := e; rw [e']; rfl)).1
                            have h2 := HW7.out.lt.2
                            have h3 := HW7.out.bel.size
                            have h4 := GXB.out; exact ⟨by omega, Nat.zero_le _⟩
                        have hst := hwy.store (i := tN) ⟨A8, v + 1, c8, xco + zm⟩ (some (xco + zm, rr ++ [(tN : Int)])) hok
                        have hst' : Wyg w ((w9.setCell ⟨g, tN * 2, none⟩ (.slice A8 (v + 1) c8)).setCell ⟨g, tN * 2 + 1, none⟩ (.int .i64 (xco + zm))) g c1 (O.set tN (some (xco + zm, rr ++ [(tN : Int)]))) (xs.set tN ⟨A8, v + 1, c8, xco + zm⟩) := hst
                        have HST := Lib.hid hst'
                        have SS := Lib.hid (show (w9.cell? ⟨xb, 0, none⟩ = some (.slice A8 (v + 1) c8) ∧ w9.cell? ⟨xb, 1, none⟩ = some (.int .i64 (xco + zm)) ∧ w9.cell? ⟨b, o + u * 5 + 1, none⟩ = some (.int .i64 (tN : Int))) ∧ (((w9.setCell ⟨g, tN * 2, none⟩ (.slice A8 (v + 1) c8)).setCell ⟨g, tN * 2 + 1, none⟩ (.int .i64 (xco + zm))).cell? ⟨xb, 0, none⟩ = some (.slice A8 (v + 1) c8) ∧ ((w9.setCell ⟨g, tN * 2, none⟩ (.slice A8 (v + 1) c8)).setCell ⟨g, tN * 2 + 1, none⟩ (.int .i64 (xco + zm))).cell? ⟨xb, 1, none⟩ = some (.int .i64 (xco + zm)) ∧ ((w9.setCell ⟨g, tN * 2, none⟩ (.slice A8 (v + 1) c8)).setCell ⟨g, tN * 2 + 1, none⟩ (.int .i64 (xco + zm))).cell? ⟨b, o + u * 5 + 1, none⟩ = some (.int .i64 (tN : Int))) from by
                          have hxb := (P13.out.other (p := ⟨g, tN * 2, none⟩) (Ne.symm hgb) (.slice A8 (v + 1) c8)).other (p := ⟨g, tN * 2 + 1, none⟩) (Ne.symm hgb) (.int .i64 (xco + zm))
                          exact ⟨⟨r0, r1, rt2⟩, hxb.cell 0, hxb.cell 1, (LC.out _ hst'.bel).2.1⟩)
                        clear hwy hglt r0 r1 rt2 hok hst hst'
                        go_wp2_with fail
                        refine region_seq (fun W => W.cell? ⟨xb, 0, none⟩ = some (.slice A8 (v + 1) c8) ∧ W.cell? ⟨xb, 1, none⟩ = some (.int .i64 (xco + zm)) ∧ W.cell? ⟨b, o + u * 5 + 1, none⟩ = some (.int .i64 (tN : Int))) [(0, true), (1, true), (2, true), (3, true), (4, true), (5, true), (6, true), (7, true), (8, false)]
                          (by kernel_rfl) (by kernel_rfl) (by kernel_rfl) (by kernel_rfl) (fun _ _ _ _ _ h => h) SS.out.1 ?_
                        repeat
                          refine seq_pure (v := ?_) rfl (by rfl) (fun W hW => ?_) ?_
                          rotate_left
                          · obtain ⟨r0, r1, r2⟩ := hW
                            go_simp
                            with_reducible rfl
                          simp only [Act.put, List.setIfInBounds_toArray, List.set_cons_zero, List.set_cons_succ]
                        refine seq_make rfl (by rfl) (fun K hK => ?_)
                        go_simp
                        refine hK _ _ (fun W => W.cell? ⟨xb, 0, none⟩ = some (.slice A8 (v + 1) c8) ∧ W.cell? ⟨xb, 1, none⟩ = some (.int .i64 (xco + zm)) ∧ W.cell? ⟨b, o + u * 5 + 1, none⟩ = some (.int .i64 (tN : Int))) (fun W h => h) SS.out.2 ?_
                        clear hK K f0 f1 k0 k1
                        refine seq_done ?_
                        have HST2 := Lib.hid (HST.out.below (Below.refl _ _).drew)
                        go_wp2_with fail
                        go_roundw
                        case rel => exact ⟨u + 1, _, by omega, rfl, by rw [HNX.out, HT.out]; exact HST2.out⟩
                        case measure => simp [intOf]; omega
                      · have hd : decide (bet (xco + zm, rr ++ [(tN : Int)]) (yco, r2)) = false := by simpa using hbt
                        rw [hd]
                        have HBT := Lib.hid hbt
                        clear hbt hd
                        go_wp2_with fail
                        go_roundw
                        case rel => exact ⟨u + 1, xs, by omega, rfl, by rw [HNX.out, rlg_not HP.out HIN.out HPT.out HBT.out]; exact W8.out⟩
                        case measure => simp [intOf]; omega
        · obtain rfl : u = m := by omega
          have u1 : ¬ (u : Int) < (u : Int) := by omega
          have hall : (L.take u).foldl (rlg S) S = grw L S := by
            rw [List.take_of_length_le (by rw [HLM.out]; exact Nat.le_refl _)]; rfl
          have hw := HW.out
          rw [hall] at hw
          have HW' := Lib.hid hw
          clear hw hall HW
          go_wp2_with fail
          go_ret
          exact ⟨HW'.out.bel, g, c1, xs, rfl, HW'.out⟩
end Go.Proofs.Ytjflbfianncpfaa
