/-
  Contracts of package lfib: Bind, Free, Map, Unmap. Conditions: the table is one that New made; a number that comes in is one of 64 bits.
-/
import Derived.Test.YtkbbnfinmipenaaLfibA
namespace Go.Proofs.Ytkbbnfinmipenaa
open Go.RowKit Go.Maps

def actE (ok : Bool) (most : Int) (l : List (Int × Int × Int)) (k : Int) : Int := if ok = true then setE most l k else 2
def actL (ok : Bool) (most : Int) (l : List (Int × Int × Int)) (x : Int × Int × Int) : List (Int × Int × Int) := if ok = true then setL most l x else l

theorem setL_len {most : Int} {l : List (Int × Int × Int)} (x : Int × Int × Int) (h : (l.length : Int) ≤ most) : ((setL most l x).length : Int) ≤ most := by
  unfold setL
  split
  · exact h
  · rename_i hn
    rw [len_insR]
    cases hf : fnd l x.1 with
    | none =>
      have h1 := len_remR_le l x.1
      have h2 : ¬ most ≤ (l.length : Int) := fun h => hn ⟨hf, h⟩
      omega
    | some p =>
      have h1 := len_remR_lt (fnd_key hf)
      omega
theorem setL_all {most : Int} {l : List (Int × Int × Int)} {x : Int × Int × Int} {P : Int × Int × Int → Prop} (h : ∀ r ∈ l, P r) (hx : P x) : ∀ r ∈ setL most l x, P r := by
  intro r hr
  unfold setL at hr
  split at hr
  · exact h r hr
  · rcases mem_insR.1 hr with rfl | h1
    · exact hx
    · exact h r h1.1
theorem remR_all {l : List (Int × Int × Int)} {k : Int} {P : Int × Int × Int → Prop} (h : ∀ r ∈ l, P r) : ∀ r ∈ remR l k, P r := fun r hr => h r (mem_remR.1 hr).1

section
variable {w w' : World} {tb lb ub : Nat} {most : Int} {l u : List (Int × Int × Int)}

theorem Tbl.putL (h : Tbl w tb lb ub most l u) (ht : Turn [lb] w w') {l' : List (Int × Int × Int)} (ho : Outs w' lb l') (hl : (l'.length : Int) ≤ most) (hr : ∀ r ∈ l', (16 ≤ r.1 ∧ r.1 ≤ 1048575) ∧ okOut r.2) : Tbl w' tb lb ub most l' u := by
  have hne := h.ne
  have hlt := h.lt
  obtain ⟨h1, h2, h3, h4, h5, h6, h7⟩ := h
  exact ⟨(ht.block _ hlt.1 (by simpa using hne.1)).trans h1, ho, h3.same (ht.block _ hlt.2.2 (by simpa using Ne.symm h4)), h4, ⟨h5.1, h5.2.1, hl, h5.2.2.2⟩, hr, h7⟩
theorem Tbl.putU (h : Tbl w tb lb ub most l u) (ht : Turn [ub] w w') {u' : List (Int × Int × Int)} (ho : Outs w' ub u') (hl : (u'.length : Int) ≤ most) (hr : ∀ r ∈ u', (1 ≤ r.1 ∧ r.1 ≤ 65535) ∧ okOut r.2) : Tbl w' tb lb ub most l u' := by
  have hne := h.ne
  have hlt := h.lt
  obtain ⟨h1, h2, h3, h4, h5, h6, h7⟩ := h
  exact ⟨(ht.block _ hlt.1 (by simpa using hne.2)).trans h1, h2.same (ht.block _ hlt.2.1 (by simpa using h4)), ho, h4, ⟨h5.1, h5.2.1, h5.2.2.1, hl⟩, h6, hr⟩

def BindPost (w : World) (tb lb ub : Nat) (most : Int) (l u : List (Int × Int × Int)) (k a b : Int) (e : Ending) (w' : World) : Prop :=
  e = .returned (.int .i64 (actE (wn k 16 1048575 && okO a b) most l k)) ∧ Tbl w' tb lb ub most (actL (wn k 16 1048575 && okO a b) most l (k, a, b)) u ∧ Turn [lb] w w'
def MapPost (w : World) (tb lb ub : Nat) (most : Int) (l u : List (Int × Int × Int)) (k a b : Int) (e : Ending) (w' : World) : Prop :=
  e = .returned (.int .i64 (actE (wn k 1 65535 && okO a b) most u k)) ∧ Tbl w' tb lb ub most l (actL (wn k 1 65535 && okO a b) most u (k, a, b)) ∧ Turn [ub] w w'

theorem bind_bad {e : Ending} {k a b : Int} (h : Tbl w' tb lb ub most l u) (ho : (wn k 16 1048575 && okO a b) = false) (he : e = .returned (.int .i64 2)) (ht : Turn [lb] w w') : BindPost w tb lb ub most l u k a b e w' := by
  unfold BindPost actE actL
  rw [ho]
  exact ⟨he, h, ht⟩
theorem map_bad {e : Ending} {k a b : Int} (h : Tbl w' tb lb ub most l u) (ho : (wn k 1 65535 && okO a b) = false) (he : e = .returned (.int .i64 2)) (ht : Turn [ub] w w') : MapPost w tb lb ub most l u k a b e w' := by
  unfold MapPost actE actL
  rw [ho]
  exact ⟨he, h, ht⟩

set_option maxRecDepth 100000 in
set_option maxHeartbeats 800000 in
theorem bind_calls (h : Tbl w tb lb ub most l u) (k a b : Int) (hk : (Lit.int .i64 k).wf = true) : Calls Try.prog 10 #[.pointer (some ⟨tb, 0, none⟩), .int .i64 k, .agg #[.int .i64 a, .int .i64 b]] w (BindPost w tb lb ub most l u k a b) := by
  have K0 := Lib.hid (bel_new (Below.refl w.heap.size w) (.cells #[.int .i64 a, .int .i64 b] 30))
  have H1 := Lib.hid (h.below K0.out)
  have HK := Lib.hid hk
  have Q0 := Lib.hid (heap_alloc_new w (.cells #[.int .i64 a, .int .i64 b] 30))
  have HL := Lib.hid h.lt
  have HNE := Lib.hid h.ne
  clear h hk
  go_enter Try.func10, Try.ntmps10
  go_wp2_with fail
  generalize w.alloc (.cells #[.int .i64 a, .int .i64 b] 30) = w1 at *
  have d0 : w1.cell? ⟨w.heap.size, 0, none⟩ = some (.int .i64 a) := cell_of_row _ _ _ _ _ _ Q0.out
  have d1 : w1.cell? ⟨w.heap.size, 1, none⟩ = some (.int .i64 b) := cell_of_row _ _ _ _ _ _ Q0.out
  ((with_reducible refine (lmade_calls H1.out).mono ?_))
  rintro e w' ⟨rfl, rfl⟩
  go_wp2_with fail
  ((with_reducible refine (bindable_calls k _).mono ?_))
  rintro e w' ⟨rfl, rfl⟩
  cases hx : wn k 16 1048575
  · go_wp2
    go_ret
    exact bind_bad H1.out (by rw [hx]; rfl) rfl (Turn.of_below K0.out)
  · go_wp2_with fail
    ((with_reducible refine (valid_calls a b _).mono ?_))
    rintro e w' ⟨rfl, rfl⟩
    have K1 := Lib.hid (bel_new (Below.refl w1.heap.size w1) (.cells #[.int .i64 a, .int .i64 b] 30))
    have H2 := Lib.hid (H1.out.below K1.out)
    have hlt : w.heap.size < w1.heap.size := (Array.getElem?_eq_some_iff.1 Q0.out).1
    have Q1 := Lib.hid ((K1.out.block _ hlt).trans Q0.out)
    have K2 := Lib.hid (bel_new K0.out (.cells #[.int .i64 a, .int .i64 b] 30))
    clear d0 d1 K0 K1 H1 Q0 hlt
    generalize w1.alloc (.cells #[.int .i64 a, .int .i64 b] 30) = w2 at *
    cases hy : okO a b
    · go_wp2
      go_ret
      exact bind_bad H2.out (by rw [hx, hy]; rfl) rfl (Turn.of_below K2.out)
    · go_wp2_with fail
      have CC := Lib.hid (show w2.cell? ⟨tb, 0, none⟩ = some (.int .i64 most) ∧ w2.cell? ⟨tb, 1, none⟩ = some (.map (some lb)) ∧ w2.cell? ⟨w.heap.size, 0, none⟩ = some (.int .i64 a) ∧ w2.cell? ⟨w.heap.size, 1, none⟩ = some (.int .i64 b) from ⟨H2.out.c0, H2.out.c1, cell_of_row _ _ _ _ _ _ Q1.out, cell_of_row _ _ _ _ _ _ Q1.out⟩)
      refine region_seq (fun W => W.cell? ⟨tb, 0, none⟩ = some (.int .i64 most) ∧ W.cell? ⟨tb, 1, none⟩ = some (.map (some lb)) ∧ W.cell? ⟨w.heap.size, 0, none⟩ = some (.int .i64 a) ∧ W.cell? ⟨w.heap.size, 1, none⟩ = some (.int .i64 b))
        [(0, true), (1, true), (2, true), (3, true), (4, true), (5, true), (6, false), (7, true)]
        (by kernel_rfl) (by kernel_rfl) (by kernel_rfl) (by kernel_rfl) (fun _ _ _ _ _ h => h) CC.out ?_
      repeat
        refine seq_pure (v := ?_) rfl (by rfl) (fun W hW => ?_) ?_
        rotate_left
        · obtain ⟨d0, d1, d2, d3⟩ := hW
          go_simp
          try with_reducible rfl
        simp only [Act.put, List.setIfInBounds_toArray, List.set_cons_zero, List.set_cons_succ]
      have hln : l.length ≤ 64 := by have := H2.out.2.2.2.2.1; omega
      refine seq_make rfl (by rfl) (fun K hK => ?_)
      go_simp
      have OL := Lib.hid (show Outs w2.drew lb l from H2.out.2.1)
      ((with_reducible refine (set_calls (most := most) OL.out k a b HK.out hln).mono ?_))
      rintro e w3 ⟨rfl, o3, t3⟩
      have O3 := Lib.hid o3
      have T3 := Lib.hid (show Turn [lb] w2 w3 from ⟨t3.os, t3.tape, t3.output, t3.size, t3.block⟩)
      clear o3 t3
      go_simp
      have hbt : w3.heap[tb]? = w2.heap[tb]? := T3.out.block _ H2.out.lt.1 (by simpa using HNE.out.1)
      have hbw : w3.heap[w.heap.size]? = w2.heap[w.heap.size]? := T3.out.block _ (Array.getElem?_eq_some_iff.1 Q1.out).1 (by have := HL.out.2.1; simp; omega)
      refine hK _ w3 (fun W => W.cell? ⟨tb, 0, none⟩ = some (.int .i64 most) ∧ W.cell? ⟨tb, 1, none⟩ = some (.map (some lb)) ∧ W.cell? ⟨w.heap.size, 0, none⟩ = some (.int .i64 a) ∧ W.cell? ⟨w.heap.size, 1, none⟩ = some (.int .i64 b)) (fun W h => h)
        ⟨(World.cell?_of_block (w := w2) hbt).trans CC.out.1, (World.cell?_of_block (w := w2) hbt).trans CC.out.2.1, (World.cell?_of_block (w := w2) hbw).trans CC.out.2.2.1, (World.cell?_of_block (w := w2) hbw).trans CC.out.2.2.2⟩ ?_
      clear hK K hbt hbw
      repeat
        refine seq_pure (v := ?_) rfl (by rfl) (fun W hW => ?_) ?_
        rotate_left
        · clear hW
          go_simp
          try with_reducible rfl
        simp only [Act.put, List.setIfInBounds_toArray, List.set_cons_zero, List.set_cons_succ]
      refine seq_done ?_
      go_wp2
      go_ret
      have hok : (wn k 16 1048575 && okO a b) = true := by rw [hx, hy]; rfl
      unfold BindPost actE actL
      rw [hok, if_pos rfl, if_pos rfl]
      exact ⟨rfl, H2.out.putL T3.out O3.out (setL_len _ H2.out.2.2.2.2.1.2.2.1) (setL_all H2.out.2.2.2.2.2.1 ⟨wn_yes hx, okO_yes hy⟩), (Turn.of_below K2.out).trans T3.out⟩

set_option maxRecDepth 100000 in
set_option maxHeartbeats 800000 in
theorem map_calls (h : Tbl w tb lb ub most l u) (k a b : Int) (hk : (Lit.int .i64 k).wf = true) : Calls Try.prog 14 #[.pointer (some ⟨tb, 0, none⟩), .int .i64 k, .agg #[.int .i64 a, .int .i64 b]] w (MapPost w tb lb ub most l u k a b) := by
  have K0 := Lib.hid (bel_new (Below.refl w.heap.size w) (.cells #[.int .i64 a, .int .i64 b] 30))
  have H1 := Lib.hid (h.below K0.out)
  have HK := Lib.hid hk
  have Q0 := Lib.hid (heap_alloc_new w (.cells #[.int .i64 a, .int .i64 b] 30))
  have HL := Lib.hid h.lt
  have HNE := Lib.hid h.ne
  clear h hk
  go_enter Try.func14, Try.ntmps14
  go_wp2_with fail
  generalize w.alloc (.cells #[.int .i64 a, .int .i64 b] 30) = w1 at *
  have d0 : w1.cell? ⟨w.heap.size, 0, none⟩ = some (.int .i64 a) := cell_of_row _ _ _ _ _ _ Q0.out
  have d1 : w1.cell? ⟨w.heap.size, 1, none⟩ = some (.int .i64 b) := cell_of_row _ _ _ _ _ _ Q0.out
  ((with_reducible refine (lmade_calls H1.out).mono ?_))
  rintro e w' ⟨rfl, rfl⟩
  go_wp2_with fail
  ((with_reducible refine (lwithin_calls k 1 65535 _).mono ?_))
  rintro e w' ⟨rfl, rfl⟩
  cases hx : wn k 1 65535
  · go_wp2
    go_ret
    exact map_bad H1.out (by rw [hx]; rfl) rfl (Turn.of_below K0.out)
  · go_wp2_with fail
    ((with_reducible refine (valid_calls a b _).mono ?_))
    rintro e w' ⟨rfl, rfl⟩
    have K1 := Lib.hid (bel_new (Below.refl w1.heap.size w1) (.cells #[.int .i64 a, .int .i64 b] 30))
    have H2 := Lib.hid (H1.out.below K1.out)
    have hlt : w.heap.size < w1.heap.size := (Array.getElem?_eq_some_iff.1 Q0.out).1
    have Q1 := Lib.hid ((K1.out.block _ hlt).trans Q0.out)
    have K2 := Lib.hid (bel_new K0.out (.cells #[.int .i64 a, .int .i64 b] 30))
    clear d0 d1 K0 K1 H1 Q0 hlt
    generalize w1.alloc (.cells #[.int .i64 a, .int .i64 b] 30) = w2 at *
    cases hy : okO a b
    · go_wp2
      go_ret
      exact map_bad H2.out (by rw [hx, hy]; rfl) rfl (Turn.of_below K2.out)
    · go_wp2_with fail
      have CC := Lib.hid (show w2.cell? ⟨tb, 2, none⟩ = some (.int .i64 most) ∧ w2.cell? ⟨tb, 3, none⟩ = some (.map (some ub)) ∧ w2.cell? ⟨w.heap.size, 0, none⟩ = some (.int .i64 a) ∧ w2.cell? ⟨w.heap.size, 1, none⟩ = some (.int .i64 b) from ⟨H2.out.c2, H2.out.c3, cell_of_row _ _ _ _ _ _ Q1.out, cell_of_row _ _ _ _ _ _ Q1.out⟩)
      refine region_seq (fun W => W.cell? ⟨tb, 2, none⟩ = some (.int .i64 most) ∧ W.cell? ⟨tb, 3, none⟩ = some (.map (some ub)) ∧ W.cell? ⟨w.heap.size, 0, none⟩ = some (.int .i64 a) ∧ W.cell? ⟨w.heap.size, 1, none⟩ = some (.int .i64 b))
        [(0, true), (1, true), (2, true), (3, true), (4, true), (5, true), (6, false), (7, true)]
        (by kernel_rfl) (by kernel_rfl) (by kernel_rfl) (by kernel_rfl) (fun _ _ _ _ _ h => h) CC.out ?_
      repeat
        refine seq_pure (v := ?_) rfl (by rfl) (fun W hW => ?_) ?_
        rotate_left
        · obtain ⟨d0, d1, d2, d3⟩ := hW
          go_simp
          try with_reducible rfl
        simp only [Act.put, List.setIfInBounds_toArray, List.set_cons_zero, List.set_cons_succ]
      have hln : u.length ≤ 64 := by have := H2.out.2.2.2.2.1; omega
      refine seq_make rfl (by rfl) (fun K hK => ?_)
      go_simp
      have OL := Lib.hid (show Outs w2.drew ub u from H2.out.2.2.1)
      ((with_reducible refine (set_calls (most := most) OL.out k a b HK.out hln).mono ?_))
      rintro e w3 ⟨rfl, o3, t3⟩
      have O3 := Lib.hid o3
      have T3 := Lib.hid (show Turn [ub] w2 w3 from ⟨t3.os, t3.tape, t3.output, t3.size, t3.block⟩)
      clear o3 t3
      go_simp
      have hbt : w3.heap[tb]? = w2.heap[tb]? := T3.out.block _ H2.out.lt.1 (by simpa using HNE.out.2)
      have hbw : w3.heap[w.heap.size]? = w2.heap[w.heap.size]? := T3.out.block _ (Array.getElem?_eq_some_iff.1 Q1.out).1 (by have := HL.out.2.2; simp; omega)
      refine hK _ w3 (fun W => W.cell? ⟨tb, 2, none⟩ = some (.int .i64 most) ∧ W.cell? ⟨tb, 3, none⟩ = some (.map (some ub)) ∧ W.cell? ⟨w.heap.size, 0, none⟩ = some (.int .i64 a) ∧ W.cell? ⟨w.heap.size, 1, none⟩ = some (.int .i64 b)) (fun W h => h)
        ⟨(World.cell?_of_block (w := w2) hbt).trans CC.out.1, (World.cell?_of_block (w := w2) hbt).trans CC.out.2.1, (World.cell?_of_block (w := w2) hbw).trans CC.out.2.2.1, (World.cell?_of_block (w := w2) hbw).trans CC.out.2.2.2⟩ ?_
      clear hK K hbt hbw
      repeat
        refine seq_pure (v := ?_) rfl (by rfl) (fun W hW => ?_) ?_
        rotate_left
        · clear hW
          go_simp
          try with_reducible rfl
        simp only [Act.put, List.setIfInBounds_toArray, List.set_cons_zero, List.set_cons_succ]
      refine seq_done ?_
      go_wp2
      go_ret
      have hok : (wn k 1 65535 && okO a b) = true := by rw [hx, hy]; rfl
      unfold MapPost actE actL
      rw [hok, if_pos rfl, if_pos rfl]
      exact ⟨rfl, H2.out.putU T3.out O3.out (setL_len _ H2.out.2.2.2.2.1.2.2.2) (setL_all H2.out.2.2.2.2.2.2 ⟨wn_yes hx, okO_yes hy⟩), (Turn.of_below K2.out).trans T3.out⟩

def FreePost (w : World) (tb lb ub : Nat) (most : Int) (l u : List (Int × Int × Int)) (k : Int) (e : Ending) (w' : World) : Prop :=
  e = .returned (.int .i64 (remE l k)) ∧ Tbl w' tb lb ub most (remR l k) u ∧ Turn [lb] w w'
def UnmapPost (w : World) (tb lb ub : Nat) (most : Int) (l u : List (Int × Int × Int)) (k : Int) (e : Ending) (w' : World) : Prop :=
  e = .returned (.int .i64 (remE u k)) ∧ Tbl w' tb lb ub most l (remR u k) ∧ Turn [ub] w w'

set_option maxRecDepth 100000 in
theorem free_calls (h : Tbl w tb lb ub most l u) (k : Int) (hk : (Lit.int .i64 k).wf = true) : Calls Try.prog 12 #[.pointer (some ⟨tb, 0, none⟩), .int .i64 k] w (FreePost w tb lb ub most l u k) := by
  have c0 := h.c0
  have c1 := h.c1
  have H := Lib.hid h
  have O := Lib.hid h.2.1
  have HK := Lib.hid hk
  clear h hk
  go_enter Try.func12, Try.ntmps12
  go_wp2_with fail
  ((with_reducible refine (lmade_calls H.out).mono ?_))
  rintro e w' ⟨rfl, rfl⟩
  go_wp2_with fail
  ((with_reducible refine (rem_calls (most := most) O.out k HK.out).mono ?_))
  rintro e w3 ⟨rfl, o3, t3⟩
  clear c0 c1
  go_wp2
  go_ret
  exact ⟨rfl, H.out.putL t3 o3 (by have := len_remR_le l k; have := H.out.2.2.2.2.1.2.2.1; omega) (remR_all H.out.2.2.2.2.2.1), t3⟩

set_option maxRecDepth 100000 in
theorem unmap_calls (h : Tbl w tb lb ub most l u) (k : Int) (hk : (Lit.int .i64 k).wf = true) : Calls Try.prog 16 #[.pointer (some ⟨tb, 0, none⟩), .int .i64 k] w (UnmapPost w tb lb ub most l u k) := by
  have c0 := h.c2
  have c1 := h.c3
  have H := Lib.hid h
  have O := Lib.hid h.2.2.1
  have HK := Lib.hid hk
  clear h hk
  go_enter Try.func16, Try.ntmps16
  go_wp2_with fail
  ((with_reducible refine (lmade_calls H.out).mono ?_))
  rintro e w' ⟨rfl, rfl⟩
  go_wp2_with fail
  ((with_reducible refine (rem_calls (most := most) O.out k HK.out).mono ?_))
  rintro e w3 ⟨rfl, o3, t3⟩
  clear c0 c1
  go_wp2
  go_ret
  exact ⟨rfl, H.out.putU t3 o3 (by have := len_remR_le u k; have := H.out.2.2.2.2.1.2.2.2; omega) (remR_all H.out.2.2.2.2.2.2), t3⟩
end
end Go.Proofs.Ytkbbnfinmipenaa
