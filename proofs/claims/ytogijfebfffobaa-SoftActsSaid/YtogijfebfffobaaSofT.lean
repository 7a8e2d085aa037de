/-
  The document's answers of layer 18 (viaductref18): Put, Late, Lapsed. Condition: what comes in reads as a list; at most 2^20 states.
-/
import Derived.Test.YtogijfebfffobaaSofS
import Derived.Deep.CutBlock
namespace Go.Proofs.Ytogijfebfffobaa
set_option maxRecDepth 100000
set_option linter.unusedVariables false
open Go.RowKit

/-- A state laid into a list as far as the document has gone. -/
def Lay18 (s : Ss) (ds : List Ss) (i : Nat) (b : Bool) (l : List Ss) : Prop :=
  (b = false ∧ l = ds.take i ∧ ∀ y ∈ ds.take i, kBef s.p.k y.p.k = false) ∨ (b = true ∧ l = ins18 kf18 (ds.take i) s ∧ ∃ y ∈ ds.take i, kBef s.p.k y.p.k = true)
theorem Lay18.len {s : Ss} {ds l : List Ss} {i : Nat} {b : Bool} (h : Lay18 s ds i b l) (hi : i ≤ ds.length) : l.length ≤ i + 1 := by
  rcases h with ⟨_, rfl, _⟩ | ⟨_, rfl, _⟩
  · rw [List.length_take]; omega
  · unfold ins18
    rw [List.length_append, List.length_cons]
    have h1 := congrArg List.length (List.takeWhile_append_dropWhile (p := fun y : Ss => !kBef (kf18 s) (kf18 y)) (l := ds.take i))
    rw [List.length_append, List.length_take] at h1
    omega
theorem Lay18.first {s x : Ss} {ds l : List Ss} {i : Nat} (hx : ds[i]? = some x) (h : Lay18 s ds i false l) (hk : kBef s.p.k x.p.k = true) : Lay18 s ds (i + 1) true (l ++ [s] ++ [x]) := by
  rcases h with ⟨_, rfl, hn⟩ | ⟨e, _⟩
  · refine .inr ⟨rfl, ?_, x, by rw [List.take_add_one, hx]; simp, hk⟩
    rw [List.take_add_one, hx, ins18_end hn]
    show _ = ds.take i ++ ins18 kf18 [x] s
    rw [ins18_hit hk, List.append_assoc]; rfl
  · cases e
theorem Lay18.stay {s x : Ss} {ds l : List Ss} {i : Nat} (hx : ds[i]? = some x) (h : Lay18 s ds i false l) (hk : kBef s.p.k x.p.k = false) : Lay18 s ds (i + 1) false (l ++ [x]) := by
  rcases h with ⟨_, rfl, hn⟩ | ⟨e, _⟩
  · refine .inl ⟨rfl, by rw [List.take_add_one, hx]; rfl, fun y hy => ?_⟩
    rw [List.take_add_one, hx, List.mem_append] at hy
    rcases hy with hy | hy
    · exact hn y hy
    · obtain rfl := List.mem_singleton.1 (by simpa using hy); exact hk
  · cases e
theorem Lay18.more {s x : Ss} {ds l : List Ss} {i : Nat} (hx : ds[i]? = some x) (h : Lay18 s ds i true l) : Lay18 s ds (i + 1) true (l ++ [x]) := by
  rcases h with ⟨e, _⟩ | ⟨_, rfl, y, hy, hk⟩
  · cases e
  · refine .inr ⟨rfl, ?_, y, by rw [List.take_add_one]; exact List.mem_append_left _ hy, hk⟩
    rw [List.take_add_one, hx]
    exact (ins18_more ⟨y, hy, hk⟩).symm
theorem Lay18.done {s : Ss} {ds l : List Ss} {i : Nat} {b : Bool} (h : Lay18 s ds i b l) (hi : ds.length ≤ i) : (if b = true then l else l ++ [s]) = ins18 kf18 ds s := by
  rcases h with ⟨rfl, rfl, hn⟩ | ⟨rfl, rfl, _⟩
  · rw [List.take_of_length_le hi] at hn ⊢
    have := ins18_end (r := []) hn
    rw [List.append_nil, ins18_nil] at this
    rw [if_neg (by simp), this]
  · rw [List.take_of_length_le hi, if_pos rfl]
theorem hc7 {w5 w7 : World} {B N9 i b o : Nat} {ds : List Ss} {x : Ss} (h : Row ssc w5 B (some ⟨b, o, none⟩) N9 ds) (hx : ds[i]? = some x) (hb : Below B w5 w7) : w7.rangeAt b (o + i * 17) (ssc x) := by
  have hin : i < N9 := by rw [← h.1]; exact (List.getElem?_eq_some_iff.1 hx).1
  obtain ⟨b', o', x', e, hx', _, hc⟩ := row_key18 h hin
  injection e with e
  injection e with e1 e2 _
  subst e1; subst e2
  rw [hx] at hx'
  injection hx' with hx'
  subst hx'
  exact hc w7 hb
set_option maxHeartbeats 6400000 in
theorem rput18_calls (A : Option Addr) (n c most : Nat) (ls : List Ss) (s : Ss) (w : World) (h : Row ssc w w.heap.size A n ls) (hn : n ≤ 1048576) (hr : Row ei w w.heap.size s.a s.n s.p.rt) (hsn : s.n ≤ maxLen) (hsc : s.n ≤ s.c) :
    Calls Try.prog 18 #[.agg #[.slice A n c, .int .i64 (most : Int)], .agg (ssc s).toArray] w (Rtb18 A n c most ls (rput18 most ls s) w) := by
  have b1 : Blk ((w.alloc (.cells #[.slice A n c, .int .i64 (most : Int)] 28)).alloc (.cells (ssc s).toArray 37)) w.heap.size 28 [.slice A n c, .int .i64 (most : Int)] := (Blk.new w 28 [.slice A n c, .int .i64 (most : Int)]).alloc _
  have b2 : Blk ((w.alloc (.cells #[.slice A n c, .int .i64 (most : Int)] 28)).alloc (.cells (ssc s).toArray 37)) (w.alloc (.cells #[.slice A n c, .int .i64 (most : Int)] 28)).heap.size 37 (ssc s) := Blk.new (w.alloc (.cells #[.slice A n c, .int .i64 (most : Int)] 28)) 37 (ssc s)
  rw [show (w.alloc (.cells #[.slice A n c, .int .i64 (most : Int)] 28)).heap.size = w.heap.size + 1 by simp] at b2
  have b3 : Blk (((w.alloc (.cells #[.slice A n c, .int .i64 (most : Int)] 28)).alloc (.cells (ssc s).toArray 37)).alloc (.cells #[.slice none 0 0, .int .i64 0] 28)) (((w.alloc (.cells #[.slice A n c, .int .i64 (most : Int)] 28)).alloc (.cells (ssc s).toArray 37))).heap.size 28 [.slice none 0 0, .int .i64 0] := Blk.new (((w.alloc (.cells #[.slice A n c, .int .i64 (most : Int)] 28)).alloc (.cells (ssc s).toArray 37))) 28 [.slice none 0 0, .int .i64 0]
  rw [show (((w.alloc (.cells #[.slice A n c, .int .i64 (most : Int)] 28)).alloc (.cells (ssc s).toArray 37))).heap.size = w.heap.size + 2 by simp] at b3
  have bz3 := bel_new (bel_new (bel_new (Below.refl w.heap.size w) (.cells #[.slice A n c, .int .i64 (most : Int)] 28)) (.cells (ssc s).toArray 37)) (.cells #[.slice none 0 0, .int .i64 0] 28)
  have HL := Lib.hid bz3
  have HT0 := Lib.hid (And.intro (b1.alloc (.cells #[.slice none 0 0, .int .i64 0] 28)) (And.intro (b2.alloc (.cells #[.slice none 0 0, .int .i64 0] 28)) b3))
  have HR := Lib.hid ((h.below bz3).more bz3.size)
  have HSR := Lib.hid ((hr.below bz3).more bz3.size)
  have HNN := Lib.hid (And.intro h.1 hn)
  have HIN := Lib.hid (fun s : Ss => (show (Try.prog.info? 37).map (·.size) = some (ssc s).length from infoSsR))
  have HIZ := Lib.hid (fun s : Ss => (show (Try.prog.info? 37).map (fun i => (i.zero, i.size, i.bytes)) = some (some zss, (ssc s).length, 144) from infoSsZR))
  have HIT := Lib.hid (fun a b : Value => (show (Try.prog.info? 28).map (·.size) = some ([a, b] : List Value).length from infoRt18))
  have hone : ∀ (A : Option Addr) (n c : Nat) (m : Int), ∀ u ∈ ([.slice A n c, .int .i64 m] : List Value), u.oneCell' = true := fun A n c m u hu => by
    simp only [List.mem_cons, List.not_mem_nil, or_false] at hu
    rcases hu with rfl | rfl <;> rfl
  have HO1 := Lib.hid hone
  have HMY := Lib.hid (fun W (hW : Row ei W W.heap.size s.a s.n s.p.rt) => rmay18_calls s W hW hsn hsc)
  obtain ⟨R, hR⟩ : ∃ R, rput18 most ls s = R := ⟨_, rfl⟩
  rw [hR]
  have HRR := Lib.hid hR
  unfold Rtb18
  have HHS := Lib.hid (fun W (hW : Row ssc W W.heap.size A n ls) => rhast18_calls A n c most ls s.p.k W hW hn)
  have HDR := Lib.hid (fun W (hW : Row ssc W W.heap.size A n ls) => rdrop18_calls A n c most ls s.p.k W hW hn)
  clear bz3 b1 b2 b3 h hR hone hr hsn hsc hn
  go_enter Try.func18, Try.ntmps18
  go_upto_region 1 with fail
  generalize (((w.alloc (.cells #[.slice A n c, .int .i64 (most : Int)] 28)).alloc (.cells (ssc s).toArray 37)).alloc (.cells #[.slice none 0 0, .int .i64 0] 28)) = w1 at *
  have hmy := HMY.out w1 HSR.out
  unfold Yes14 at hmy
  have HM := Lib.hid hmy
  clear hmy HMY
  go_wp2_with ((with_reducible refine step_load (o := ⟨some 11, _, _, _, _, _⟩) (x := .tmp 3) ?_ ?_ ?_ HT0.out.2.1 Try.underlying37 ?_ (HIN.out _) ?_); (rfl); (rfl); (rfl); (rfl))
  ((with_reducible refine HM.out.mono ?_))
  rintro e w2 ⟨rfl, hb⟩
  have HT2 := Lib.hid (And.intro (HT0.out.1.below hb) (And.intro (HT0.out.2.1.below hb) (HT0.out.2.2.below hb)))
  have HL2 := Lib.hid (HL.out.trans (hb.mono HL.out.size))
  have HR2 := Lib.hid ((HR.out.below hb).more hb.size)
  clear hb HM HT0 HL HR HSR
  cases hv : may18 s.p with
  | false =>
    have hr : R = (ls, 2) := by rw [← HRR.out]; unfold rput18; rw [if_pos hv]
    have HRX := Lib.hid hr
    clear hv hr
    go_wp2_with (first | ((with_reducible refine step_load (o := ⟨some 14, _, _, _, _, _⟩) (x := .tmp 2) ?_ ?_ ?_ HT2.out.1 Try.underlying28 ?_ (HIT.out _ _) ?_); (rfl); (rfl); (rfl); (rfl)) | ((with_reducible refine step_store (o := ⟨none, _, _, _, _, _⟩) (vs := [.slice A n c, .int .i64 (most : Int)]) (ty := 28) (x := .tmp 4) (y := .tmp 14) ?_ ?_ ?_ ?_ HT2.out.2.2 (HIT.out _ _) rfl (HO1.out _ _ _ _) ?_); (rfl); (rfl); (rfl); (rfl); intro w5 hb5 hg5 hs5))
    refine bodyPost_ret (v := .tuple #[.agg #[.slice A n c, .int .i64 (most : Int)], .int .i64 2]) (results_two8 rfl _ rfl hb5 Try.underlying28 rfl (HIT.out _ _) rfl) rfl ?_
    rw [HRX.out]
    exact ⟨bel_upd HL2.out hg5 (Nat.le_refl _) (by omega), .inl ⟨rfl, rfl⟩⟩
  | true =>
    have HMT := Lib.hid hv
    have hhs := HHS.out w2 HR2.out
    unfold Yes14 at hhs
    have HH := Lib.hid hhs
    clear hv hhs HHS
    obtain ⟨hs, hhs⟩ : ∃ hs, has18 kf18 ls s.p.k = hs := ⟨_, rfl⟩
    have HHV := Lib.hid hhs
    rw [hhs] at HH
    clear hhs
    go_upto_region 3 with fail
    go_cut [27] from 11 to 26 (fun t W => t = .bool (!hs && decide (most ≤ n)) ∧ Hid (Below w2.heap.size w2 W))
    case first =>
      have t0 : w2.cell? ⟨w.heap.size, 0, none⟩ = some (.slice A n c) := HT2.out.1.cell 0
      have t1 : w2.cell? ⟨w.heap.size, 1, none⟩ = some (.int .i64 (most : Int)) := HT2.out.1.cell 1
      have k0 : w2.cell? ⟨w.heap.size + 1, 0, none⟩ = some (.int .i64 s.p.k.tail) := HT2.out.2.1.cell 0
      have k1 : w2.cell? ⟨w.heap.size + 1, 1, none⟩ = some (.int .i64 s.p.k.tun) := HT2.out.2.1.cell 1
      have k2 : w2.cell? ⟨w.heap.size + 1, 2, none⟩ = some (.int .i64 s.p.k.head) := HT2.out.2.1.cell 2
      have k3 : w2.cell? ⟨w.heap.size + 1, 3, none⟩ = some (.int .i64 s.p.k.lsp) := HT2.out.2.1.cell 3
      go_wp2_with fail
      ((with_reducible refine HH.out.mono ?_))
      rintro e w3 ⟨rfl, hb⟩
      have t0 : w3.cell? ⟨w.heap.size, 0, none⟩ = some (.slice A n c) := (HT2.out.1.below hb).cell 0
      have t1 : w3.cell? ⟨w.heap.size, 1, none⟩ = some (.int .i64 (most : Int)) := (HT2.out.1.below hb).cell 1
      have HBB := Lib.hid hb
      clear hb k0 k1 k2 k3
      obtain ⟨d, hd⟩ : ∃ d, decide ((most : Int) ≤ (n : Int)) = d := ⟨_, rfl⟩
      have hd' : decide (most ≤ n) = d := by rw [← hd]; exact decide_eq_decide.2 (by omega)
      have HD := Lib.hid hd'
      cases hs with
      | true =>
        go_wp2_with fail
        go_meet
        exact ⟨rfl, HBB⟩
      | false =>
        go_wp2_with fail
        go_meet
        exact ⟨by rw [HD.out]; rfl, HBB⟩
    case rest =>
    obtain ⟨rfl, hbc⟩ := hcut
    have hb := hbc.out
    have HT3 := Lib.hid (And.intro (HT2.out.1.below hb) (And.intro (HT2.out.2.1.below hb) (HT2.out.2.2.below hb)))
    have HL3 := Lib.hid (HL2.out.trans (hb.mono HL2.out.size))
    have HR3 := Lib.hid ((HR2.out.below hb).more hb.size)
    clear hb hbc HH HT2 HL2 HR2
    generalize wc = w3 at *
    obtain ⟨d, hd⟩ : ∃ d, decide (most ≤ n) = d := ⟨_, rfl⟩
    have HD := Lib.hid hd
    rw [hd]
    clear hd
    by_cases hfull : hs = false ∧ d = true
    · obtain ⟨rfl, rfl⟩ := hfull
      simp only [Bool.not_false, Bool.and_self]
      have hr : R = (ls, 7) := by
        rw [← HRR.out]; unfold rput18
        rw [if_neg (by rw [HMT.out]; simp), if_pos ⟨HHV.out, by rw [HNN.out.1]; exact of_decide_eq_true HD.out⟩]
      have HRX := Lib.hid hr
      clear hr
      go_wp2_with (first | ((with_reducible refine step_load (o := ⟨some 28, _, _, _, _, _⟩) (x := .tmp 2) ?_ ?_ ?_ HT3.out.1 Try.underlying28 ?_ (HIT.out _ _) ?_); (rfl); (rfl); (rfl); (rfl)) | ((with_reducible refine step_store (o := ⟨none, _, _, _, _, _⟩) (vs := [.slice A n c, .int .i64 (most : Int)]) (ty := 28) (x := .tmp 4) (y := .tmp 28) ?_ ?_ ?_ ?_ HT3.out.2.2 (HIT.out _ _) rfl (HO1.out _ _ _ _) ?_); (rfl); (rfl); (rfl); (rfl); intro w5 hb5 hg5 hs5))
      refine bodyPost_ret (v := .tuple #[.agg #[.slice A n c, .int .i64 (most : Int)], .int .i64 7]) (results_two8 rfl _ rfl hb5 Try.underlying28 rfl (HIT.out _ _) rfl) rfl ?_
      rw [HRX.out]
      exact ⟨bel_upd HL3.out hg5 (Nat.le_refl _) (by omega), .inl ⟨rfl, rfl⟩⟩
    · have hr : R = (put18 kf18 ls s, 0) := by
        rw [← HRR.out]; unfold rput18
        rw [if_neg (by rw [HMT.out]; simp), if_neg (fun hx => hfull ⟨by rw [← HHV.out]; exact hx.1, by rw [← HD.out]; exact decide_eq_true (by rw [← HNN.out.1]; exact hx.2)⟩)]
      have HRX := Lib.hid hr
      -- what is left without the key
      have hds : (rdrop18 ls s.p.k).1 = drp18 kf18 ls s.p.k := by
        unfold rdrop18
        cases hv : has18 kf18 ls s.p.k with
        | true => rfl
        | false => exact (drp18_not hv).symm
      have HDS := Lib.hid hds
      have HRD := Lib.hid (HDR.out w3 HR3.out)
      have k0 : w3.cell? ⟨w.heap.size + 1, 0, none⟩ = some (.int .i64 s.p.k.tail) := HT3.out.2.1.cell 0
      have k1 : w3.cell? ⟨w.heap.size + 1, 1, none⟩ = some (.int .i64 s.p.k.tun) := HT3.out.2.1.cell 1
      have k2 : w3.cell? ⟨w.heap.size + 1, 2, none⟩ = some (.int .i64 s.p.k.head) := HT3.out.2.1.cell 2
      have k3 : w3.cell? ⟨w.heap.size + 1, 3, none⟩ = some (.int .i64 s.p.k.lsp) := HT3.out.2.1.cell 3
      have hg : (!hs && d) = false := by
        cases hs with
        | true => rfl
        | false => cases d with
          | true => exact absurd ⟨rfl, rfl⟩ hfull
          | false => rfl
      rw [hg]
      clear hg hr hds hfull
      have t0 : w3.cell? ⟨w.heap.size, 0, none⟩ = some (.slice A n c) := HT3.out.1.cell 0
      have t1 : w3.cell? ⟨w.heap.size, 1, none⟩ = some (.int .i64 (most : Int)) := HT3.out.1.cell 1
      go_wp2_with fail
      ((with_reducible refine HRD.out.mono ?_))
      unfold Rtb18
      rw [HDS.out]
      rintro e w4 ⟨hb, hres⟩
      obtain ⟨A9, c9, N9, E9, he9, hrow9⟩ : ∃ (A9 : Option Addr) (c9 N9 : Nat) (E9 : Int), e = .returned (.tuple #[.agg #[.slice A9 N9 c9, .int .i64 (most : Int)], .int .i64 E9]) ∧ Row ssc w4 w4.heap.size A9 N9 (drp18 kf18 ls s.p.k) := by
        rcases hres with ⟨h1, h2⟩ | ⟨A', c', h1, h2⟩
        · exact ⟨A, c, n, _, h2, by rw [h1]; exact (HR3.out.below hb).more hb.size⟩
        · exact ⟨A', c', _, _, h1, h2.row⟩
      subst he9
      have HT4 := Lib.hid (And.intro (HT3.out.1.below hb) (And.intro (HT3.out.2.1.below hb) (HT3.out.2.2.below hb)))
      have HL4 := Lib.hid (HL3.out.trans (hb.mono HL3.out.size))
      have HR4 := Lib.hid hrow9
      have HN9 := Lib.hid (show N9 ≤ 1048576 by
        have h1 := hrow9.1
        have h2 : (drp18 kf18 ls s.p.k).length ≤ ls.length := List.length_filter_le _ _
        have := HNN.out
        omega)
      clear hb hres hrow9 HT3 HL3 HR3 HRD t0 t1 k0 k1 k2 k3 HDR
      obtain ⟨ds, hds⟩ : ∃ ds, drp18 kf18 ls s.p.k = ds := ⟨_, rfl⟩
      have hdn : ∀ l2, l2 = ins18 kf18 ds s → put18 kf18 ls s = l2 := fun l2 h => by rw [h, ← hds]; rfl
      rw [hds] at HR4
      clear hds
      -- the rest, in a variable of its own
      have bz := bel_new (Below.refl w4.heap.size w4) (.cells #[.slice none 0 0, .int .i64 0] 28)
      have BZ := Lib.hid (show Blk (w4.alloc (.cells #[.slice none 0 0, .int .i64 0] 28)) w4.heap.size 28 [.slice none 0 0, .int .i64 0] from Blk.new w4 _ _)
      have HBZ := Lib.hid bz
      clear bz
      go_upto_region 6 with ((with_reducible refine step_store (o := ⟨none, _, _, _, _, _⟩) (vs := [.slice A9 N9 c9, .int .i64 (most : Int)]) (ty := 28) (x := .tmp 6) (y := .tmp 34) ?_ ?_ ?_ ?_ BZ.out (HIT.out _ _) rfl (HO1.out _ _ _ _) ?_); (rfl); (rfl); (rfl); (rfl); intro w5 hb5 hg5 hs5)
      have hv5 : Below w4.heap.size w4 w5 := bel_upd HBZ.out hg5 (Nat.le_refl _) (Nat.le_refl _)
      obtain ⟨u6, hu6⟩ : ∃ u6, w4.heap.size = u6 := ⟨_, rfl⟩
      have HL5 := Lib.hid (HL4.out.trans (hv5.mono HL4.out.size))
      have HT6 := Lib.hid (And.intro (HT4.out.1.below hv5) (And.intro (HT4.out.2.1.below hv5) (And.intro hb5 (And.intro (HT4.out.2.2.below hv5) (show w4.heap.size < w5.heap.size from hb5.lt)))))
      have HRW := Lib.hid ((HR4.out.below hv5).more hv5.size)
      rw [hu6] at HT6
      rw [hu6]
      clear hb5 hg5 hs5 BZ HBZ hv5 HT4 HL4 HR4 hu6
      go_wp2_with fail
      go_loopw [8, 9, 10] (fun a b u W => ∃ (i m : Nat) (ld : Bool) (l2 : List Ss) (A2 : Option Addr) (c2 : Nat), i ≤ N9 ∧ a = .slice A2 m c2 ∧ b = .bool ld ∧ u = .int .i64 (i : Int) ∧ Hid (m ≤ i + 1 ∧ l2.length = m) ∧ Hid (Lay18 s ds i ld l2) ∧ Hid (AccR ssc 17 W w5.heap.size 37 A2 c2 l2) ∧ Hid (Below w5.heap.size w5 W)) (fun a b u W => N9 - (intOf u).toNat)
      case atStart => exact ⟨0, 0, false, [], none, 0, Nat.zero_le _, rfl, rfl, rfl, Lib.hid ⟨by omega, rfl⟩, Lib.hid (.inl ⟨rfl, rfl, fun y hy => by simp at hy⟩), Lib.hid (AccR.nil _ _ _), Lib.hid (Below.refl _ _)⟩
      case round =>
        obtain ⟨i, m, ld, l2, A2, c2, hi, rfl, rfl, rfl, HM, HLY, HA, HB⟩ := hrel
        by_cases hin : i < N9
        · have i1 : (i : Int) < (N9 : Int) := by omega
          obtain ⟨b, o, x, rfl, hx, hbb, hc⟩ := row_key18 HRW.out hin
          have HX := Lib.hid hx
          have HI := Lib.hid hin
          have HC := Lib.hid (fun W (hW : Below wr.heap.size wr W) => hc W (HB.out.trans (hW.mono HB.out.size)))
          have HT := Lib.hid (fun W (hW : Below wr.heap.size wr W) => And.intro (HT6.out.1.below (HB.out.trans (hW.mono HB.out.size))) (And.intro (HT6.out.2.1.below (HB.out.trans (hW.mono HB.out.size))) (HT6.out.2.2.1.below (HB.out.trans (hW.mono HB.out.size)))))
          have i3 : IntKind.i64.wrap ((i : Int) + 1) = ((i + 1 : Nat) : Int) := by rw [IntWalk.i64_in _ (by have := HN9.out; have := HI.out; omega)]; omega
          have i0 : ¬ (i : Int) < 0 := by omega
          have HS0 := Lib.hid (show Below wr.heap.size wr wr.drew from (Below.refl _ _).drew)
          have hbf := fun W => rbefore14_calls s.p.k x.p.k W
          unfold Yes14 at hbf
          have HBF := Lib.hid hbf
          have ht6 : wr.cell? ⟨u6, 0, none⟩ = some (.slice (some ⟨b, o, none⟩) N9 c9) := (HT6.out.2.2.1.below HB.out).cell 0
          clear hx hbb hc hin hi hbf
          cases ld with
          | false =>
            go_wp2_with fail
            clear ht6
            refine region_seq (fun W => Below wr.heap.size wr W) [(0, true), (1, true), (2, true), (3, true), (4, true), (5, true), (6, true), (7, true), (8, true), (9, true), (10, true), (11, false), (12, true)] (by kernel_rfl) (by kernel_rfl) (by kernel_rfl) (by kernel_rfl) (fun _ _ _ _ _ h => h) HS0.out ?_
            repeat first
              | refine seq_pure (v := ?_) rfl (by rfl) (fun W hW => ?_) ?_
                rotate_left
                · obtain ⟨h1, h2, h3⟩ := HT.out W hW
                  have r0 : W.cell? ⟨u6, 0, none⟩ = some (.slice (some ⟨b, o, none⟩) N9 c9) := h3.cell 0
                  have k0 : W.cell? ⟨w.heap.size + 1, 0, none⟩ = some (.int .i64 s.p.k.tail) := h2.cell 0
                  have k1 : W.cell? ⟨w.heap.size + 1, 1, none⟩ = some (.int .i64 s.p.k.tun) := h2.cell 1
                  have k2 : W.cell? ⟨w.heap.size + 1, 2, none⟩ = some (.int .i64 s.p.k.head) := h2.cell 2
                  have k3 : W.cell? ⟨w.heap.size + 1, 3, none⟩ = some (.int .i64 s.p.k.lsp) := h2.cell 3
                  have z0 : W.cell? ⟨b, o + i * 17, none⟩ = some (.int .i64 x.p.k.tail) := HC.out W hW 0 _ rfl
                  have z1 : W.cell? ⟨b, o + i * 17 + 1, none⟩ = some (.int .i64 x.p.k.tun) := HC.out W hW 1 _ rfl
                  have z2 : W.cell? ⟨b, o + i * 17 + 2, none⟩ = some (.int .i64 x.p.k.head) := HC.out W hW 2 _ rfl
                  have z3 : W.cell? ⟨b, o + i * 17 + 3, none⟩ = some (.int .i64 x.p.k.lsp) := HC.out W hW 3 _ rfl
                  clear h1 h2 h3
                  clear hW
                  go_simp
                  with_reducible rfl
                simp only [Act.put, List.setIfInBounds_toArray, List.set_cons_zero, List.set_cons_succ]
              | refine seq_skip rfl (by rfl) ?_
                simp only [Act.put, List.setIfInBounds_toArray, List.set_cons_zero, List.set_cons_succ]
            refine seq_make rfl (by rfl) (fun K hK => ?_)
            go_simp
            ((with_reducible refine (HBF.out _).mono ?_))
            rintro e w6 ⟨rfl, hb⟩
            have HS6 := Lib.hid (show Below wr.heap.size wr w6 from below_of_drew hb)
            clear hb
            go_simp
            refine hK _ w6 _ (fun _ h => h) HS6.out ?_
            clear hK K
            repeat first
              | refine seq_pure (v := ?_) rfl (by rfl) (fun W hW => ?_) ?_
                rotate_left
                · obtain ⟨h1, h2, h3⟩ := HT.out W hW
                  have r0 : W.cell? ⟨u6, 0, none⟩ = some (.slice (some ⟨b, o, none⟩) N9 c9) := h3.cell 0
                  have k0 : W.cell? ⟨w.heap.size + 1, 0, none⟩ = some (.int .i64 s.p.k.tail) := h2.cell 0
                  have k1 : W.cell? ⟨w.heap.size + 1, 1, none⟩ = some (.int .i64 s.p.k.tun) := h2.cell 1
                  have k2 : W.cell? ⟨w.heap.size + 1, 2, none⟩ = some (.int .i64 s.p.k.head) := h2.cell 2
                  have k3 : W.cell? ⟨w.heap.size + 1, 3, none⟩ = some (.int .i64 s.p.k.lsp) := h2.cell 3
                  have z0 : W.cell? ⟨b, o + i * 17, none⟩ = some (.int .i64 x.p.k.tail) := HC.out W hW 0 _ rfl
                  have z1 : W.cell? ⟨b, o + i * 17 + 1, none⟩ = some (.int .i64 x.p.k.tun) := HC.out W hW 1 _ rfl
                  have z2 : W.cell? ⟨b, o + i * 17 + 2, none⟩ = some (.int .i64 x.p.k.head) := HC.out W hW 2 _ rfl
                  have z3 : W.cell? ⟨b, o + i * 17 + 3, none⟩ = some (.int .i64 x.p.k.lsp) := HC.out W hW 3 _ rfl
                  clear h1 h2 h3
                  clear hW
                  go_simp
                  with_reducible rfl
                simp only [Act.put, List.setIfInBounds_toArray, List.set_cons_zero, List.set_cons_succ]
              | refine seq_skip rfl (by rfl) ?_
                simp only [Act.put, List.setIfInBounds_toArray, List.set_cons_zero, List.set_cons_succ]
            refine seq_done ?_
            have HB6 := Lib.hid (HB.out.trans (HS6.out.mono HB.out.size))
            have HA6 := Lib.hid (HA.out.bel HS6.out)
            have HXX := Lib.hid (show w6.rangeAt b (o + i * 17) (ssc x) from HC.out _ HS6.out)
            have HSS := Lib.hid (HT6.out.2.1.below HB6.out)
            have ht6 : w6.cell? ⟨u6, 0, none⟩ = some (.slice (some ⟨b, o, none⟩) N9 c9) := (HT6.out.2.2.1.below HB6.out).cell 0
            obtain ⟨dd, hdd⟩ : ∃ dd, kBef s.p.k x.p.k = dd := ⟨_, rfl⟩
            have HDD := Lib.hid hdd
            rw [hdd]
            clear HS0 HS6 HC HT HB HA hdd HBF
            cases dd with
            | true =>
              obtain ⟨A2', c2', w7, hrun, hacc, hgr⟩ := accr_push (P := Try.prog) (ty := 26) ssc_length ssc_one (by omega) HA6.out s Try.underlying26 infoSsZR rfl HB6.out.size (by have := HM.out; have := HI.out; have := HN9.out; omega) (by have := HM.out; have := HI.out; have := HN9.out; omega)
              rw [HM.out.2] at hrun
              have HRUN := Lib.hid hrun
              have HA7 := Lib.hid hacc
              have HB7 := Lib.hid (show Below w5.heap.size w5 w7 from belr_acc HB6.out HA6.out hgr)
              clear hrun hacc hgr
              obtain ⟨A3', c3', w8, hrun, hacc, hgr⟩ := accr_push (P := Try.prog) (ty := 26) ssc_length ssc_one (by omega) HA7.out x Try.underlying26 infoSsZR rfl HB7.out.size (by rw [show (l2 ++ [s]).length = m + 1 by rw [List.length_append, HM.out.2]; rfl]; have := HM.out; have := HI.out; have := HN9.out; omega) (by rw [show (l2 ++ [s]).length = m + 1 by rw [List.length_append, HM.out.2]; rfl]; have := HM.out; have := HI.out; have := HN9.out; omega)
              rw [(show (l2 ++ [s]).length = m + 1 by rw [List.length_append, HM.out.2]; rfl)] at hrun
              have HRUN2 := Lib.hid hrun
              have HA8 := Lib.hid hacc
              have HB8 := Lib.hid (show Below w5.heap.size w5 w8 from belr_acc HB7.out HA7.out hgr)
              clear hrun hacc hgr
              have HX7 := Lib.hid (show w7.rangeAt b (o + i * 17) (ssc x) from hc7 HRW.out HX.out HB7.out)
              have ht7 : w7.cell? ⟨u6, 0, none⟩ = some (.slice (some ⟨b, o, none⟩) N9 c9) := (HT6.out.2.2.1.below HB7.out).cell 0
              have HLY2 := Lib.hid (HLY.out.first HX.out HDD.out)
              clear HXX
              go_wp2_with (first | ((with_reducible refine step_load (o := ⟨some 57, _, _, _, _, _⟩) (x := .tmp 3) ?_ ?_ ?_ HSS.out Try.underlying37 ?_ (HIN.out _) ?_); (rfl); (rfl); (rfl); (rfl)) | (refine step_build18 (o := ⟨some 58, _, _, _, _, _⟩) (x := .tmp 57) (vs := ssc s) rfl rfl rfl Try.underlying26 (HIZ.out _) (by rw [ssc_length]; decide) (by rw [ssc_length]; decide) ?_) | (at_builtin; refine step_append (o := ⟨some 59, _, _, _, _, _⟩) rfl rfl rfl rfl HRUN.out ?_) | (refine step_load_at (o := ⟨some 65, _, _, _, _, _⟩) rfl rfl rfl HX7.out Try.underlying37 rfl (HIN.out _) ?_) | (refine step_build18 (o := ⟨some 66, _, _, _, _, _⟩) (x := .tmp 65) (vs := ssc x) rfl rfl rfl Try.underlying26 (HIZ.out _) (by rw [ssc_length]; decide) (by rw [ssc_length]; decide) ?_) | (at_builtin; refine step_append (o := ⟨some 67, _, _, _, _, _⟩) rfl rfl rfl rfl HRUN2.out ?_))
              go_roundw
              case rel => exact ⟨i + 1, m + 1 + 1, true, l2 ++ [s] ++ [x], _, _, HI.out, rfl, rfl, by first | rfl | (simp; omega), Lib.hid ⟨by have := (HLY2.out.len (by have := HRW.out.1; have := HI.out; omega)); rw [List.length_append, List.length_append, HM.out.2] at this; exact this, by rw [List.length_append, List.length_append, HM.out.2]; rfl⟩, HLY2, HA8, HB8⟩
              case measure => have := HI.out; simp [intOf]; omega
            | false =>
              obtain ⟨A2', c2', w7, hrun, hacc, hgr⟩ := accr_push (P := Try.prog) (ty := 26) ssc_length ssc_one (by omega) HA6.out x Try.underlying26 infoSsZR rfl HB6.out.size (by have := HM.out; have := HI.out; have := HN9.out; omega) (by have := HM.out; have := HI.out; have := HN9.out; omega)
              rw [HM.out.2] at hrun
              have HRUN := Lib.hid hrun
              have HA7 := Lib.hid hacc
              have HB7 := Lib.hid (show Below w5.heap.size w5 w7 from belr_acc HB6.out HA6.out hgr)
              clear hrun hacc hgr
              have HLY2 := Lib.hid (HLY.out.stay HX.out HDD.out)
              clear HSS
              go_wp2_with (first | (refine step_load_at (o := ⟨some 65, _, _, _, _, _⟩) rfl rfl rfl HXX.out Try.underlying37 rfl (HIN.out _) ?_) | (refine step_build18 (o := ⟨some 66, _, _, _, _, _⟩) (x := .tmp 65) (vs := ssc x) rfl rfl rfl Try.underlying26 (HIZ.out _) (by rw [ssc_length]; decide) (by rw [ssc_length]; decide) ?_) | (at_builtin; refine step_append (o := ⟨some 67, _, _, _, _, _⟩) rfl rfl rfl rfl HRUN.out ?_))
              go_roundw
              case rel => exact ⟨i + 1, m + 1, false, l2 ++ [x], _, _, HI.out, rfl, rfl, by first | rfl | (simp; omega), Lib.hid ⟨by have := HM.out.1; omega, by rw [List.length_append, HM.out.2]; rfl⟩, HLY2, HA7, HB7⟩
              case measure => have := HI.out; simp [intOf]; omega
          | true =>
            go_wp2_with fail
            clear ht6
            refine region_seq (fun W => Below wr.heap.size wr W) [(0, true), (1, true), (2, true), (3, true), (4, true), (5, true), (6, true), (7, true), (8, true), (9, true), (10, true), (11, false), (12, true)] (by kernel_rfl) (by kernel_rfl) (by kernel_rfl) (by kernel_rfl) (fun _ _ _ _ _ h => h) HS0.out ?_
            repeat first
              | refine seq_pure (v := ?_) rfl (by rfl) (fun W hW => ?_) ?_
                rotate_left
                · obtain ⟨h1, h2, h3⟩ := HT.out W hW
                  have r0 : W.cell? ⟨u6, 0, none⟩ = some (.slice (some ⟨b, o, none⟩) N9 c9) := h3.cell 0
                  have k0 : W.cell? ⟨w.heap.size + 1, 0, none⟩ = some (.int .i64 s.p.k.tail) := h2.cell 0
                  have k1 : W.cell? ⟨w.heap.size + 1, 1, none⟩ = some (.int .i64 s.p.k.tun) := h2.cell 1
                  have k2 : W.cell? ⟨w.heap.size + 1, 2, none⟩ = some (.int .i64 s.p.k.head) := h2.cell 2
                  have k3 : W.cell? ⟨w.heap.size + 1, 3, none⟩ = some (.int .i64 s.p.k.lsp) := h2.cell 3
                  have z0 : W.cell? ⟨b, o + i * 17, none⟩ = some (.int .i64 x.p.k.tail) := HC.out W hW 0 _ rfl
                  have z1 : W.cell? ⟨b, o + i * 17 + 1, none⟩ = some (.int .i64 x.p.k.tun) := HC.out W hW 1 _ rfl
                  have z2 : W.cell? ⟨b, o + i * 17 + 2, none⟩ = some (.int .i64 x.p.k.head) := HC.out W hW 2 _ rfl
                  have z3 : W.cell? ⟨b, o + i * 17 + 3, none⟩ = some (.int .i64 x.p.k.lsp) := HC.out W hW 3 _ rfl
                  clear h1 h2 h3
                  clear hW
                  go_simp
                  with_reducible rfl
                simp only [Act.put, List.setIfInBounds_toArray, List.set_cons_zero, List.set_cons_succ]
              | refine seq_skip rfl (by rfl) ?_
                simp only [Act.put, List.setIfInBounds_toArray, List.set_cons_zero, List.set_cons_succ]
            refine seq_unmake14 rfl (by rfl) HS0.out ?_
            simp only [Act.put, List.setIfInBounds_toArray, List.set_cons_zero, List.set_cons_succ]
            repeat first
              | refine seq_pure (v := ?_) rfl (by rfl) (fun W hW => ?_) ?_
                rotate_left
                · obtain ⟨h1, h2, h3⟩ := HT.out W hW
                  have r0 : W.cell? ⟨u6, 0, none⟩ = some (.slice (some ⟨b, o, none⟩) N9 c9) := h3.cell 0
                  have k0 : W.cell? ⟨w.heap.size + 1, 0, none⟩ = some (.int .i64 s.p.k.tail) := h2.cell 0
                  have k1 : W.cell? ⟨w.heap.size + 1, 1, none⟩ = some (.int .i64 s.p.k.tun) := h2.cell 1
                  have k2 : W.cell? ⟨w.heap.size + 1, 2, none⟩ = some (.int .i64 s.p.k.head) := h2.cell 2
                  have k3 : W.cell? ⟨w.heap.size + 1, 3, none⟩ = some (.int .i64 s.p.k.lsp) := h2.cell 3
                  have z0 : W.cell? ⟨b, o + i * 17, none⟩ = some (.int .i64 x.p.k.tail) := HC.out W hW 0 _ rfl
                  have z1 : W.cell? ⟨b, o + i * 17 + 1, none⟩ = some (.int .i64 x.p.k.tun) := HC.out W hW 1 _ rfl
                  have z2 : W.cell? ⟨b, o + i * 17 + 2, none⟩ = some (.int .i64 x.p.k.head) := HC.out W hW 2 _ rfl
                  have z3 : W.cell? ⟨b, o + i * 17 + 3, none⟩ = some (.int .i64 x.p.k.lsp) := HC.out W hW 3 _ rfl
                  clear h1 h2 h3
                  clear hW
                  go_simp
                  with_reducible rfl
                simp only [Act.put, List.setIfInBounds_toArray, List.set_cons_zero, List.set_cons_succ]
              | refine seq_skip rfl (by rfl) ?_
                simp only [Act.put, List.setIfInBounds_toArray, List.set_cons_zero, List.set_cons_succ]
            refine seq_done ?_
            have HB6 := Lib.hid (show Below w5.heap.size w5 wr.drew from HB.out.drew)
            have HA6 := Lib.hid (show AccR ssc 17 wr.drew w5.heap.size 37 A2 c2 l2 from HA.out)
            have HXX := Lib.hid (show wr.drew.rangeAt b (o + i * 17) (ssc x) from HC.out _ HS0.out)
            have HSS := Lib.hid (HT6.out.2.1.below HB6.out)
            have ht6 : wr.drew.cell? ⟨u6, 0, none⟩ = some (.slice (some ⟨b, o, none⟩) N9 c9) := (HT6.out.2.2.1.below HB6.out).cell 0
            clear HS0 HC HT HB HA HBF
            generalize wr.drew = w6 at *
            obtain ⟨A2', c2', w7, hrun, hacc, hgr⟩ := accr_push (P := Try.prog) (ty := 26) ssc_length ssc_one (by omega) HA6.out x Try.underlying26 infoSsZR rfl HB6.out.size (by have := HM.out; have := HI.out; have := HN9.out; omega) (by have := HM.out; have := HI.out; have := HN9.out; omega)
            rw [HM.out.2] at hrun
            have HRUN := Lib.hid hrun
            have HA7 := Lib.hid hacc
            have HB7 := Lib.hid (show Below w5.heap.size w5 w7 from belr_acc HB6.out HA6.out hgr)
            clear hrun hacc hgr
            have HLY2 := Lib.hid (HLY.out.more HX.out)
            clear HSS
            go_wp2_with (first | (refine step_load_at (o := ⟨some 65, _, _, _, _, _⟩) rfl rfl rfl HXX.out Try.underlying37 rfl (HIN.out _) ?_) | (refine step_build18 (o := ⟨some 66, _, _, _, _, _⟩) (x := .tmp 65) (vs := ssc x) rfl rfl rfl Try.underlying26 (HIZ.out _) (by rw [ssc_length]; decide) (by rw [ssc_length]; decide) ?_) | (at_builtin; refine step_append (o := ⟨some 67, _, _, _, _, _⟩) rfl rfl rfl rfl HRUN.out ?_))
            go_roundw
            case rel => exact ⟨i + 1, m + 1, true, l2 ++ [x], _, _, HI.out, rfl, rfl, by first | rfl | (simp; omega), Lib.hid ⟨by have := HM.out.1; omega, by rw [List.length_append, HM.out.2]; rfl⟩, HLY2, HA7, HB7⟩
            case measure => have := HI.out; simp [intOf]; omega
        · cases ld with
          | false =>
            obtain rfl : i = N9 := by omega
            have i1 : ¬ (i : Int) < (i : Int) := by omega
            have HDN := Lib.hid (HLY.out.done (by rw [HRW.out.1]; exact Nat.le_refl _))
            have r0 : wr.cell? ⟨u6, 0, none⟩ = some (.slice A9 i c9) := (HT6.out.2.2.1.below HB.out).cell 0
            clear hin hi
            simp only [Bool.false_eq_true, if_false] at HDN
            have HS3 := Lib.hid (HT6.out.2.1.below HB.out)
            obtain ⟨A2', c2', w7, hrun, hacc, hgr⟩ := accr_push (P := Try.prog) (ty := 26) ssc_length ssc_one (by omega) HA.out s Try.underlying26 infoSsZR rfl HB.out.size (by have := HM.out.1; have := HM.out.2; have := HN9.out; omega) (by have := HM.out.1; have := HM.out.2; have := HN9.out; omega)
            rw [HM.out.2] at hrun
            have HRUN := Lib.hid hrun
            have HA7 := Lib.hid hacc
            have HB7 := Lib.hid (show Below w5.heap.size w5 w7 from belr_acc HB.out HA.out hgr)
            clear hrun hacc hgr
            go_upto_region 17 with (first | ((with_reducible refine step_load (o := ⟨some 71, _, _, _, _, _⟩) (x := .tmp 3) ?_ ?_ ?_ HS3.out Try.underlying37 ?_ (HIN.out _) ?_); (rfl); (rfl); (rfl); (rfl)) | (refine step_build18 (o := ⟨some 72, _, _, _, _, _⟩) (x := .tmp 71) (vs := ssc s) rfl rfl rfl Try.underlying26 (HIZ.out _) (by rw [ssc_length]; decide) (by rw [ssc_length]; decide) ?_) | (at_builtin; refine step_append (o := ⟨some 73, _, _, _, _, _⟩) rfl rfl rfl rfl HRUN.out ?_))
            have B1 := Lib.hid (HT6.out.1.below HB7.out)
            have B3 := Lib.hid (HT6.out.2.2.2.1.below HB7.out)
            have f0 := B1.out.free 0
            have t0 : w7.cell? ⟨w.heap.size, 0, none⟩ = some (.slice A n c) := B1.out.cell 0
            have LW := Lib.hid (HL5.out.trans (HB7.out.mono HL5.out.size))
            go_upto_region 18 with fail
            have hs := B1.out.set 0 (.slice A2' (m + 1) c2')
            have hu := upd_set_p w7 w.heap.size 0 (.slice A2' (m + 1) c2')
            have C1 := Lib.hid (show Blk (w7.setCell ⟨w.heap.size, 0, none⟩ (.slice A2' (m + 1) c2')) w.heap.size 28 [.slice A2' (m + 1) c2', .int .i64 (most : Int)] from hs)
            have C3 := Lib.hid (B3.out.other (p := ⟨w.heap.size, 0, none⟩) (show w.heap.size ≠ w.heap.size + 2 by omega) (.slice A2' (m + 1) c2'))
            have CA := Lib.hid (AccR.kept HA7.out hu (fun x hx e => by have h1 := (HA7.out.ge hx).1; have h3 := HT6.out.1.lt; have h4 := Option.some.inj e; omega))
            have CL := Lib.hid (bel_upd LW.out hu (Nat.le_refl _) (Nat.le_refl _))
            clear hs hu f0 t0
            generalize w7.setCell ⟨w.heap.size, 0, none⟩ (.slice A2' (m + 1) c2') = w8 at *
            go_wp2_with (first | ((with_reducible refine step_load (o := ⟨some 76, _, _, _, _, _⟩) (x := .tmp 2) ?_ ?_ ?_ C1.out Try.underlying28 ?_ (HIT.out _ _) ?_); (rfl); (rfl); (rfl); (rfl)) | ((with_reducible refine step_store (o := ⟨none, _, _, _, _, _⟩) (vs := [.slice A2' (m + 1) c2', .int .i64 (most : Int)]) (ty := 28) (x := .tmp 4) (y := .tmp 76) ?_ ?_ ?_ ?_ C3.out (HIT.out _ _) rfl (HO1.out _ _ _ _) ?_); (rfl); (rfl); (rfl); (rfl); intro w9 hb9 hg9 hs9))
            refine bodyPost_ret (v := .tuple #[.agg #[.slice A2' (m + 1) c2', .int .i64 (most : Int)], .int .i64 0]) (results_two8 rfl _ rfl hb9 Try.underlying28 rfl (HIT.out _ _) rfl) rfl ?_
            rw [HRX.out]
            have hpp : put18 kf18 ls s = l2 ++ [s] := hdn _ HDN.out
            refine ⟨bel_upd CL.out hg9 (Nat.le_refl _) (by omega), .inr ⟨_, _, by rw [hpp]; rw [List.length_append, HM.out.2]; rfl, ?_⟩⟩
            rw [hpp]
            exact (AccR.kept CA.out hg9 (fun x hx e => by have h1 := (CA.out.ge hx).1; have h3 := HT6.out.2.2.2.1.lt; have h4 := Option.some.inj e; omega)).lower HL5.out.size
          | true =>
            obtain rfl : i = N9 := by omega
            have i1 : ¬ (i : Int) < (i : Int) := by omega
            have HDN := Lib.hid (HLY.out.done (by rw [HRW.out.1]; exact Nat.le_refl _))
            have r0 : wr.cell? ⟨u6, 0, none⟩ = some (.slice A9 i c9) := (HT6.out.2.2.1.below HB.out).cell 0
            clear hin hi
            simp only [if_true] at HDN
            go_upto_region 17 with fail
            have B1 := Lib.hid (HT6.out.1.below HB.out)
            have B3 := Lib.hid (HT6.out.2.2.2.1.below HB.out)
            have f0 := B1.out.free 0
            have t0 : wr.cell? ⟨w.heap.size, 0, none⟩ = some (.slice A n c) := B1.out.cell 0
            have LW := Lib.hid (HL5.out.trans (HB.out.mono HL5.out.size))
            go_upto_region 18 with fail
            have hs := B1.out.set 0 (.slice A2 m c2)
            have hu := upd_set_p wr w.heap.size 0 (.slice A2 m c2)
            have C1 := Lib.hid (show Blk (wr.setCell ⟨w.heap.size, 0, none⟩ (.slice A2 m c2)) w.heap.size 28 [.slice A2 m c2, .int .i64 (most : Int)] from hs)
            have C3 := Lib.hid (B3.out.other (p := ⟨w.heap.size, 0, none⟩) (show w.heap.size ≠ w.heap.size + 2 by omega) (.slice A2 m c2))
            have CA := Lib.hid (AccR.kept HA.out hu (fun x hx e => by have h1 := (HA.out.ge hx).1; have h3 := HT6.out.1.lt; have h4 := Option.some.inj e; omega))
            have CL := Lib.hid (bel_upd LW.out hu (Nat.le_refl _) (Nat.le_refl _))
            clear hs hu f0 t0
            generalize wr.setCell ⟨w.heap.size, 0, none⟩ (.slice A2 m c2) = w8 at *
            go_wp2_with (first | ((with_reducible refine step_load (o := ⟨some 76, _, _, _, _, _⟩) (x := .tmp 2) ?_ ?_ ?_ C1.out Try.underlying28 ?_ (HIT.out _ _) ?_); (rfl); (rfl); (rfl); (rfl)) | ((with_reducible refine step_store (o := ⟨none, _, _, _, _, _⟩) (vs := [.slice A2 m c2, .int .i64 (most : Int)]) (ty := 28) (x := .tmp 4) (y := .tmp 76) ?_ ?_ ?_ ?_ C3.out (HIT.out _ _) rfl (HO1.out _ _ _ _) ?_); (rfl); (rfl); (rfl); (rfl); intro w9 hb9 hg9 hs9))
            refine bodyPost_ret (v := .tuple #[.agg #[.slice A2 m c2, .int .i64 (most : Int)], .int .i64 0]) (results_two8 rfl _ rfl hb9 Try.underlying28 rfl (HIT.out _ _) rfl) rfl ?_
            rw [HRX.out]
            have hpp : put18 kf18 ls s = l2 := hdn _ HDN.out
            refine ⟨bel_upd CL.out hg9 (Nat.le_refl _) (by omega), .inr ⟨_, _, by rw [hpp]; rw [HM.out.2], ?_⟩⟩
            rw [hpp]
            exact (AccR.kept CA.out hg9 (fun x hx e => by have h1 := (CA.out.ge hx).1; have h3 := HT6.out.2.2.2.1.lt; have h4 := Option.some.inj e; omega)).lower HL5.out.size
end Go.Proofs.Ytogijfebfffobaa
