/-
  Contracts of package soft: All, Late, Lapsed, Len; a table that New did not make. No condition beside what is said.
-/
import Derived.Test.YtogijfebfffobaaSofG
import Derived.Deep.CutBlock
namespace Go.Proofs.Ytogijfebfffobaa
set_option maxRecDepth 100000
set_option linter.unusedVariables false
open Go.RowKit

/-- Routes in blocks of their own. -/
def Sts18 (w : World) (base : Nat) (ls : List Ss) : Prop := ∀ s ∈ ls, AccI w base s.a s.c s.p.rt ∧ s.n = s.p.rt.length
theorem Sts18.nil (w : World) (base : Nat) : Sts18 w base [] := fun s hs => by simp at hs
theorem Sts18.below {w w' : World} {base : Nat} {ls : List Ss} (h : Sts18 w base ls) (hb : Below w.heap.size w w') : Sts18 w' base ls := fun s hs => ⟨AccR.bel (h s hs).1 hb, (h s hs).2⟩
theorem Sts18.kept {w w' : World} {base : Nat} {ls : List Ss} (h : Sts18 w base ls) {α : Type} {enc : α → List Value} {k b c : Nat} {T : TypeId} {A : Option Addr} {l : List α} (ha : AccR enc k w b T A c l) (hg : w.grownBy w' (blk A)) (hT : 3 ≠ T := by decide) : Sts18 w' base ls :=
  fun s hs => ⟨AccR.kept (h s hs).1 hg (fun x hx e => accr_apart18 (h s hs).1 ha hT x hx e), (h s hs).2⟩
theorem Sts18.alloc {w : World} {base : Nat} {ls : List Ss} (h : Sts18 w base ls) (o : Obj) : Sts18 (w.alloc o) base ls := fun s hs => ⟨AccR.alloc (h s hs).1 o, (h s hs).2⟩
theorem Sts18.snoc {w : World} {base : Nat} {ls : List Ss} (h : Sts18 w base ls) {x : Ss} (hx : AccI w base x.a x.c x.p.rt) (hn : x.n = x.p.rt.length) : Sts18 w base (ls ++ [x]) := fun s hs => by
  rcases List.mem_append.1 hs with h1 | h1
  · exact h s h1
  · obtain rfl := List.mem_singleton.1 h1
    exact ⟨hx, hn⟩
theorem Sts18.row {w : World} {base : Nat} {ls : List Ss} (h : Sts18 w base ls) {s : Ss} (hs : s ∈ ls) : Row ei w w.heap.size s.a s.n s.p.rt := by
  have := AccR.row (h s hs).1
  rw [← (h s hs).2] at this
  exact this
/-- What All answers. -/
def All18 (l : List Sp) (w : World) (e : Ending) (w' : World) : Prop :=
  ∃ ls A c, e = .returned (.slice A ls.length c) ∧ ls.map (·.p) = l ∧ AccR ssc 17 w' w.heap.size 40 A c ls ∧ Sts18 w' w.heap.size ls ∧ Below w.heap.size w w'
def Kys18 (l : List Ky) (w : World) (e : Ending) (w' : World) : Prop :=
  ∃ A c, e = .returned (.slice A l.length c) ∧ AccR kyc 4 w' w.heap.size 30 A c l ∧ Below w.heap.size w w'
set_option maxHeartbeats 3200000 in
theorem all18_calls (q most : Nat) (l : List Sp) (S : List Nat) (w : World) (h : TbC18 w q most l S) : Calls Try.prog 22 #[.pointer (some ⟨q, 0, none⟩)] w (All18 l w) := by
  obtain ⟨ls, A, c, ht, rfl⟩ := h
  have HT := Lib.hid ht
  have HIN := Lib.hid (fun s : Ss => (show (Try.prog.info? 40).map (·.size) = some (ssc s).length from infoSsC))
  have HIZ := Lib.hid (fun s : Ss => (show (Try.prog.info? 40).map (fun i => (i.zero, i.size, i.bytes)) = some (some zss, (ssc s).length, 144) from infoSsZC))
  have HON := Lib.hid ssc_one
  have hm := ht.made
  have hq1 : w.cell? ⟨q, 1, none⟩ = some (.slice A ls.length c) := ht.blk.cell 1
  have HLEN := Lib.hid ht.len
  obtain ⟨n, hn⟩ : ∃ n, ls.length = n := ⟨_, rfl⟩
  have HN := Lib.hid hn
  rw [hn] at hq1
  have HM := Lib.hid hm
  unfold All18
  clear ht hn hm
  go_enter Try.func22, Try.ntmps22
  go_wp2_with fail
  ((with_reducible refine HM.out.mono ?_))
  rintro e w9 ⟨rfl, rfl⟩
  go_wp2_with fail
  clear hq1
  go_loopw [3, 14] (fun s u W => ∃ (i : Nat) (l2 : List Ss) (A2 : Option Addr) (c2 : Nat), i ≤ n ∧ s = .slice A2 i c2 ∧ u = .int .i64 (i : Int) ∧ Hid (l2.length = i) ∧ Hid (l2.map (·.p) = (ls.take i).map (·.p)) ∧ Hid (AccR ssc 17 W w9.heap.size 40 A2 c2 l2) ∧ Hid (Sts18 W w9.heap.size l2) ∧ Hid (Below w9.heap.size w9 W)) (fun s u W => n - (intOf u).toNat)
  case atStart => exact ⟨0, [], none, 0, Nat.zero_le _, rfl, rfl, Lib.hid rfl, Lib.hid rfl, Lib.hid (AccR.nil _ _ _), Lib.hid (Sts18.nil _ _), Lib.hid (Below.refl _ _)⟩
  case round =>
    obtain ⟨i, l2, A2, c2, hi, rfl, rfl, HL2, HP2, HA2, HS2, HB⟩ := hrel
    by_cases hin : i < n
    · have i1 : (i : Int) < (n : Int) := by omega
      obtain ⟨b, o, x, rfl, hx, hbb, hc⟩ := row_key18 (i := i) HT.out.acc.row (by have := HN.out; omega)
      have hxm : x ∈ ls := List.mem_of_getElem? hx
      have HX := Lib.hid (hc wr HB.out)
      have HXX := Lib.hid hx
      have HXM := Lib.hid hxm
      have HI := Lib.hid hin
      clear hx hbb hc hxm hin hi
      have bz := bel_new (Below.refl wr.heap.size wr) (.cells #[.int .i64 0, .int .i64 0, .int .i64 0, .int .i64 0, .int .u64 0, .int .i64 0, .int .i64 0, .int .u32 0, .int .u32 0, .int .u32 0, .slice none 0 0, .int .i64 0, .int .i64 0, .int .i64 0, .int .i64 0, .int .i64 0, .int .i64 0] 40)
      have BZ := Lib.hid (show Blk (wr.alloc (.cells #[.int .i64 0, .int .i64 0, .int .i64 0, .int .i64 0, .int .u64 0, .int .i64 0, .int .i64 0, .int .u32 0, .int .u32 0, .int .u32 0, .slice none 0 0, .int .i64 0, .int .i64 0, .int .i64 0, .int .i64 0, .int .i64 0, .int .i64 0] 40)) wr.heap.size 40 (ssc z18) from Blk.new wr _ (ssc z18))
      have HBZ := Lib.hid bz
      clear bz
      go_upto_region 7 with (first | (refine step_load_at (o := ⟨some 17, _, _, _, _, _⟩) rfl rfl rfl HX.out Try.underlying40 rfl (HIN.out _) ?_) | ((with_reducible refine step_store (o := ⟨none, _, _, _, _, _⟩) (vs := ssc x) (ty := 40) (x := .tmp 5) (y := .tmp 17) ?_ ?_ ?_ ?_ BZ.out (HIN.out _) rfl (HON.out _) ?_); (rfl); (rfl); (rfl); (rfl); intro w2 hb5 hg5 hs5))
      have VB := Lib.hid hb5
      have hv : Below wr.heap.size wr w2 := bel_upd HBZ.out hg5 (Nat.le_refl _) (Nat.le_refl _)
      have HVB := Lib.hid hv
      clear hb5 hg5 hs5 BZ HBZ hv
      have HOW := Lib.hid (own18_calls x w2 (((HT.out.rt HXM.out).below (HB.out.trans (HVB.out.mono HB.out.size))).more (Nat.le_trans HB.out.size HVB.out.size)) (by have := may18_len (HT.out.tbl.may x.p (List.mem_map.2 ⟨x, HXM.out, rfl⟩)); have := (HT.out.rts x HXM.out).2; omega))
      have HA3 := Lib.hid (HA2.out.bel HVB.out)
      have HS3 := Lib.hid (HS2.out.below HVB.out)
      have HB3 := Lib.hid (HB.out.trans (HVB.out.mono HB.out.size))
      go_wp2_with ((with_reducible refine step_load (o := ⟨some 19, _, _, _, _, _⟩) (x := .tmp 5) ?_ ?_ ?_ VB.out Try.underlying40 ?_ (HIN.out _) ?_); (rfl); (rfl); (rfl); (rfl))
      ((with_reducible refine HOW.out.mono ?_))
      rintro e w4 ⟨A4, c4, rfl, hacc, hb⟩
      have HA4 := Lib.hid (HA3.out.bel hb)
      have HS4 := Lib.hid (HS3.out.below hb)
      have HB4 := Lib.hid (HB3.out.trans (hb.mono HB3.out.size))
      have HR4 := Lib.hid (show AccI w4 w9.heap.size A4 c4 x.p.rt from hacc.lower HB3.out.size)
      clear hacc hb HOW HA3 HS3 HB3 VB HVB HX HA2 HS2 HB
      obtain ⟨A6, c6, w6, hrun, hacc6, hg6⟩ := accr_push (P := Try.prog) (ty := 58) ssc_length ssc_one (by omega) HA4.out (⟨x.p, A4, x.n, c4⟩ : Ss) Try.underlying58 infoSsZC rfl HB4.out.size (by have := HL2.out; have := HI.out; have := HLEN.out; have := HN.out; omega) (by have := HL2.out; have := HI.out; have := HLEN.out; have := HN.out; omega)
      rw [HL2.out] at hrun
      have HRUN := Lib.hid hrun
      have HA6 := Lib.hid hacc6
      have HS6 := Lib.hid (show Sts18 w6 w9.heap.size (l2 ++ [(⟨x.p, A4, x.n, c4⟩ : Ss)]) from (HS4.out.snoc (x := ⟨x.p, A4, x.n, c4⟩) HR4.out (HT.out.rts x HXM.out).2).kept HA4.out hg6)
      have HB6 := Lib.hid (show Below w9.heap.size w9 w6 from belr_acc HB4.out HA4.out hg6)
      clear hrun hacc6 hg6
      have i3 : IntKind.i64.wrap ((i : Int) + 1) = ((i + 1 : Nat) : Int) := by rw [IntWalk.i64_in _ (by have := HI.out; have := HLEN.out; have := HN.out; omega)]; omega
      go_wp2_with (first | (refine step_build18 (o := ⟨some 21, _, _, _, _, _⟩) (x := .tmp 20) (vs := ssc ⟨x.p, A4, x.n, c4⟩) rfl rfl rfl Try.underlying58 (HIZ.out _) (by rw [ssc_length]; decide) (by rw [ssc_length]; decide) ?_) | (at_builtin; refine step_append (o := ⟨some 22, _, _, _, _, _⟩) rfl rfl rfl rfl HRUN.out ?_))
      go_roundw
      case rel => exact ⟨i + 1, l2 ++ [⟨x.p, A4, x.n, c4⟩], A6, c6, HI.out, rfl, by first | rfl | (simp; omega), Lib.hid (by rw [List.length_append, HL2.out]; rfl), Lib.hid (by rw [List.map_append, HP2.out, List.take_add_one, HXX.out]; simp), HA6, HS6, HB6⟩
      case measure => have := HI.out; simp [intOf]; omega
    · have i1 : ¬ (i : Int) < (n : Int) := by omega
      obtain rfl : i = n := by omega
      clear hin hi
      go_wp2_with fail
      go_ret
      exact ⟨l2, A2, c2, by rw [HL2.out]; rfl, by rw [HP2.out, List.take_of_length_le (by rw [HN.out]; exact Nat.le_refl _)], HA2.out, HS2.out, HB.out⟩
theorem infoKy18 : (Try.prog.info? 30).map (fun i => (i.zero, i.size, i.bytes)) = some (some (.agg #[.int .i64 0, .int .i64 0, .int .i64 0, .int .i64 0]), 4, 32) := by kernel_rfl
theorem filter_snoc18 {l : List Ss} {i : Nat} {x : Ss} (hx : l[i]? = some x) (p : Sp → Bool) (ks : List Ky) (h : ks = (((l.take i).map (·.p)).filter p).map (·.k)) : (((l.take (i + 1)).map (·.p)).filter p).map (·.k) = if p x.p = true then ks ++ [x.p.k] else ks := by
  rw [List.take_add_one, hx, h]
  simp only [Option.toList, List.map_append, List.filter_append, List.map_cons, List.map_nil, List.filter_cons, List.filter_nil]
  split <;> simp
set_option maxHeartbeats 3200000 in
theorem keys18_calls (F q most t : Nat) (p : Sp → Bool) (l : List Sp) (S : List Nat) (w : World) (h : TbC18 w q most l S)
    (he : ∀ (args : Array Value) (w : World), (callFunc F args).run Try.prog w = .ok (.enter F args) w)
    (hcon : ∀ (x : Ss) (W : World), Below w.heap.size w W → Calls Try.prog F #[.agg (ssc x).toArray, .pointer (some ⟨t, 0, none⟩)] W fun e w' => e = .returned (.bool (p x.p)) ∧ Below W.heap.size W w') :
    Calls Try.prog 48 #[.pointer (some ⟨q, 0, none⟩), .func (.func F) #[] #[.pointer (some ⟨t, 0, none⟩)]] w (Kys18 ((l.filter p).map (·.k)) w) := by
  obtain ⟨ls, A, c, ht, rfl⟩ := h
  obtain ⟨R, hR⟩ : ∃ R, ((ls.map (·.p)).filter p).map (·.k) = R := ⟨_, rfl⟩
  rw [hR]
  have HRR := Lib.hid hR
  clear hR
  have HT := Lib.hid ht
  have HC := Lib.hid hcon
  have HIN := Lib.hid (fun s : Ss => (show (Try.prog.info? 40).map (·.size) = some (ssc s).length from infoSsC))
  have HIZ := Lib.hid (fun k : Ky => (show (Try.prog.info? 30).map (fun i => (i.zero, i.size, i.bytes)) = some (some (.agg #[.int .i64 0, .int .i64 0, .int .i64 0, .int .i64 0]), (kyc k).length, 32) from infoKy18))
  have HON := Lib.hid ssc_one
  have hm := ht.made
  have hq1 : w.cell? ⟨q, 1, none⟩ = some (.slice A ls.length c) := ht.blk.cell 1
  have HLEN := Lib.hid ht.len
  obtain ⟨n, hn⟩ : ∃ n, ls.length = n := ⟨_, rfl⟩
  have HN := Lib.hid hn
  rw [hn] at hq1
  have HM := Lib.hid hm
  unfold Kys18
  clear ht hn hm hcon
  go_enter Try.func48, Try.ntmps48
  go_wp2_with fail
  ((with_reducible refine HM.out.mono ?_))
  rintro e w9 ⟨rfl, rfl⟩
  go_wp2_with fail
  clear hq1
  go_loopw [5, 16] (fun s u W => ∃ (i m : Nat) (ks : List Ky) (A2 : Option Addr) (c2 : Nat), i ≤ n ∧ s = .slice A2 m c2 ∧ u = .int .i64 (i : Int) ∧ Hid (ks.length = m ∧ m ≤ i) ∧ Hid (ks = (((ls.take i).map (·.p)).filter p).map (·.k)) ∧ Hid (AccR kyc 4 W w9.heap.size 30 A2 c2 ks) ∧ Hid (Below w9.heap.size w9 W)) (fun s u W => n - (intOf u).toNat)
  case atStart => exact ⟨0, 0, [], none, 0, Nat.zero_le _, rfl, rfl, Lib.hid ⟨rfl, Nat.le_refl _⟩, Lib.hid rfl, Lib.hid (AccR.nil _ _ _), Lib.hid (Below.refl _ _)⟩
  case round =>
    obtain ⟨i, m, ks, A2, c2, hi, rfl, rfl, HL2, HP2, HA2, HB⟩ := hrel
    by_cases hin : i < n
    · have i1 : (i : Int) < (n : Int) := by omega
      obtain ⟨b, o, x, rfl, hx, hbb, hc⟩ := row_key18 (i := i) HT.out.acc.row (by have := HN.out; omega)
      have HX := Lib.hid (hc wr HB.out)
      have HFS := Lib.hid (filter_snoc18 hx p ks HP2.out)
      have HI := Lib.hid hin
      clear hx hbb hc hin hi
      have bz := bel_new (Below.refl wr.heap.size wr) (.cells #[.int .i64 0, .int .i64 0, .int .i64 0, .int .i64 0, .int .u64 0, .int .i64 0, .int .i64 0, .int .u32 0, .int .u32 0, .int .u32 0, .slice none 0 0, .int .i64 0, .int .i64 0, .int .i64 0, .int .i64 0, .int .i64 0, .int .i64 0] 40)
      have BZ := Lib.hid (show Blk (wr.alloc (.cells #[.int .i64 0, .int .i64 0, .int .i64 0, .int .i64 0, .int .u64 0, .int .i64 0, .int .i64 0, .int .u32 0, .int .u32 0, .int .u32 0, .slice none 0 0, .int .i64 0, .int .i64 0, .int .i64 0, .int .i64 0, .int .i64 0, .int .i64 0] 40)) wr.heap.size 40 (ssc z18) from Blk.new wr _ (ssc z18))
      have HBZ := Lib.hid bz
      clear bz
      go_upto_region 7 with (first | (refine step_load_at (o := ⟨some 19, _, _, _, _, _⟩) rfl rfl rfl HX.out Try.underlying40 rfl (HIN.out _) ?_) | ((with_reducible refine step_store (o := ⟨none, _, _, _, _, _⟩) (vs := ssc x) (ty := 40) (x := .tmp 7) (y := .tmp 19) ?_ ?_ ?_ ?_ BZ.out (HIN.out _) rfl (HON.out _) ?_); (rfl); (rfl); (rfl); (rfl); intro w2 hb5 hg5 hs5))
      have VB := Lib.hid hb5
      have hv : Below wr.heap.size wr w2 := bel_upd HBZ.out hg5 (Nat.le_refl _) (Nat.le_refl _)
      have HVB := Lib.hid hv
      clear hb5 hg5 hs5 BZ HBZ hv
      have HA3 := Lib.hid (HA2.out.bel HVB.out)
      have HB3 := Lib.hid (HB.out.trans (HVB.out.mono HB.out.size))
      have hcc := HC.out x w2 HB3.out
      obtain ⟨d, hd⟩ : ∃ d, p x.p = d := ⟨_, rfl⟩
      rw [hd] at hcc HFS
      have HCC := Lib.hid hcc
      have i3 : IntKind.i64.wrap ((i : Int) + 1) = ((i + 1 : Nat) : Int) := by rw [IntWalk.i64_in _ (by have := HI.out; have := HLEN.out; have := HN.out; omega)]; omega
      clear hcc hd
      go_wp2_with ((with_reducible refine step_load (o := ⟨some 21, _, _, _, _, _⟩) (x := .tmp 7) ?_ ?_ ?_ VB.out Try.underlying40 ?_ (HIN.out _) ?_); (rfl); (rfl); (rfl); (rfl))
      refine HCC.out.mono ?_
      rintro e w4 ⟨rfl, hb⟩
      have HA4 := Lib.hid (HA3.out.bel hb)
      have HB4 := Lib.hid (HB3.out.trans (hb.mono HB3.out.size))
      have VB4 := Lib.hid (VB.out.below hb)
      clear hb HCC HA3 HB3 VB HVB HX HA2 HB
      cases d with
      | false =>
        go_wp2_with fail
        go_roundw
        case rel => exact ⟨i + 1, m, ks, A2, c2, HI.out, rfl, by first | rfl | (simp; omega), Lib.hid ⟨HL2.out.1, by have := HL2.out.2; omega⟩, Lib.hid (by rw [HFS.out]; simp), HA4, HB4⟩
        case measure => have := HI.out; simp [intOf]; omega
      | true =>
        obtain ⟨A6, c6, w6, hrun, hacc6, hg6⟩ := accr_push (P := Try.prog) (ty := 62) kyc_length kyc_one (by omega) HA4.out x.p.k Try.underlying62 infoKy18 rfl HB4.out.size (by have := HL2.out; have := HI.out; have := HLEN.out; have := HN.out; omega) (by have := HL2.out; have := HI.out; have := HLEN.out; have := HN.out; omega)
        rw [HL2.out.1] at hrun
        have HRUN := Lib.hid hrun
        have HA6 := Lib.hid hacc6
        have HB6 := Lib.hid (show Below w9.heap.size w9 w6 from belr_acc HB4.out HA4.out hg6)
        clear hrun hacc6 hg6
        have x0 : w4.cell? ⟨wr.heap.size, 0, none⟩ = some (.int .i64 x.p.k.tail) := VB4.out.cell 0
        have x1 : w4.cell? ⟨wr.heap.size, 1, none⟩ = some (.int .i64 x.p.k.tun) := VB4.out.cell 1
        have x2 : w4.cell? ⟨wr.heap.size, 2, none⟩ = some (.int .i64 x.p.k.head) := VB4.out.cell 2
        have x3 : w4.cell? ⟨wr.heap.size, 3, none⟩ = some (.int .i64 x.p.k.lsp) := VB4.out.cell 3
        go_wp2_with (first | (refine step_build18 (o := ⟨some 26, _, _, _, _, _⟩) (x := .tmp 25) (vs := kyc x.p.k) rfl rfl rfl Try.underlying62 (HIZ.out _) (by rw [kyc_length]; decide) (by rw [kyc_length]; decide) ?_) | (at_builtin; refine step_append (o := ⟨some 27, _, _, _, _, _⟩) rfl rfl rfl rfl HRUN.out ?_))
        go_roundw
        case rel => exact ⟨i + 1, m + 1, ks ++ [x.p.k], A6, c6, HI.out, rfl, by first | rfl | (simp; omega), Lib.hid ⟨by rw [List.length_append, HL2.out.1]; rfl, by have := HL2.out.2; omega⟩, Lib.hid (by rw [HFS.out]; simp), HA6, HB6⟩
        case measure => have := HI.out; simp [intOf]; omega
    · have i1 : ¬ (i : Int) < (n : Int) := by omega
      obtain rfl : i = n := by omega
      clear hin hi
      go_wp2_with fail
      go_ret
      have hks := HP2.out
      rw [List.take_of_length_le (by rw [HN.out]; exact Nat.le_refl _)] at hks
      rw [HRR.out] at hks
      rw [← hks]
      exact ⟨A2, c2, by rw [HL2.out.1]; rfl, HA2.out, HB.out⟩
theorem latef18_calls (x : Ss) (now : Int) (t : Nat) (w : World) (ht : Blk w t 3 [.int .i64 now]) : Calls Try.prog 49 #[.agg (ssc x).toArray, .pointer (some ⟨t, 0, none⟩)] w fun e w' => e = .returned (.bool (decide (x.p.un < now))) ∧ Below w.heap.size w w' := by
  have bz := bel_new (Below.refl w.heap.size w) (.cells (ssc x).toArray 40)
  have HL := Lib.hid bz
  have HB := Lib.hid (Blk.new w 40 (ssc x))
  have HT := Lib.hid (ht.below bz)
  clear bz ht
  go_enter Try.func49, Try.ntmps49
  go_upto_region 1 with fail
  generalize (w.alloc (.cells (ssc x).toArray 40)) = w1 at *
  have x12 : w1.cell? ⟨w.heap.size, 12, none⟩ = some (.int .i64 x.p.un) := HB.out.cell 12
  have t0 : w1.cell? ⟨t, 0, none⟩ = some (.int .i64 now) := HT.out.cell 0
  go_wp2_with fail
  go_ret
  exact ⟨rfl, HL.out⟩
theorem lapsf18_calls (x : Ss) (now : Int) (t : Nat) (w : World) (ht : Blk w t 3 [.int .i64 now]) : Calls Try.prog 50 #[.agg (ssc x).toArray, .pointer (some ⟨t, 0, none⟩)] w fun e w' => e = .returned (.bool (x.p.ob != 0 && decide (x.p.kp < now))) ∧ Below w.heap.size w w' := by
  have bz := bel_new (Below.refl w.heap.size w) (.cells (ssc x).toArray 40)
  have HL := Lib.hid bz
  have HB := Lib.hid (Blk.new w 40 (ssc x))
  have HT := Lib.hid (ht.below bz)
  obtain ⟨d, hd⟩ : ∃ d, (x.p.ob != 0) = d := ⟨_, rfl⟩
  rw [hd]
  clear bz ht
  go_enter Try.func50, Try.ntmps50
  go_upto_region 1 with fail
  generalize (w.alloc (.cells (ssc x).toArray 40)) = w1 at *
  have x14 : w1.cell? ⟨w.heap.size, 14, none⟩ = some (.int .i64 x.p.ob) := HB.out.cell 14
  have x15 : w1.cell? ⟨w.heap.size, 15, none⟩ = some (.int .i64 x.p.kp) := HB.out.cell 15
  have t0 : w1.cell? ⟨t, 0, none⟩ = some (.int .i64 now) := HT.out.cell 0
  cases d with
  | true =>
    go_wp2_with fail
    go_ret
    exact ⟨rfl, HL.out⟩
  | false =>
    go_wp2_with fail
    go_ret
    exact ⟨rfl, HL.out⟩
theorem late18c_calls (q most : Nat) (l : List Sp) (S : List Nat) (now : Int) (w : World) (h : TbC18 w q most l S) : Calls Try.prog 25 #[.pointer (some ⟨q, 0, none⟩), .int .i64 now] w (Kys18 (late18 l now) w) := by
  have he : ∀ (args : Array Value) (w : World), (callFunc 49 args).run Try.prog w = .ok (.enter 49 args) w := enters_of Try.func49 (by kernel_rfl) rfl
  have bz := bel_new (Below.refl w.heap.size w) (.cells #[.int .i64 now] 3)
  have hb : Blk (w.alloc (.cells #[.int .i64 now] 3)) w.heap.size 3 [.int .i64 now] := Blk.new w _ _
  have hk := keys18_calls 49 q most w.heap.size (fun s => decide (s.un < now)) l S _ (h.below bz) he (fun x W hW => latef18_calls x now w.heap.size W (hb.below hW))
  have HL := Lib.hid bz
  have HK := Lib.hid (show Calls Try.prog 48 #[.pointer (some ⟨q, 0, none⟩), .func (.func 49) #[] #[.pointer (some ⟨w.heap.size, 0, none⟩)]] (w.alloc (.cells #[.int .i64 now] 3)) (Kys18 (late18 l now) (w.alloc (.cells #[.int .i64 now] 3))) from hk)
  clear bz hb hk he h
  go_enter Try.func25, Try.ntmps25
  go_upto_region 1 with fail
  generalize (w.alloc (.cells #[.int .i64 now] 3)) = w1 at *
  go_wp2_with fail
  ((with_reducible refine HK.out.mono ?_))
  unfold Kys18
  rintro e w2 ⟨A, c, rfl, hacc, hb⟩
  have HA := Lib.hid (hacc.lower HL.out.size)
  have HB := Lib.hid (HL.out.trans (hb.mono HL.out.size))
  clear hacc hb HK
  go_wp2_with fail
  go_ret
  exact ⟨A, c, rfl, HA.out, HB.out⟩
theorem lapsed18c_calls (q most : Nat) (l : List Sp) (S : List Nat) (now : Int) (w : World) (h : TbC18 w q most l S) : Calls Try.prog 27 #[.pointer (some ⟨q, 0, none⟩), .int .i64 now] w (Kys18 (laps18 l now) w) := by
  have he : ∀ (args : Array Value) (w : World), (callFunc 50 args).run Try.prog w = .ok (.enter 50 args) w := enters_of Try.func50 (by kernel_rfl) rfl
  have bz := bel_new (Below.refl w.heap.size w) (.cells #[.int .i64 now] 3)
  have hb : Blk (w.alloc (.cells #[.int .i64 now] 3)) w.heap.size 3 [.int .i64 now] := Blk.new w _ _
  have hk := keys18_calls 50 q most w.heap.size (fun s => (s.ob != 0 && decide (s.kp < now))) l S _ (h.below bz) he (fun x W hW => lapsf18_calls x now w.heap.size W (hb.below hW))
  have HL := Lib.hid bz
  have HK := Lib.hid (show Calls Try.prog 48 #[.pointer (some ⟨q, 0, none⟩), .func (.func 50) #[] #[.pointer (some ⟨w.heap.size, 0, none⟩)]] (w.alloc (.cells #[.int .i64 now] 3)) (Kys18 (laps18 l now) (w.alloc (.cells #[.int .i64 now] 3))) from hk)
  clear bz hb hk he h
  go_enter Try.func27, Try.ntmps27
  go_upto_region 1 with fail
  generalize (w.alloc (.cells #[.int .i64 now] 3)) = w1 at *
  go_wp2_with fail
  ((with_reducible refine HK.out.mono ?_))
  unfold Kys18
  rintro e w2 ⟨A, c, rfl, hacc, hb⟩
  have HA := Lib.hid (hacc.lower HL.out.size)
  have HB := Lib.hid (HL.out.trans (hb.mono HL.out.size))
  clear hacc hb HK
  go_wp2_with fail
  go_ret
  exact ⟨A, c, rfl, HA.out, HB.out⟩
theorem len18_calls (q most : Nat) (l : List Sp) (S : List Nat) (w : World) (h : TbC18 w q most l S) : Calls Try.prog 23 #[.pointer (some ⟨q, 0, none⟩)] w fun e w' => e = .returned (.int .i64 (l.length : Int)) ∧ w' = w := by
  obtain ⟨ls, A, c, ht, rfl⟩ := h
  have HM := Lib.hid ht.made
  have q1 : w.cell? ⟨q, 1, none⟩ = some (.slice A ls.length c) := ht.blk.cell 1
  rw [List.length_map]
  clear ht
  go_enter Try.func23, Try.ntmps23
  go_wp2_with fail
  ((with_reducible refine HM.out.mono ?_))
  rintro e w9 ⟨rfl, rfl⟩
  go_wp2_with fail
  go_ret
  exact ⟨rfl, rfl⟩
end Go.Proofs.Ytogijfebfffobaa
