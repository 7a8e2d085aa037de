/-
  The document's answers of layer 18 (viaductref18): Has, Get, Drop, Put, Late, Lapsed. Condition: what comes in reads as a list; at most 2^20 states.
-/
import Derived.Test.YtogijfebfffobaaSofC
import Derived.Test.YtogijfebfffobaaSofD
import Derived.Test.YtogijfebfffobaaSofR
import Derived.Test.YtogijfebfffobaaAdmAH
import Derived.Deep.CutBlock
namespace Go.Proofs.Ytogijfebfffobaa
set_option maxRecDepth 100000
set_option linter.unusedVariables false
open Go.RowKit

/-- A key, and what it has in memory beside a row of states. -/
abbrev kf18 (s : Ss) : Ky := s.p.k
theorem any_snoc18 {l : List Ss} {i : Nat} {x : Ss} (hx : l[i]? = some x) {k : Ky} (h : ∀ y ∈ l.take i, y.p.k ≠ k) (hk : x.p.k ≠ k) : ∀ y ∈ l.take (i + 1), y.p.k ≠ k := by
  intro y hy
  rw [List.take_add_one, hx, List.mem_append] at hy
  rcases hy with hy | hy
  · exact h y hy
  · obtain rfl := List.mem_singleton.1 (by simpa using hy)
    exact hk
theorem get18_at {l : List Ss} {i : Nat} {x : Ss} (hx : l[i]? = some x) {k : Ky} (h : ∀ y ∈ l.take i, y.p.k ≠ k) (hk : x.p.k = k) : get18 kf18 l k = some x := by
  obtain ⟨hi, he⟩ := List.getElem?_eq_some_iff.1 hx
  have e : l = l.take i ++ x :: l.drop (i + 1) := by rw [← he, List.getElem_cons_drop, List.take_append_drop]
  unfold get18
  rw [e, List.find?_append, List.find?_eq_none.2 (fun y hy => by simpa using h y hy)]
  simp [kf18, hk]
theorem get18_not {l : List Ss} {k : Ky} (h : ∀ y ∈ l, y.p.k ≠ k) : get18 kf18 l k = none := List.find?_eq_none.2 fun y hy => by simpa using h y hy
theorem has18_at {l : List Ss} {i : Nat} {x : Ss} (hx : l[i]? = some x) {k : Ky} (hk : x.p.k = k) : has18 kf18 l k = true := List.any_eq_true.2 ⟨x, List.mem_of_getElem? hx, by simp [hk]⟩
theorem has18_not {l : List Ss} {k : Ky} (h : ∀ y ∈ l, y.p.k ≠ k) : has18 kf18 l k = false := List.any_eq_false.2 fun y hy => by simpa using h y hy
theorem drp18_snoc {l : List Ss} {i : Nat} {x : Ss} (hx : l[i]? = some x) (k : Ky) : drp18 kf18 (l.take (i + 1)) k = if x.p.k = k then drp18 kf18 (l.take i) k else drp18 kf18 (l.take i) k ++ [x] := by
  unfold drp18
  rw [List.take_add_one, hx, List.filter_append]
  by_cases h : x.p.k = k <;> simp [h]
theorem drp18_not {l : List Ss} {k : Ky} (h : has18 kf18 l k = false) : drp18 kf18 l k = l := by
  unfold has18 at h
  unfold drp18
  exact List.filter_eq_self.2 fun y hy => by simpa using List.any_eq_false.1 h y hy
theorem ins18_cons {y s : Ss} {l : List Ss} (h : kBef s.p.k y.p.k = false) : ins18 kf18 (y :: l) s = y :: ins18 kf18 l s := by
  unfold ins18
  rw [List.takeWhile_cons_of_pos (by simp [h]), List.dropWhile_cons_of_pos (by simp [h])]; rfl
theorem ins18_hit {y s : Ss} {l : List Ss} (h : kBef s.p.k y.p.k = true) : ins18 kf18 (y :: l) s = s :: y :: l := by
  unfold ins18
  rw [List.takeWhile_cons_of_neg (by simp [h]), List.dropWhile_cons_of_neg (by simp [h])]; rfl
theorem ins18_more {s : Ss} {r : List Ss} : ∀ {l : List Ss}, (∃ y ∈ l, kBef s.p.k y.p.k = true) → ins18 kf18 (l ++ r) s = ins18 kf18 l s ++ r
  | [], h => by obtain ⟨y, hy, _⟩ := h; simp at hy
  | x :: l, h => by
    cases hx : kBef s.p.k x.p.k with
    | true => rw [List.cons_append, ins18_hit hx, ins18_hit hx]; rfl
    | false =>
      rw [List.cons_append, ins18_cons hx, ins18_cons hx, List.cons_append, ins18_more (l := l) (by
        obtain ⟨y, hy, hk⟩ := h
        rcases List.mem_cons.1 hy with rfl | hy
        · rw [hx] at hk; cases hk
        · exact ⟨y, hy, hk⟩)]
theorem ins18_end {s : Ss} {r : List Ss} : ∀ {l : List Ss}, (∀ y ∈ l, kBef s.p.k y.p.k = false) → ins18 kf18 (l ++ r) s = l ++ ins18 kf18 r s
  | [], _ => rfl
  | x :: l, h => by rw [List.cons_append, ins18_cons (h x (by simp)), ins18_end (l := l) (fun y hy => h y (by simp [hy]))]; rfl
theorem ins18_nil (s : Ss) : ins18 kf18 [] s = [s] := rfl
/-- What the document's Put, Drop leave and answer, over states as they lie. -/
def rput18 (most : Nat) (l : List Ss) (s : Ss) : List Ss × Int :=
  if may18 s.p = false then (l, 2) else if has18 kf18 l s.p.k = false ∧ most ≤ l.length then (l, 7) else (put18 kf18 l s, 0)
def rdrop18 (l : List Ss) (k : Ky) : List Ss × Int := if has18 kf18 l k = true then (drp18 kf18 l k, 0) else (l, 8)
theorem rput18_plain (most : Nat) (l : List Ss) (s : Ss) : cput18 most (l.map (·.p)) s.p = ((rput18 most l s).1.map (·.p), (rput18 most l s).2) := by
  have h1 : has18 Sp.k (l.map (·.p)) s.p.k = has18 kf18 l s.p.k := (has18_map (kf := Sp.k) Ss.p l s.p.k).symm
  have h2 : put18 Sp.k (l.map (·.p)) s.p = (put18 kf18 l s).map (·.p) := (put18_map (kf := Sp.k) Ss.p l s).symm
  unfold cput18 rput18
  rw [h1, h2, List.length_map]
  split
  · rfl
  · split <;> rfl
theorem rdrop18_plain (l : List Ss) (k : Ky) : cdrop18 (l.map (·.p)) k = ((rdrop18 l k).1.map (·.p), (rdrop18 l k).2) := by
  have h1 : has18 Sp.k (l.map (·.p)) k = has18 kf18 l k := (has18_map (kf := Sp.k) Ss.p l k).symm
  have h2 : drp18 Sp.k (l.map (·.p)) k = (drp18 kf18 l k).map (·.p) := (drp18_map (kf := Sp.k) Ss.p l k).symm
  unfold cdrop18 rdrop18
  rw [h1, h2]
  split <;> rfl
/-- A table of the document's that a call answers: the same, or a slice that it gathered. -/
def Rtb18 (A : Option Addr) (n c most : Nat) (ls : List Ss) (r : List Ss × Int) (w : World) (e : Ending) (w' : World) : Prop :=
  Below w.heap.size w w' ∧ ((r.1 = ls ∧ e = .returned (.tuple #[.agg #[.slice A n c, .int .i64 (most : Int)], .int .i64 r.2])) ∨
    ∃ A' c', e = .returned (.tuple #[.agg #[.slice A' r.1.length c', .int .i64 (most : Int)], .int .i64 r.2]) ∧ AccR ssc 17 w' w.heap.size 37 A' c' r.1)
theorem infoRt18 : (Try.prog.info? 28).map (·.size) = some 2 := by kernel_rfl
set_option maxHeartbeats 3200000 in
theorem rhast18_calls (A : Option Addr) (n c most : Nat) (ls : List Ss) (k : Ky) (w : World) (h : Row ssc w w.heap.size A n ls) (hn : n ≤ 1048576) :
    Calls Try.prog 45 #[.agg #[.slice A n c, .int .i64 (most : Int)], .agg #[.int .i64 k.tail, .int .i64 k.tun, .int .i64 k.head, .int .i64 k.lsp]] w (Yes14 (has18 kf18 ls k) w) := by
  have bz := bel_new (bel_new (Below.refl w.heap.size w) (.cells #[.slice A n c, .int .i64 (most : Int)] 28)) (.cells #[.int .i64 k.tail, .int .i64 k.tun, .int .i64 k.head, .int .i64 k.lsp] 30)
  have b1 : Blk ((w.alloc (.cells #[.slice A n c, .int .i64 (most : Int)] 28)).alloc (.cells #[.int .i64 k.tail, .int .i64 k.tun, .int .i64 k.head, .int .i64 k.lsp] 30)) w.heap.size 28 [.slice A n c, .int .i64 (most : Int)] := (Blk.new w 28 [.slice A n c, .int .i64 (most : Int)]).alloc _
  have b2 : Blk ((w.alloc (.cells #[.slice A n c, .int .i64 (most : Int)] 28)).alloc (.cells #[.int .i64 k.tail, .int .i64 k.tun, .int .i64 k.head, .int .i64 k.lsp] 30)) (w.alloc (.cells #[.slice A n c, .int .i64 (most : Int)] 28)).heap.size 30 (kyc k) := Blk.new (w.alloc (.cells #[.slice A n c, .int .i64 (most : Int)] 28)) 30 (kyc k)
  rw [show (w.alloc (.cells #[.slice A n c, .int .i64 (most : Int)] 28)).heap.size = w.heap.size + 1 by simp] at b2
  have HL := Lib.hid bz
  have HT0 := Lib.hid (And.intro b1 b2)
  have HR := Lib.hid ((h.below bz).more bz.size)
  have HNN := Lib.hid hn
  obtain ⟨R, hR⟩ : ∃ R, has18 kf18 ls k = R := ⟨_, rfl⟩
  rw [hR]
  have HRR := Lib.hid hR
  unfold Yes14
  clear bz b1 b2 h hR
  go_enter Try.func45, Try.ntmps45
  go_upto_region 1 with fail
  generalize ((w.alloc (.cells #[.slice A n c, .int .i64 (most : Int)] 28)).alloc (.cells #[.int .i64 k.tail, .int .i64 k.tun, .int .i64 k.head, .int .i64 k.lsp] 30)) = w1 at *
  go_wp2_with fail
  go_loopw [5] (fun u W => ∃ i : Nat, i ≤ n ∧ u = .int .i64 (i : Int) ∧ Hid (∀ y ∈ ls.take i, y.p.k ≠ k) ∧ Hid (Below w1.heap.size w1 W)) (fun u W => n - (intOf u).toNat)
  case atStart => exact ⟨0, Nat.zero_le _, rfl, Lib.hid (fun y hy => by simp at hy), Lib.hid (Below.refl _ _)⟩
  case round =>
    obtain ⟨i, hi, rfl, HM, HB⟩ := hrel
    have ht0 : wr.cell? ⟨w.heap.size, 0, none⟩ = some (.slice A n c) := (HT0.out.1.below HB.out).cell 0
    by_cases hin : i < n
    · have i1 : (i : Int) < (n : Int) := by omega
      obtain ⟨b, o, x, rfl, hx, hbb, hc⟩ := row_key18 HR.out hin
      have HX := Lib.hid hx
      have HI := Lib.hid hin
      have HC := Lib.hid (fun W (hW : Below wr.heap.size wr W) => hc W (HB.out.trans (hW.mono HB.out.size)))
      have HT := Lib.hid (fun W (hW : Below wr.heap.size wr W) => And.intro (HT0.out.1.below (HB.out.trans (hW.mono HB.out.size))) (HT0.out.2.below (HB.out.trans (hW.mono HB.out.size))))
      have i3 : IntKind.i64.wrap ((i : Int) + 1) = ((i + 1 : Nat) : Int) := by rw [IntWalk.i64_in _ (by have := HNN.out; omega)]; omega
      have i0 : ¬ (i : Int) < 0 := by omega
      obtain ⟨d, hd⟩ : ∃ d, decide (x.p.k = k) = d := ⟨_, rfl⟩
      have hek := fun W => (eq_ky x.p.k k W).1
      rw [hd] at hek
      have HEK := Lib.hid hek
      have HD := Lib.hid hd
      have HS0 := Lib.hid (show Below wr.heap.size wr wr.drew from (Below.refl _ _).drew)
      clear hx hbb hc hd hek hin hi
      go_wp2_with fail
      clear ht0
      refine region_seq (fun W => Below wr.heap.size wr W) [(0, true), (1, true), (2, true), (3, true), (4, true), (5, true), (6, true), (7, true)] (by kernel_rfl) (by kernel_rfl) (by kernel_rfl) (by kernel_rfl) (fun _ _ _ _ _ h => h) HS0.out ?_
      repeat first
        | refine seq_eqA (xs := kyc x.p.k) (ys := kyc k) (c := d) rfl (by rfl) rfl rfl rfl (by kernel_rfl) HEK.out ?_
          simp only [Act.put, List.setIfInBounds_toArray, List.set_cons_zero, List.set_cons_succ]
        | refine seq_pure (v := ?_) rfl (by rfl) (fun W hW => ?_) ?_
          rotate_left
          · obtain ⟨h1, h2⟩ := HT.out W hW
            have t0 : W.cell? ⟨w.heap.size, 0, none⟩ = some (.slice (some ⟨b, o, none⟩) n c) := h1.cell 0
            have k0 : W.cell? ⟨w.heap.size + 1, 0, none⟩ = some (.int .i64 k.tail) := h2.cell 0
            have k1 : W.cell? ⟨w.heap.size + 1, 1, none⟩ = some (.int .i64 k.tun) := h2.cell 1
            have k2 : W.cell? ⟨w.heap.size + 1, 2, none⟩ = some (.int .i64 k.head) := h2.cell 2
            have k3 : W.cell? ⟨w.heap.size + 1, 3, none⟩ = some (.int .i64 k.lsp) := h2.cell 3
            have z0 : W.cell? ⟨b, o + i * 17, none⟩ = some (.int .i64 x.p.k.tail) := HC.out W hW 0 _ rfl
            have z1 : W.cell? ⟨b, o + i * 17 + 1, none⟩ = some (.int .i64 x.p.k.tun) := HC.out W hW 1 _ rfl
            have z2 : W.cell? ⟨b, o + i * 17 + 2, none⟩ = some (.int .i64 x.p.k.head) := HC.out W hW 2 _ rfl
            have z3 : W.cell? ⟨b, o + i * 17 + 3, none⟩ = some (.int .i64 x.p.k.lsp) := HC.out W hW 3 _ rfl
            clear h1 h2
            clear hW
            go_simp
            with_reducible rfl
          simp only [Act.put, List.setIfInBounds_toArray, List.set_cons_zero, List.set_cons_succ]
        | refine seq_skip rfl (by rfl) ?_
          simp only [Act.put, List.setIfInBounds_toArray, List.set_cons_zero, List.set_cons_succ]
      refine seq_done ?_
      have HB2 := Lib.hid (show Below w1.heap.size w1 wr.drew from HB.out.drew)
      clear HEK
      cases d with
      | true =>
        have hr : R = true := by rw [← HRR.out]; exact has18_at HX.out (of_decide_eq_true HD.out)
        subst hr
        go_wp2_with fail
        go_ret
        exact ⟨rfl, HL.out.trans (HB2.out.mono HL.out.size)⟩
      | false =>
        have HM2 := Lib.hid (any_snoc18 HX.out HM.out (of_decide_eq_false HD.out))
        go_wp2_with fail
        go_roundw
        case rel => exact ⟨i + 1, HI.out, by first | rfl | (simp; omega), HM2, HB2⟩
        case measure => have := HI.out; simp [intOf]; omega
    · obtain rfl : i = n := by omega
      have i1 : ¬ (i : Int) < (i : Int) := by omega
      have hm := HM.out
      rw [List.take_of_length_le (by rw [HR.out.1]; exact Nat.le_refl _)] at hm
      have hr : R = false := by rw [← HRR.out]; exact has18_not hm
      subst hr
      clear hin hi hm
      go_wp2_with fail
      go_ret
      exact ⟨rfl, HL.out.trans (HB.out.mono HL.out.size)⟩
/-- What the document's Get answers. -/
def Rgt18 (o : Option Ss) (w : World) (e : Ending) (w' : World) : Prop :=
  e = .returned (.tuple #[.agg (ssc (o.getD z18)).toArray, .int .i64 (match o with | some _ => 0 | none => 8)]) ∧ Below w.heap.size w w'
set_option maxHeartbeats 3200000 in
theorem rget18_calls (A : Option Addr) (n c most : Nat) (ls : List Ss) (k : Ky) (w : World) (h : Row ssc w w.heap.size A n ls) (hn : n ≤ 1048576) :
    Calls Try.prog 10 #[.agg #[.slice A n c, .int .i64 (most : Int)], .agg #[.int .i64 k.tail, .int .i64 k.tun, .int .i64 k.head, .int .i64 k.lsp]] w (Rgt18 (get18 kf18 ls k) w) := by
  have bz := bel_new (bel_new (Below.refl w.heap.size w) (.cells #[.slice A n c, .int .i64 (most : Int)] 28)) (.cells #[.int .i64 k.tail, .int .i64 k.tun, .int .i64 k.head, .int .i64 k.lsp] 30)
  have b1 : Blk ((w.alloc (.cells #[.slice A n c, .int .i64 (most : Int)] 28)).alloc (.cells #[.int .i64 k.tail, .int .i64 k.tun, .int .i64 k.head, .int .i64 k.lsp] 30)) w.heap.size 28 [.slice A n c, .int .i64 (most : Int)] := (Blk.new w 28 [.slice A n c, .int .i64 (most : Int)]).alloc _
  have b2 : Blk ((w.alloc (.cells #[.slice A n c, .int .i64 (most : Int)] 28)).alloc (.cells #[.int .i64 k.tail, .int .i64 k.tun, .int .i64 k.head, .int .i64 k.lsp] 30)) (w.alloc (.cells #[.slice A n c, .int .i64 (most : Int)] 28)).heap.size 30 (kyc k) := Blk.new (w.alloc (.cells #[.slice A n c, .int .i64 (most : Int)] 28)) 30 (kyc k)
  rw [show (w.alloc (.cells #[.slice A n c, .int .i64 (most : Int)] 28)).heap.size = w.heap.size + 1 by simp] at b2
  have b3 : Blk ((((w.alloc (.cells #[.slice A n c, .int .i64 (most : Int)] 28)).alloc (.cells #[.int .i64 k.tail, .int .i64 k.tun, .int .i64 k.head, .int .i64 k.lsp] 30))).alloc (.cells #[.int .i64 0, .int .i64 0, .int .i64 0, .int .i64 0, .int .u64 0, .int .i64 0, .int .i64 0, .int .u32 0, .int .u32 0, .int .u32 0, .slice none 0 0, .int .i64 0, .int .i64 0, .int .i64 0, .int .i64 0, .int .i64 0, .int .i64 0] 37)) (((w.alloc (.cells #[.slice A n c, .int .i64 (most : Int)] 28)).alloc (.cells #[.int .i64 k.tail, .int .i64 k.tun, .int .i64 k.head, .int .i64 k.lsp] 30))).heap.size 37 (ssc z18) := Blk.new (((w.alloc (.cells #[.slice A n c, .int .i64 (most : Int)] 28)).alloc (.cells #[.int .i64 k.tail, .int .i64 k.tun, .int .i64 k.head, .int .i64 k.lsp] 30))) 37 (ssc z18)
  rw [show (((w.alloc (.cells #[.slice A n c, .int .i64 (most : Int)] 28)).alloc (.cells #[.int .i64 k.tail, .int .i64 k.tun, .int .i64 k.head, .int .i64 k.lsp] 30))).heap.size = w.heap.size + 2 by simp] at b3
  have bz3 := bel_new bz (.cells #[.int .i64 0, .int .i64 0, .int .i64 0, .int .i64 0, .int .u64 0, .int .i64 0, .int .i64 0, .int .u32 0, .int .u32 0, .int .u32 0, .slice none 0 0, .int .i64 0, .int .i64 0, .int .i64 0, .int .i64 0, .int .i64 0, .int .i64 0] 37)
  have HL := Lib.hid bz3
  have HT0 := Lib.hid (And.intro (b1.alloc (.cells #[.int .i64 0, .int .i64 0, .int .i64 0, .int .i64 0, .int .u64 0, .int .i64 0, .int .i64 0, .int .u32 0, .int .u32 0, .int .u32 0, .slice none 0 0, .int .i64 0, .int .i64 0, .int .i64 0, .int .i64 0, .int .i64 0, .int .i64 0] 37)) (b2.alloc (.cells #[.int .i64 0, .int .i64 0, .int .i64 0, .int .i64 0, .int .u64 0, .int .i64 0, .int .i64 0, .int .u32 0, .int .u32 0, .int .u32 0, .slice none 0 0, .int .i64 0, .int .i64 0, .int .i64 0, .int .i64 0, .int .i64 0, .int .i64 0] 37)))
  have HZ := Lib.hid b3
  have HR := Lib.hid ((h.below bz3).more bz3.size)
  have HNN := Lib.hid hn
  have HIN := Lib.hid (fun s : Ss => (show (Try.prog.info? 37).map (·.size) = some (ssc s).length from infoSsR))
  have HON := Lib.hid ssc_one
  obtain ⟨R, hR⟩ : ∃ R, get18 kf18 ls k = R := ⟨_, rfl⟩
  rw [hR]
  have HRR := Lib.hid hR
  clear bz bz3 b1 b2 b3 h hR
  go_enter Try.func10, Try.ntmps10
  go_upto_region 1 with fail
  generalize ((((w.alloc (.cells #[.slice A n c, .int .i64 (most : Int)] 28)).alloc (.cells #[.int .i64 k.tail, .int .i64 k.tun, .int .i64 k.head, .int .i64 k.lsp] 30))).alloc (.cells #[.int .i64 0, .int .i64 0, .int .i64 0, .int .i64 0, .int .u64 0, .int .i64 0, .int .i64 0, .int .u32 0, .int .u32 0, .int .u32 0, .slice none 0 0, .int .i64 0, .int .i64 0, .int .i64 0, .int .i64 0, .int .i64 0, .int .i64 0] 37)) = w1 at *
  go_wp2_with fail
  go_loopw [6] (fun u W => ∃ i : Nat, i ≤ n ∧ u = .int .i64 (i : Int) ∧ Hid (∀ y ∈ ls.take i, y.p.k ≠ k) ∧ Hid (Below w1.heap.size w1 W)) (fun u W => n - (intOf u).toNat)
  case atStart => exact ⟨0, Nat.zero_le _, rfl, Lib.hid (fun y hy => by simp at hy), Lib.hid (Below.refl _ _)⟩
  case round =>
    obtain ⟨i, hi, rfl, HM, HB⟩ := hrel
    have ht0 : wr.cell? ⟨w.heap.size, 0, none⟩ = some (.slice A n c) := (HT0.out.1.below HB.out).cell 0
    have HZr := Lib.hid (HZ.out.below HB.out)
    by_cases hin : i < n
    · have i1 : (i : Int) < (n : Int) := by omega
      obtain ⟨b, o, x, rfl, hx, hbb, hc⟩ := row_key18 HR.out hin
      have HX := Lib.hid hx
      have HI := Lib.hid hin
      have HC := Lib.hid (fun W (hW : Below wr.heap.size wr W) => hc W (HB.out.trans (hW.mono HB.out.size)))
      have HT := Lib.hid (fun W (hW : Below wr.heap.size wr W) => And.intro (HT0.out.1.below (HB.out.trans (hW.mono HB.out.size))) (HT0.out.2.below (HB.out.trans (hW.mono HB.out.size))))
      have i3 : IntKind.i64.wrap ((i : Int) + 1) = ((i + 1 : Nat) : Int) := by rw [IntWalk.i64_in _ (by have := HNN.out; omega)]; omega
      have i0 : ¬ (i : Int) < 0 := by omega
      obtain ⟨d, hd⟩ : ∃ d, decide (x.p.k = k) = d := ⟨_, rfl⟩
      have hek := fun W => (eq_ky x.p.k k W).1
      rw [hd] at hek
      have HEK := Lib.hid hek
      have HD := Lib.hid hd
      have HS0 := Lib.hid (show Below wr.heap.size wr wr.drew from (Below.refl _ _).drew)
      clear hx hbb hc hd hek hin hi
      go_wp2_with fail
      clear ht0
      refine region_seq (fun W => Below wr.heap.size wr W) [(0, true), (1, true), (2, true), (3, true), (4, true), (5, true), (6, true), (7, true)] (by kernel_rfl) (by kernel_rfl) (by kernel_rfl) (by kernel_rfl) (fun _ _ _ _ _ h => h) HS0.out ?_
      repeat first
        | refine seq_eqA (xs := kyc x.p.k) (ys := kyc k) (c := d) rfl (by rfl) rfl rfl rfl (by kernel_rfl) HEK.out ?_
          simp only [Act.put, List.setIfInBounds_toArray, List.set_cons_zero, List.set_cons_succ]
        | refine seq_pure (v := ?_) rfl (by rfl) (fun W hW => ?_) ?_
          rotate_left
          · obtain ⟨h1, h2⟩ := HT.out W hW
            have t0 : W.cell? ⟨w.heap.size, 0, none⟩ = some (.slice (some ⟨b, o, none⟩) n c) := h1.cell 0
            have k0 : W.cell? ⟨w.heap.size + 1, 0, none⟩ = some (.int .i64 k.tail) := h2.cell 0
            have k1 : W.cell? ⟨w.heap.size + 1, 1, none⟩ = some (.int .i64 k.tun) := h2.cell 1
            have k2 : W.cell? ⟨w.heap.size + 1, 2, none⟩ = some (.int .i64 k.head) := h2.cell 2
            have k3 : W.cell? ⟨w.heap.size + 1, 3, none⟩ = some (.int .i64 k.lsp) := h2.cell 3
            have z0 : W.cell? ⟨b, o + i * 17, none⟩ = some (.int .i64 x.p.k.tail) := HC.out W hW 0 _ rfl
            have z1 : W.cell? ⟨b, o + i * 17 + 1, none⟩ = some (.int .i64 x.p.k.tun) := HC.out W hW 1 _ rfl
            have z2 : W.cell? ⟨b, o + i * 17 + 2, none⟩ = some (.int .i64 x.p.k.head) := HC.out W hW 2 _ rfl
            have z3 : W.cell? ⟨b, o + i * 17 + 3, none⟩ = some (.int .i64 x.p.k.lsp) := HC.out W hW 3 _ rfl
            clear h1 h2
            clear hW
            go_simp
            with_reducible rfl
          simp only [Act.put, List.setIfInBounds_toArray, List.set_cons_zero, List.set_cons_succ]
        | refine seq_skip rfl (by rfl) ?_
          simp only [Act.put, List.setIfInBounds_toArray, List.set_cons_zero, List.set_cons_succ]
      refine seq_done ?_
      have HB2 := Lib.hid (show Below w1.heap.size w1 wr.drew from HB.out.drew)
      have HZ2 := Lib.hid (show Blk wr.drew (w.heap.size + 2) 37 (ssc z18) from HZr.out.drew)
      have HXX := Lib.hid (show wr.drew.rangeAt b (o + i * 17) (ssc x) from HC.out _ HS0.out)
      have ht0 : wr.drew.cell? ⟨w.heap.size, 0, none⟩ = some (.slice (some ⟨b, o, none⟩) n c) := (HT.out _ HS0.out).1.cell 0
      clear HEK HS0 HC HT HZr HB
      generalize wr.drew = w2 at *
      cases d with
      | true =>
        have hr : R = some x := by rw [← HRR.out]; exact get18_at HX.out HM.out (of_decide_eq_true HD.out)
        subst hr
        go_wp2_with (first | (refine step_load_at (o := ⟨some 26, _, _, _, _, _⟩) rfl rfl rfl HXX.out Try.underlying37 rfl (HIN.out _) ?_) | ((with_reducible refine step_store (o := ⟨none, _, _, _, _, _⟩) (vs := ssc x) (ty := 37) (x := .tmp 4) (y := .tmp 26) ?_ ?_ ?_ ?_ HZ2.out (HIN.out _) rfl (HON.out _) ?_); (rfl); (rfl); (rfl); (rfl); intro w5 hb5 hg5 hs5))
        refine bodyPost_ret (v := .tuple #[.agg (ssc x).toArray, .int .i64 0]) (results_two8 rfl _ rfl hb5 Try.underlying37 rfl (HIN.out _) rfl) rfl ?_
        exact ⟨rfl, bel_upd (HL.out.trans (HB2.out.mono HL.out.size)) hg5 (Nat.le_refl _) (by omega)⟩
      | false =>
        have HM2 := Lib.hid (any_snoc18 HX.out HM.out (of_decide_eq_false HD.out))
        clear ht0
        go_wp2_with fail
        go_roundw
        case rel => exact ⟨i + 1, HI.out, by first | rfl | (simp; omega), HM2, HB2⟩
        case measure => have := HI.out; simp [intOf]; omega
    · obtain rfl : i = n := by omega
      have i1 : ¬ (i : Int) < (i : Int) := by omega
      have hm := HM.out
      rw [List.take_of_length_le (by rw [HR.out.1]; exact Nat.le_refl _)] at hm
      have hr : R = none := by rw [← HRR.out]; exact get18_not hm
      subst hr
      clear hin hi hm
      go_wp2_with ((with_reducible refine step_store (o := ⟨none, _, _, _, _, _⟩) (vs := ssc z18) (ty := 37) (x := .tmp 4) (y := .tmp 27) ?_ ?_ ?_ ?_ HZr.out (HIN.out _) rfl (HON.out _) ?_); (rfl); (rfl); (rfl); (rfl); intro w5 hb5 hg5 hs5)
      refine bodyPost_ret (v := .tuple #[.agg (ssc z18).toArray, .int .i64 8]) (results_two8 rfl _ rfl hb5 Try.underlying37 rfl (HIN.out _) rfl) rfl ?_
      exact ⟨rfl, bel_upd (HL.out.trans (HB.out.mono HL.out.size)) hg5 (Nat.le_refl _) (by omega)⟩
set_option maxHeartbeats 3200000 in
theorem rdrop18_calls (A : Option Addr) (n c most : Nat) (ls : List Ss) (k : Ky) (w : World) (h : Row ssc w w.heap.size A n ls) (hn : n ≤ 1048576) :
    Calls Try.prog 16 #[.agg #[.slice A n c, .int .i64 (most : Int)], .agg #[.int .i64 k.tail, .int .i64 k.tun, .int .i64 k.head, .int .i64 k.lsp]] w (Rtb18 A n c most ls (rdrop18 ls k) w) := by
  have bz := bel_new (bel_new (Below.refl w.heap.size w) (.cells #[.slice A n c, .int .i64 (most : Int)] 28)) (.cells #[.int .i64 k.tail, .int .i64 k.tun, .int .i64 k.head, .int .i64 k.lsp] 30)
  have b1 : Blk ((w.alloc (.cells #[.slice A n c, .int .i64 (most : Int)] 28)).alloc (.cells #[.int .i64 k.tail, .int .i64 k.tun, .int .i64 k.head, .int .i64 k.lsp] 30)) w.heap.size 28 [.slice A n c, .int .i64 (most : Int)] := (Blk.new w 28 [.slice A n c, .int .i64 (most : Int)]).alloc _
  have b2 : Blk ((w.alloc (.cells #[.slice A n c, .int .i64 (most : Int)] 28)).alloc (.cells #[.int .i64 k.tail, .int .i64 k.tun, .int .i64 k.head, .int .i64 k.lsp] 30)) (w.alloc (.cells #[.slice A n c, .int .i64 (most : Int)] 28)).heap.size 30 (kyc k) := Blk.new (w.alloc (.cells #[.slice A n c, .int .i64 (most : Int)] 28)) 30 (kyc k)
  rw [show (w.alloc (.cells #[.slice A n c, .int .i64 (most : Int)] 28)).heap.size = w.heap.size + 1 by simp] at b2
  have b3 : Blk ((((w.alloc (.cells #[.slice A n c, .int .i64 (most : Int)] 28)).alloc (.cells #[.int .i64 k.tail, .int .i64 k.tun, .int .i64 k.head, .int .i64 k.lsp] 30))).alloc (.cells #[.slice none 0 0, .int .i64 0] 28)) (((w.alloc (.cells #[.slice A n c, .int .i64 (most : Int)] 28)).alloc (.cells #[.int .i64 k.tail, .int .i64 k.tun, .int .i64 k.head, .int .i64 k.lsp] 30))).heap.size 28 [.slice none 0 0, .int .i64 0] := Blk.new (((w.alloc (.cells #[.slice A n c, .int .i64 (most : Int)] 28)).alloc (.cells #[.int .i64 k.tail, .int .i64 k.tun, .int .i64 k.head, .int .i64 k.lsp] 30))) 28 [.slice none 0 0, .int .i64 0]
  rw [show (((w.alloc (.cells #[.slice A n c, .int .i64 (most : Int)] 28)).alloc (.cells #[.int .i64 k.tail, .int .i64 k.tun, .int .i64 k.head, .int .i64 k.lsp] 30))).heap.size = w.heap.size + 2 by simp] at b3
  have bz3 := bel_new bz (.cells #[.slice none 0 0, .int .i64 0] 28)
  have HL := Lib.hid bz3
  have HT0 := Lib.hid (And.intro (b1.alloc (.cells #[.slice none 0 0, .int .i64 0] 28)) (And.intro (b2.alloc (.cells #[.slice none 0 0, .int .i64 0] 28)) b3))
  have HR := Lib.hid ((h.below bz3).more bz3.size)
  have HNN := Lib.hid hn
  have HIN := Lib.hid (fun s : Ss => (show (Try.prog.info? 37).map (·.size) = some (ssc s).length from infoSsR))
  have HIZ := Lib.hid (fun s : Ss => (show (Try.prog.info? 37).map (fun i => (i.zero, i.size, i.bytes)) = some (some zss, (ssc s).length, 144) from infoSsZR))
  have HIT := Lib.hid (fun a b : Value => (show (Try.prog.info? 28).map (·.size) = some ([a, b] : List Value).length from infoRt18))
  have hone : ∀ (A : Option Addr) (n c : Nat) (m : Int), ∀ u ∈ ([.slice A n c, .int .i64 m] : List Value), u.oneCell' = true := fun A n c m u hu => by
    simp only [List.mem_cons, List.not_mem_nil, or_false] at hu
    rcases hu with rfl | rfl <;> rfl
  have HO1 := Lib.hid hone
  obtain ⟨R, hR⟩ : ∃ R, rdrop18 ls k = R := ⟨_, rfl⟩
  rw [hR]
  have HRR := Lib.hid hR
  unfold Rtb18
  have HHS := Lib.hid (fun W (hW : Row ssc W W.heap.size A n ls) => rhast18_calls A n c most ls k W hW hn)
  clear bz bz3 b1 b2 b3 h hR hone
  go_enter Try.func16, Try.ntmps16
  go_upto_region 1 with fail
  generalize ((((w.alloc (.cells #[.slice A n c, .int .i64 (most : Int)] 28)).alloc (.cells #[.int .i64 k.tail, .int .i64 k.tun, .int .i64 k.head, .int .i64 k.lsp] 30))).alloc (.cells #[.slice none 0 0, .int .i64 0] 28)) = w1 at *
  have t0 : w1.cell? ⟨w.heap.size, 0, none⟩ = some (.slice A n c) := HT0.out.1.cell 0
  have t1 : w1.cell? ⟨w.heap.size, 1, none⟩ = some (.int .i64 (most : Int)) := HT0.out.1.cell 1
  have k0 : w1.cell? ⟨w.heap.size + 1, 0, none⟩ = some (.int .i64 k.tail) := HT0.out.2.1.cell 0
  have k1 : w1.cell? ⟨w.heap.size + 1, 1, none⟩ = some (.int .i64 k.tun) := HT0.out.2.1.cell 1
  have k2 : w1.cell? ⟨w.heap.size + 1, 2, none⟩ = some (.int .i64 k.head) := HT0.out.2.1.cell 2
  have k3 : w1.cell? ⟨w.heap.size + 1, 3, none⟩ = some (.int .i64 k.lsp) := HT0.out.2.1.cell 3
  have hhs := HHS.out w1 HR.out
  unfold Yes14 at hhs
  have HH := Lib.hid hhs
  clear hhs HHS
  go_wp2_with fail
  ((with_reducible refine HH.out.mono ?_))
  rintro e w2 ⟨rfl, hb⟩
  have HT2 := Lib.hid (And.intro (HT0.out.1.below hb) (And.intro (HT0.out.2.1.below hb) (HT0.out.2.2.below hb)))
  have HL2 := Lib.hid (HL.out.trans (hb.mono HL.out.size))
  have HR2 := Lib.hid ((HR.out.below hb).more hb.size)
  clear hb HH HT0 HL HR t0 t1 k0 k1 k2 k3
  cases hv : has18 kf18 ls k with
  | false =>
    have hr : R = (ls, 8) := by rw [← HRR.out]; unfold rdrop18; rw [if_neg (by rw [hv]; simp)]
    have HRX := Lib.hid hr
    clear hv hr
    go_wp2_with (first | ((with_reducible refine step_load (o := ⟨some 12, _, _, _, _, _⟩) (x := .tmp 2) ?_ ?_ ?_ HT2.out.1 Try.underlying28 ?_ (HIT.out _ _) ?_); (rfl); (rfl); (rfl); (rfl)) | ((with_reducible refine step_store (o := ⟨none, _, _, _, _, _⟩) (vs := [.slice A n c, .int .i64 (most : Int)]) (ty := 28) (x := .tmp 4) (y := .tmp 12) ?_ ?_ ?_ ?_ HT2.out.2.2 (HIT.out _ _) rfl (HO1.out _ _ _ _) ?_); (rfl); (rfl); (rfl); (rfl); intro w5 hb5 hg5 hs5))
    refine bodyPost_ret (v := .tuple #[.agg #[.slice A n c, .int .i64 (most : Int)], .int .i64 8]) (results_two8 rfl _ rfl hb5 Try.underlying28 rfl (HIT.out _ _) rfl) rfl ?_
    rw [HRX.out]
    exact ⟨bel_upd HL2.out hg5 (Nat.le_refl _) (by omega), .inl ⟨rfl, rfl⟩⟩
  | true =>
    have hr : R = (drp18 kf18 ls k, 0) := by rw [← HRR.out]; unfold rdrop18; rw [if_pos hv]
    have HRX := Lib.hid hr
    clear hv hr
    go_wp2_with fail
    go_loopw [6, 7] (fun s u W => ∃ (i m : Nat) (l2 : List Ss) (A2 : Option Addr) (c2 : Nat), i ≤ n ∧ s = .slice A2 m c2 ∧ u = .int .i64 (i : Int) ∧ Hid (l2.length = m ∧ m ≤ i) ∧ Hid (drp18 kf18 (ls.take i) k = l2) ∧ Hid (AccR ssc 17 W w2.heap.size 37 A2 c2 l2) ∧ Hid (Below w2.heap.size w2 W)) (fun s u W => n - (intOf u).toNat)
    case atStart => exact ⟨0, 0, [], none, 0, Nat.zero_le _, rfl, rfl, Lib.hid ⟨rfl, Nat.le_refl _⟩, Lib.hid rfl, Lib.hid (AccR.nil _ _ _), Lib.hid (Below.refl _ _)⟩
    case round =>
      obtain ⟨i, m, l2, A2, c2, hi, rfl, rfl, HL3, HP, HA, HB⟩ := hrel
      have ht0 : wr.cell? ⟨w.heap.size, 0, none⟩ = some (.slice A n c) := (HT2.out.1.below HB.out).cell 0
      by_cases hin : i < n
      · have i1 : (i : Int) < (n : Int) := by omega
        obtain ⟨b, o, x, rfl, hx, hbb, hc⟩ := row_key18 HR2.out hin
        have HX := Lib.hid hx
        have HI := Lib.hid hin
        have HC := Lib.hid (fun W (hW : Below wr.heap.size wr W) => hc W (HB.out.trans (hW.mono HB.out.size)))
        have HT := Lib.hid (fun W (hW : Below wr.heap.size wr W) => And.intro (HT2.out.1.below (HB.out.trans (hW.mono HB.out.size))) (HT2.out.2.1.below (HB.out.trans (hW.mono HB.out.size))))
        have i3 : IntKind.i64.wrap ((i : Int) + 1) = ((i + 1 : Nat) : Int) := by rw [IntWalk.i64_in _ (by have := HNN.out; omega)]; omega
        have i0 : ¬ (i : Int) < 0 := by omega
        obtain ⟨d, hd⟩ : ∃ d, decide (x.p.k = k) = d := ⟨_, rfl⟩
        have hek := fun W => (eq_ky x.p.k k W).2
        rw [hd] at hek
        have HEK := Lib.hid hek
        have HD := Lib.hid hd
        have HS0 := Lib.hid (show Below wr.heap.size wr wr.drew from (Below.refl _ _).drew)
        have HDS := Lib.hid (drp18_snoc hx k)
        clear hx hbb hc hd hek hin hi
        go_wp2_with fail
        clear ht0
        refine region_seq (fun W => Below wr.heap.size wr W) [(0, true), (1, true), (2, true), (3, true), (4, true), (5, true), (6, true), (7, true)] (by kernel_rfl) (by kernel_rfl) (by kernel_rfl) (by kernel_rfl) (fun _ _ _ _ _ h => h) HS0.out ?_
        repeat first
          | refine seq_neA (xs := kyc x.p.k) (ys := kyc k) (c := !d) rfl (by rfl) rfl rfl rfl (by kernel_rfl) HEK.out ?_
            simp only [Act.put, List.setIfInBounds_toArray, List.set_cons_zero, List.set_cons_succ]
          | refine seq_pure (v := ?_) rfl (by rfl) (fun W hW => ?_) ?_
            rotate_left
            · obtain ⟨h1, h2⟩ := HT.out W hW
              have t0 : W.cell? ⟨w.heap.size, 0, none⟩ = some (.slice (some ⟨b, o, none⟩) n c) := h1.cell 0
              have k0 : W.cell? ⟨w.heap.size + 1, 0, none⟩ = some (.int .i64 k.tail) := h2.cell 0
              have k1 : W.cell? ⟨w.heap.size + 1, 1, none⟩ = some (.int .i64 k.tun) := h2.cell 1
              have k2 : W.cell? ⟨w.heap.size + 1, 2, none⟩ = some (.int .i64 k.head) := h2.cell 2
              have k3 : W.cell? ⟨w.heap.size + 1, 3, none⟩ = some (.int .i64 k.lsp) := h2.cell 3
              have z0 : W.cell? ⟨b, o + i * 17, none⟩ = some (.int .i64 x.p.k.tail) := HC.out W hW 0 _ rfl
              have z1 : W.cell? ⟨b, o + i * 17 + 1, none⟩ = some (.int .i64 x.p.k.tun) := HC.out W hW 1 _ rfl
              have z2 : W.cell? ⟨b, o + i * 17 + 2, none⟩ = some (.int .i64 x.p.k.head) := HC.out W hW 2 _ rfl
              have z3 : W.cell? ⟨b, o + i * 17 + 3, none⟩ = some (.int .i64 x.p.k.lsp) := HC.out W hW 3 _ rfl
              clear h1 h2
              clear hW
              go_simp
              with_reducible rfl
            simp only [Act.put, List.setIfInBounds_toArray, List.set_cons_zero, List.set_cons_succ]
          | refine seq_skip rfl (by rfl) ?_
            simp only [Act.put, List.setIfInBounds_toArray, List.set_cons_zero, List.set_cons_succ]
        refine seq_done ?_
        have HB3 := Lib.hid (show Below w2.heap.size w2 wr.drew from HB.out.drew)
        have HA3 := Lib.hid (show AccR ssc 17 wr.drew w2.heap.size 37 A2 c2 l2 from HA.out)
        have HXX := Lib.hid (show wr.drew.rangeAt b (o + i * 17) (ssc x) from HC.out _ HS0.out)
        have ht0 : wr.drew.cell? ⟨w.heap.size, 0, none⟩ = some (.slice (some ⟨b, o, none⟩) n c) := (HT.out _ HS0.out).1.cell 0
        clear HEK HS0 HC HT HB HA
        generalize wr.drew = w3 at *
        cases d with
        | true =>
          have HP2 := Lib.hid (show drp18 kf18 (ls.take (i + 1)) k = l2 by rw [HDS.out, if_pos (of_decide_eq_true HD.out)]; exact HP.out)
          simp only [Bool.not_true]
          clear ht0
          go_wp2_with fail
          go_roundw
          case rel => exact ⟨i + 1, m, l2, A2, c2, HI.out, rfl, by first | rfl | (simp; omega), Lib.hid ⟨HL3.out.1, by have := HL3.out.2; omega⟩, HP2, HA3, HB3⟩
          case measure => have := HI.out; simp [intOf]; omega
        | false =>
          obtain ⟨A6, c6, w6, hrun, hacc6, hg6⟩ := accr_push (P := Try.prog) (ty := 26) ssc_length ssc_one (by omega) HA3.out x Try.underlying26 infoSsZR rfl HB3.out.size (by have := HL3.out; have := HI.out; have := HNN.out; omega) (by have := HL3.out; have := HI.out; have := HNN.out; omega)
          rw [HL3.out.1] at hrun
          have HRUN := Lib.hid hrun
          have HA6 := Lib.hid hacc6
          have HB6 := Lib.hid (show Below w2.heap.size w2 w6 from belr_acc HB3.out HA3.out hg6)
          have HP2 := Lib.hid (show drp18 kf18 (ls.take (i + 1)) k = l2 ++ [x] by rw [HDS.out, if_neg (of_decide_eq_false HD.out), HP.out])
          simp only [Bool.not_false]
          clear hrun hacc6 hg6
          go_wp2_with (first | (refine step_load_at (o := ⟨some 33, _, _, _, _, _⟩) rfl rfl rfl HXX.out Try.underlying37 rfl (HIN.out _) ?_) | (refine step_build18 (o := ⟨some 34, _, _, _, _, _⟩) (x := .tmp 33) (vs := ssc x) rfl rfl rfl Try.underlying26 (HIZ.out _) (by rw [ssc_length]; decide) (by rw [ssc_length]; decide) ?_) | (at_builtin; refine step_append (o := ⟨some 35, _, _, _, _, _⟩) rfl rfl rfl rfl HRUN.out ?_))
          go_roundw
          case rel => exact ⟨i + 1, m + 1, l2 ++ [x], A6, c6, HI.out, rfl, by first | rfl | (simp; omega), Lib.hid ⟨by rw [List.length_append, HL3.out.1]; rfl, by have := HL3.out.2; omega⟩, HP2, HA6, HB6⟩
          case measure => have := HI.out; simp [intOf]; omega
      · obtain rfl : i = n := by omega
        have i1 : ¬ (i : Int) < (i : Int) := by omega
        have hp := HP.out
        rw [List.take_of_length_le (by rw [HR2.out.1]; exact Nat.le_refl _)] at hp
        have HPP := Lib.hid hp
        have B1 := Lib.hid (HT2.out.1.below HB.out)
        have B3 := Lib.hid (HT2.out.2.2.below HB.out)
        have f0 := B1.out.free 0
        have LW := Lib.hid (HL2.out.trans (HB.out.mono HL2.out.size))
        clear hin hi hp
        go_upto_region 10 with fail
        have hs := B1.out.set 0 (.slice A2 m c2)
        have hu := upd_set_p wr w.heap.size 0 (.slice A2 m c2)
        have C1 := Lib.hid (show Blk (wr.setCell ⟨w.heap.size, 0, none⟩ (.slice A2 m c2)) w.heap.size 28 [.slice A2 m c2, .int .i64 (most : Int)] from hs)
        have C3 := Lib.hid (B3.out.other (p := ⟨w.heap.size, 0, none⟩) (show w.heap.size ≠ w.heap.size + 2 by omega) (.slice A2 m c2))
        have CA := Lib.hid (AccR.kept HA.out hu (fun x hx e => by have h1 := (HA.out.ge hx).1; have h2 := HL2.out.size; have h3 := HT2.out.2.2.lt; have h4 := Option.some.inj e; omega))
        have CL := Lib.hid (bel_upd LW.out hu (Nat.le_refl _) (Nat.le_refl _))
        clear hs hu f0 ht0
        generalize wr.setCell ⟨w.heap.size, 0, none⟩ (.slice A2 m c2) = w4 at *
        go_wp2_with (first | ((with_reducible refine step_load (o := ⟨some 38, _, _, _, _, _⟩) (x := .tmp 2) ?_ ?_ ?_ C1.out Try.underlying28 ?_ (HIT.out _ _) ?_); (rfl); (rfl); (rfl); (rfl)) | ((with_reducible refine step_store (o := ⟨none, _, _, _, _, _⟩) (vs := [.slice A2 m c2, .int .i64 (most : Int)]) (ty := 28) (x := .tmp 4) (y := .tmp 38) ?_ ?_ ?_ ?_ C3.out (HIT.out _ _) rfl (HO1.out _ _ _ _) ?_); (rfl); (rfl); (rfl); (rfl); intro w5 hb5 hg5 hs5))
        refine bodyPost_ret (v := .tuple #[.agg #[.slice A2 m c2, .int .i64 (most : Int)], .int .i64 0]) (results_two8 rfl _ rfl hb5 Try.underlying28 rfl (HIT.out _ _) rfl) rfl ?_
        rw [HRX.out]
        refine ⟨bel_upd CL.out hg5 (Nat.le_refl _) (by omega), .inr ⟨A2, c2, by rw [HPP.out, HL3.out.1], ?_⟩⟩
        have h2 : w.heap.size ≤ w2.heap.size := HL2.out.size
        rw [HPP.out]
        exact (AccR.kept CA.out hg5 (fun x hx e => by have h1 := (CA.out.ge hx).1; have h3 := HT2.out.2.2.lt; have h4 := Option.some.inj e; omega)).lower h2
end Go.Proofs.Ytogijfebfffobaa
