/-
  Contracts of package tedb: write, Encode. Condition: eight numbers of 64 bits; Seq as large as its type allows; at most 2^30 adverts.
-/
import Derived.Test.YtmfmjdkeoiebpaaTecE
namespace Go.Proofs.Ytmfmjdkeoiebpaa
set_option maxRecDepth 100000
set_option linter.unusedVariables false
open Go.RowKit

/-- A variable of bytes that put has written. -/
def VB15 (w : World) (base p : Nat) (l : List UInt8) : Prop :=
  ∃ A c, Blk w p 52 [.slice A l.length c] ∧ (l = [] ∧ A = none ∧ c = 0 ∨ ∃ g, A = some ⟨g, 0, none⟩ ∧ c = l.length ∧ Own w g l ∧ base ≤ g ∧ g ≠ p)
theorem infoBy15 : (Try.prog.info? 52).map (·.size) = some 1 := by kernel_rfl
/-- What put answers. -/
def Pu15 (base p : Nat) (l : List UInt8) (w : World) (e : Ending) (w' : World) : Prop := e = .returned (.tuple #[]) ∧ VB15 w' base p l ∧ w.grownBy w' (some p)
theorem put15_calls (base p : Nat) (l : List UInt8) (k u : Int) (w : World) (h : VB15 w base p l) (hb : base ≤ w.heap.size) (hlen : l.length ≤ 1073741824) (h1 : 1 ≤ k) (h8 : k ≤ 8) (hu : 0 ≤ u) (hf : u.toNat < 256 ^ k.toNat) :
    Calls Try.prog 52 #[.int .i64 k, .int .u64 u, .pointer (some ⟨p, 0, none⟩)] w (Pu15 base p (l ++ dig k.toNat u.toNat) w) := by
  obtain ⟨A, c, hk, hc⟩ := h
  have hbts : Bts w w.heap.size A l.length l := by
    rcases hc with ⟨rfl, rfl, rfl⟩ | ⟨g, rfl, rfl, ho, _, _⟩
    · exact Bts.nil
    · exact ho.bts ho.lt
  have hput := put_i A l.length c l k u w hbts (by omega) h1 h8 hu hf
  obtain ⟨n, hn⟩ : ∃ n, l.length = n := ⟨_, rfl⟩
  have HK := Lib.hid hk
  rw [hn] at hput hk
  have HP := Lib.hid hput
  have HN := Lib.hid hn
  have HB := Lib.hid hb
  have c0 : w.cell? ⟨p, 0, none⟩ = some (.slice A n c) := hk.cell 0
  unfold Pu15
  clear hput hn hc hbts hk hb hlen hf
  go_enter Try.func52, Try.ntmps52
  go_wp2_with fail
  ((with_reducible refine HP.out.mono ?_))
  rintro e w2 ⟨rfl, ho, hb2⟩
  have B2 := Lib.hid (HK.out.below hb2)
  have O2 := Lib.hid ho
  have L2 := Lib.hid hb2
  clear ho hb2 c0 HP
  have c0 : w2.cell? ⟨p, 0, none⟩ = some (.slice A l.length c) := B2.out.cell 0
  have f0 := B2.out.free 0
  have HH := Lib.hid HK.out.lt
  have L9 := Lib.hid (show w.grownBy (w2.setCell ⟨p, 0, none⟩ (.slice (some ⟨w.heap.size, 0, none⟩) (l.length + k.toNat) (l.length + k.toNat))) (some p) from
    ⟨L2.out.os, L2.out.tape, L2.out.output, by simpa using L2.out.size, fun i hi hne => (Below.heap_setCell _ _ _ _ (fun e => hne (by rw [e]))).trans (L2.out.block i hi)⟩)
  have O9 := Lib.hid (show Own (w2.setCell ⟨p, 0, none⟩ (.slice (some ⟨w.heap.size, 0, none⟩) (l.length + k.toNat) (l.length + k.toNat))) w.heap.size (l ++ dig k.toNat u.toNat) from O2.out.same (Below.heap_setCell _ _ _ _ (by have := HH.out; simp only; omega)))
  have B9 := Lib.hid (B2.out.set 0 (.slice (some ⟨w.heap.size, 0, none⟩) (l.length + k.toNat) (l.length + k.toNat)))
  clear O2 L2 B2
  go_wp2_with fail
  go_end0
  refine ⟨rfl, ⟨some ⟨w.heap.size, 0, none⟩, (l ++ dig k.toNat u.toNat).length, ?_, .inr ⟨w.heap.size, rfl, rfl, O9.out, HB.out, by have := HH.out; omega⟩⟩, L9.out⟩
  rw [List.length_append, dig_length]
  exact B9.out
/-- The bytes of a variable of bytes. -/
theorem VB15.acc {w : World} {base p : Nat} {l : List UInt8} (h : VB15 w base p l) (h0 : l ≠ []) (hl : l.length ≤ 140737488355328) : ∃ g, w.cell? ⟨p, 0, none⟩ = some (.slice (some ⟨g, 0, none⟩) l.length l.length) ∧ Acc w base (some ⟨g, 0, none⟩) l.length l := by
  obtain ⟨A, c, hk, hc⟩ := h
  rcases hc with ⟨e, _⟩ | ⟨g, rfl, rfl, ho, hb, _⟩
  · exact absurd e h0
  · exact ⟨g, hk.cell 0, ho.acc hb hl⟩
def Wr15 (a : Ad) (w : World) (e : Ending) (w' : World) : Prop := ∃ g, e = .returned (.slice (some ⟨g, 0, none⟩) 88 88) ∧ Acc w' w.heap.size (some ⟨g, 0, none⟩) 88 (adB a) ∧ Below w.heap.size w w'
/-- The bytes ahead of the eight numbers, and those of the first p of these. -/
def hd15 (a : Ad) : List UInt8 := dig 1 a.k.f.toNat ++ dig 1 a.k.t.toNat ++ dig 1 (bnum a.up) ++ dig 1 0 ++ dig 4 a.q.toNat ++ dig 8 a.k.c.toNat ++ dig 4 a.k.m.toNat ++ dig 4 a.k.g.toNat
def wr15 (a : Ad) (p : Nat) : List UInt8 := hd15 a ++ (a.f.take p).flatMap (dig 8)
theorem hd15_length (a : Ad) : (hd15 a).length = 24 := by simp [hd15, dig_length]
theorem wr15_snoc (a : Ad) (h : a.f.length = 8) {p : Nat} (hp : p < 8) : wr15 a (p + 1) = wr15 a p ++ dig 8 (a.f.getD p 0) := by
  unfold wr15
  rw [List.take_succ_eq_append_getElem (by omega), List.flatMap_append, List.append_assoc]
  congr 2
  simp [List.getD_eq_getElem?_getD, List.getElem?_eq_getElem (show p < a.f.length by omega)]
theorem wr15_all (a : Ad) (h : a.f.length = 8) : wr15 a 8 = adB a := by
  obtain ⟨f1, f2, f3, f4, f5, f6, f7, f8, hf⟩ := list_eight h
  simp [wr15, hd15, adB, packs, wid15, nums15, hf, List.append_assoc]
theorem wr15_length (a : Ad) (h : a.f.length = 8) {p : Nat} (hp : p ≤ 8) : (wr15 a p).length = 24 + 8 * p := by
  unfold wr15
  rw [List.length_append, hd15_length, List.length_flatMap]
  have : ∀ l : List Nat, (l.map fun x => (dig 8 x).length).sum = 8 * l.length := by
    intro l
    induction l with
    | nil => rfl
    | cons x l ih => rw [List.map_cons, List.sum_cons, ih, dig_length, List.length_cons]; omega
  rw [this, List.length_take, h]; omega
set_option maxHeartbeats 6400000 in
theorem write15_calls (a : Ad) (ha : AdOk a) (hv : vldA a = true) (w : World) : Calls Try.prog 40 #[.agg (adc a).toArray] w (Wr15 a w) := by
  have he : ∀ (args : Array Value) (w : World), (callFunc 52 args).run Try.prog w = .ok (.enter 52 args) w := enters_of Try.func52 (by kernel_rfl) rfl
  have hvh := hv
  unfold vldA at hvh
  rw [Bool.and_eq_true] at hvh
  obtain ⟨v1, v2, v3, v4, v5, v6, v7, v8, v9⟩ := vldH_iff.1 hvh.1
  have hc0 := ha.c0
  have hc1 := ha.c1
  have hg0 := ha.g0
  have hg1 := ha.g1
  have HA := Lib.hid ha
  have hall := wr15_all a ha.len
  have HALL := Lib.hid hall
  have hsn := fun p (hp : p < 8) => wr15_snoc a ha.len hp
  have HSN := Lib.hid hsn
  have HWL := Lib.hid (fun p (hp : p ≤ 8) => wr15_length a ha.len hp)
  have hb1 : Blk (w.alloc (.cells (adc a).toArray 40)) w.heap.size 40 (adc a) := Blk.new w _ _
  have hl1 := bel_new (Below.refl w.heap.size w) (.cells (adc a).toArray 40)
  have hb2 : Blk ((w.alloc (.cells (adc a).toArray 40)).alloc (.cells #[.slice none 0 0] 52)) (w.heap.size + 1) 52 [.slice none 0 0] := by
    have := Blk.new (w.alloc (.cells (adc a).toArray 40)) 52 [.slice none 0 0]
    simpa using this
  have B0 := Lib.hid (hb1.below (bel_new (Below.refl _ _) (.cells #[.slice none 0 0] 52)))
  have V0 := Lib.hid (show VB15 ((w.alloc (.cells (adc a).toArray 40)).alloc (.cells #[.slice none 0 0] 52)) w.heap.size (w.heap.size + 1) [] from ⟨none, 0, hb2, .inl ⟨rfl, rfl, rfl⟩⟩)
  have L0 := Lib.hid (bel_new hl1 (.cells #[.slice none 0 0] 52))
  have HPU := Lib.hid (fun (k u : Int) (l : List UInt8) (W : World) (h : VB15 W w.heap.size (w.heap.size + 1) l) (hb : Below w.heap.size w W) (hlen : l.length ≤ 1073741824) (h1 : 1 ≤ k) (h8 : k ≤ 8) (hu : 0 ≤ u) (hf : u.toNat < 256 ^ k.toNat) => put15_calls w.heap.size (w.heap.size + 1) l k u W h hb.size hlen h1 h8 hu hf)
  unfold Pu15 at HPU
  have HIF := Lib.hid (show (Try.prog.info? 38).map (·.size) = some (fr15 a.f).length from infoF15)
  have HRF := Lib.hid (fun W (h : Blk W w.heap.size 40 (adc a)) => adc_rangeF a.k a.q a.up ha.len h)
  have HLN := Lib.hid (show ∀ p, p < 8 → a.f.getD p 0 < 18446744073709551616 from fun p hp => by
    rw [List.getD_eq_getElem?_getD, List.getElem?_eq_getElem (by rw [ha.len]; exact hp), Option.getD_some]
    exact ha.num _ (List.getElem_mem _))
  clear hb1 hl1 hb2 ha hv hvh hall hsn
  go_enter Try.func40, Try.ntmps40
  go_upto_region 2 with fail
  generalize ((w.alloc (.cells (adc a).toArray 40)).alloc (.cells #[.slice none 0 0] 52)) = w1 at *
  have B1 := Lib.hid B0.out
  have V1 := Lib.hid V0.out
  have L1 := Lib.hid L0.out
  clear B0 V0 L0
  have hp : Calls Try.prog 52 #[.int .i64 1, .int .u64 a.k.f, .pointer (some ⟨w.heap.size + 1, 0, none⟩)] w1 fun e w' => e = .returned (.tuple #[]) ∧ VB15 w' w.heap.size (w.heap.size + 1) (dig 1 a.k.f.toNat) ∧ w1.grownBy w' (some (w.heap.size + 1)) := HPU.out 1 a.k.f (([] : List UInt8)) w1 V1.out L1.out (by simp) (by omega) (by omega) (by first | exact Int.natCast_nonneg _ | omega) (by show a.k.f.toNat < 256; omega)
  have HP := Lib.hid hp
  clear hp
  have y0 : w1.cell? ⟨w.heap.size, 0, none⟩ = some (.int .i64 a.k.f) := B1.out.cell 0
  go_wp2_with fail
  ((with_reducible refine HP.out.mono ?_))
  rintro e w2 ⟨rfl, hv, hg⟩
  have V2 := Lib.hid hv
  have L2 := Lib.hid (bel_upd L1.out hg (Nat.le_refl _) (Nat.le_succ _))
  have B2 := Lib.hid (B1.out.same (hg.block _ B1.out.lt (fun e => by injection e with e; omega)))
  clear hv hg V1 L1 B1 HP y0
  have hp : Calls Try.prog 52 #[.int .i64 1, .int .u64 a.k.t, .pointer (some ⟨w.heap.size + 1, 0, none⟩)] w2 fun e w' => e = .returned (.tuple #[]) ∧ VB15 w' w.heap.size (w.heap.size + 1) (dig 1 a.k.f.toNat ++ dig 1 a.k.t.toNat) ∧ w2.grownBy w' (some (w.heap.size + 1)) := HPU.out 1 a.k.t (dig 1 a.k.f.toNat) w2 V2.out L2.out (by simp [dig_length]) (by omega) (by omega) (by first | exact Int.natCast_nonneg _ | omega) (by show a.k.t.toNat < 256; omega)
  have HP := Lib.hid hp
  clear hp
  have y0 : w2.cell? ⟨w.heap.size, 1, none⟩ = some (.int .i64 a.k.t) := B2.out.cell 1
  go_wp2_with fail
  ((with_reducible refine HP.out.mono ?_))
  rintro e w3 ⟨rfl, hv, hg⟩
  have V3 := Lib.hid hv
  have L3 := Lib.hid (bel_upd L2.out hg (Nat.le_refl _) (Nat.le_succ _))
  have B3 := Lib.hid (B2.out.same (hg.block _ B2.out.lt (fun e => by injection e with e; omega)))
  clear hv hg V2 L2 B2 HP y0
  have hp : Calls Try.prog 52 #[.int .i64 1, .int .u64 ((bnum a.up : Nat) : Int), .pointer (some ⟨w.heap.size + 1, 0, none⟩)] w3 fun e w' => e = .returned (.tuple #[]) ∧ VB15 w' w.heap.size (w.heap.size + 1) (dig 1 a.k.f.toNat ++ dig 1 a.k.t.toNat ++ dig 1 (bnum a.up)) ∧ w3.grownBy w' (some (w.heap.size + 1)) := HPU.out 1 ((bnum a.up : Nat) : Int) (dig 1 a.k.f.toNat ++ dig 1 a.k.t.toNat) w3 V3.out L3.out (by simp [dig_length]) (by omega) (by omega) (by first | exact Int.natCast_nonneg _ | omega) (by cases a.up <;> decide)
  have HP := Lib.hid hp
  clear hp
  have y0 : w3.cell? ⟨w.heap.size, 6, none⟩ = some (.bool a.up) := B3.out.cell 6
  go_wp2_with fail
  ((with_reducible refine (bit15_calls a.up w3).mono ?_))
  rintro e w9 ⟨rfl, rfl⟩
  clear y0
  go_wp2_with fail
  ((with_reducible refine HP.out.mono ?_))
  rintro e w4 ⟨rfl, hv, hg⟩
  have V4 := Lib.hid hv
  have L4 := Lib.hid (bel_upd L3.out hg (Nat.le_refl _) (Nat.le_succ _))
  have B4 := Lib.hid (B3.out.same (hg.block _ B3.out.lt (fun e => by injection e with e; omega)))
  clear hv hg V3 L3 B3 HP
  have hp : Calls Try.prog 52 #[.int .i64 1, .int .u64 0, .pointer (some ⟨w.heap.size + 1, 0, none⟩)] w4 fun e w' => e = .returned (.tuple #[]) ∧ VB15 w' w.heap.size (w.heap.size + 1) (dig 1 a.k.f.toNat ++ dig 1 a.k.t.toNat ++ dig 1 (bnum a.up) ++ dig 1 0) ∧ w4.grownBy w' (some (w.heap.size + 1)) := HPU.out 1 0 (dig 1 a.k.f.toNat ++ dig 1 a.k.t.toNat ++ dig 1 (bnum a.up)) w4 V4.out L4.out (by simp [dig_length]) (by omega) (by omega) (by first | exact Int.natCast_nonneg _ | omega) (by decide)
  have HP := Lib.hid hp
  clear hp
  go_wp2_with fail
  ((with_reducible refine HP.out.mono ?_))
  rintro e w5 ⟨rfl, hv, hg⟩
  have V5 := Lib.hid hv
  have L5 := Lib.hid (bel_upd L4.out hg (Nat.le_refl _) (Nat.le_succ _))
  have B5 := Lib.hid (B4.out.same (hg.block _ B4.out.lt (fun e => by injection e with e; omega)))
  clear hv hg V4 L4 B4 HP
  have hp : Calls Try.prog 52 #[.int .i64 4, .int .u64 a.q, .pointer (some ⟨w.heap.size + 1, 0, none⟩)] w5 fun e w' => e = .returned (.tuple #[]) ∧ VB15 w' w.heap.size (w.heap.size + 1) (dig 1 a.k.f.toNat ++ dig 1 a.k.t.toNat ++ dig 1 (bnum a.up) ++ dig 1 0 ++ dig 4 a.q.toNat) ∧ w5.grownBy w' (some (w.heap.size + 1)) := HPU.out 4 a.q (dig 1 a.k.f.toNat ++ dig 1 a.k.t.toNat ++ dig 1 (bnum a.up) ++ dig 1 0) w5 V5.out L5.out (by simp [dig_length]) (by omega) (by omega) (by first | exact Int.natCast_nonneg _ | omega) (by show a.q.toNat < 4294967296; omega)
  have HP := Lib.hid hp
  clear hp
  have y0 : w5.cell? ⟨w.heap.size, 5, none⟩ = some (.int .i64 a.q) := B5.out.cell 5
  go_wp2_with fail
  ((with_reducible refine HP.out.mono ?_))
  rintro e w6 ⟨rfl, hv, hg⟩
  have V6 := Lib.hid hv
  have L6 := Lib.hid (bel_upd L5.out hg (Nat.le_refl _) (Nat.le_succ _))
  have B6 := Lib.hid (B5.out.same (hg.block _ B5.out.lt (fun e => by injection e with e; omega)))
  clear hv hg V5 L5 B5 HP y0
  have hp : Calls Try.prog 52 #[.int .i64 8, .int .u64 a.k.c, .pointer (some ⟨w.heap.size + 1, 0, none⟩)] w6 fun e w' => e = .returned (.tuple #[]) ∧ VB15 w' w.heap.size (w.heap.size + 1) (dig 1 a.k.f.toNat ++ dig 1 a.k.t.toNat ++ dig 1 (bnum a.up) ++ dig 1 0 ++ dig 4 a.q.toNat ++ dig 8 a.k.c.toNat) ∧ w6.grownBy w' (some (w.heap.size + 1)) := HPU.out 8 a.k.c (dig 1 a.k.f.toNat ++ dig 1 a.k.t.toNat ++ dig 1 (bnum a.up) ++ dig 1 0 ++ dig 4 a.q.toNat) w6 V6.out L6.out (by simp [dig_length]) (by omega) (by omega) (by first | exact Int.natCast_nonneg _ | omega) (by show a.k.c.toNat < 18446744073709551616; omega)
  have HP := Lib.hid hp
  clear hp
  have y0 : w6.cell? ⟨w.heap.size, 2, none⟩ = some (.int .u64 a.k.c) := B6.out.cell 2
  go_wp2_with fail
  ((with_reducible refine HP.out.mono ?_))
  rintro e w7 ⟨rfl, hv, hg⟩
  have V7 := Lib.hid hv
  have L7 := Lib.hid (bel_upd L6.out hg (Nat.le_refl _) (Nat.le_succ _))
  have B7 := Lib.hid (B6.out.same (hg.block _ B6.out.lt (fun e => by injection e with e; omega)))
  clear hv hg V6 L6 B6 HP y0
  have hp : Calls Try.prog 52 #[.int .i64 4, .int .u64 a.k.m, .pointer (some ⟨w.heap.size + 1, 0, none⟩)] w7 fun e w' => e = .returned (.tuple #[]) ∧ VB15 w' w.heap.size (w.heap.size + 1) (dig 1 a.k.f.toNat ++ dig 1 a.k.t.toNat ++ dig 1 (bnum a.up) ++ dig 1 0 ++ dig 4 a.q.toNat ++ dig 8 a.k.c.toNat ++ dig 4 a.k.m.toNat) ∧ w7.grownBy w' (some (w.heap.size + 1)) := HPU.out 4 a.k.m (dig 1 a.k.f.toNat ++ dig 1 a.k.t.toNat ++ dig 1 (bnum a.up) ++ dig 1 0 ++ dig 4 a.q.toNat ++ dig 8 a.k.c.toNat) w7 V7.out L7.out (by simp [dig_length]) (by omega) (by omega) (by first | exact Int.natCast_nonneg _ | omega) (by show a.k.m.toNat < 4294967296; omega)
  have HP := Lib.hid hp
  clear hp
  have y0 : w7.cell? ⟨w.heap.size, 3, none⟩ = some (.int .i64 a.k.m) := B7.out.cell 3
  go_wp2_with fail
  ((with_reducible refine HP.out.mono ?_))
  rintro e w8 ⟨rfl, hv, hg⟩
  have V8 := Lib.hid hv
  have L8 := Lib.hid (bel_upd L7.out hg (Nat.le_refl _) (Nat.le_succ _))
  have B8 := Lib.hid (B7.out.same (hg.block _ B7.out.lt (fun e => by injection e with e; omega)))
  clear hv hg V7 L7 B7 HP y0
  have hp : Calls Try.prog 52 #[.int .i64 4, .int .u64 a.k.g, .pointer (some ⟨w.heap.size + 1, 0, none⟩)] w8 fun e w' => e = .returned (.tuple #[]) ∧ VB15 w' w.heap.size (w.heap.size + 1) (dig 1 a.k.f.toNat ++ dig 1 a.k.t.toNat ++ dig 1 (bnum a.up) ++ dig 1 0 ++ dig 4 a.q.toNat ++ dig 8 a.k.c.toNat ++ dig 4 a.k.m.toNat ++ dig 4 a.k.g.toNat) ∧ w8.grownBy w' (some (w.heap.size + 1)) := HPU.out 4 a.k.g (dig 1 a.k.f.toNat ++ dig 1 a.k.t.toNat ++ dig 1 (bnum a.up) ++ dig 1 0 ++ dig 4 a.q.toNat ++ dig 8 a.k.c.toNat ++ dig 4 a.k.m.toNat) w8 V8.out L8.out (by simp [dig_length]) (by omega) (by omega) (by first | exact Int.natCast_nonneg _ | omega) (by show a.k.g.toNat < 4294967296; omega)
  have HP := Lib.hid hp
  clear hp
  have y0 : w8.cell? ⟨w.heap.size, 4, none⟩ = some (.int .u32 a.k.g) := B8.out.cell 4
  go_wp2_with fail
  ((with_reducible refine HP.out.mono ?_))
  rintro e w9 ⟨rfl, hv, hg⟩
  have V9 := Lib.hid hv
  have L9 := Lib.hid (bel_upd L8.out hg (Nat.le_refl _) (Nat.le_succ _))
  have B9 := Lib.hid (B8.out.same (hg.block _ B8.out.lt (fun e => by injection e with e; omega)))
  clear hv hg V8 L8 B8 HP y0
  have W0 := Lib.hid (show VB15 w9 w.heap.size (w.heap.size + 1) (wr15 a 0) from by
    have := V9.out
    unfold wr15 hd15
    rw [List.take_zero, List.flatMap_nil, List.append_nil]
    exact this)
  clear V9
  go_wp2_with (refine step_load_at (o := ⟨some 50, _, _, _, _, _⟩) rfl rfl rfl (HRF.out w9 B9.out) Try.underlying38 rfl HIF.out ?_)
  go_loopw [51] (fun s W => ∃ p : Nat, p ≤ 8 ∧ s = .int .i64 (p : Int) ∧ VB15 W w.heap.size (w.heap.size + 1) (wr15 a p) ∧ Below w.heap.size w W) (fun s W => 8 - (intOf s).toNat)
  case atStart => exact ⟨0, by omega, rfl, W0.out, L9.out⟩
  case round =>
    clear W0 L9 B9
    obtain ⟨p, hp, rfl, hv, hl⟩ := hrel
    have V := Lib.hid hv
    have L := Lib.hid hl
    clear hv hl
    by_cases hp8 : p < 8
    · have p1 : (p : Int) < 8 := by omega
      have hx := idx15 a.f hp8 wr
      have hlt := HLN.out p hp8
      have hsn := HSN.out p hp8
      have hlen := HWL.out p (by omega)
      obtain ⟨v, hv⟩ : ∃ v, a.f.getD p 0 = v := ⟨_, rfl⟩
      rw [hv] at hx hlt hsn
      have HSN2 := Lib.hid hsn
      have hpc := HPU.out 8 (v : Int) (wr15 a p) wr V.out L.out (by omega) (by omega) (by omega) (by omega) (by rw [Int.toNat_natCast]; exact hlt)
      have HP := Lib.hid (show Calls Try.prog 52 #[.int .i64 8, .int .u64 (v : Int), .pointer (some ⟨w.heap.size + 1, 0, none⟩)] wr fun e w' => e = .returned (.tuple #[]) ∧ VB15 w' w.heap.size (w.heap.size + 1) (wr15 a p ++ dig 8 v) ∧ wr.grownBy w' (some (w.heap.size + 1)) from hpc)
      have HP8 := Lib.hid hp8
      clear hpc hlt hsn hlen hv
      go_wp2_with fail
      ((with_reducible refine HP.out.mono ?_))
      rintro e w9 ⟨rfl, hv, hg⟩
      have V9 := Lib.hid hv
      have L9 := Lib.hid (bel_upd L.out hg (Nat.le_refl _) (Nat.le_succ _))
      clear hv hg hx HP
      go_wp2_with fail
      go_roundw
      case rel => exact ⟨p + 1, by have := HP8.out; omega, by first | rfl | (simp; omega), by rw [HSN2.out]; exact V9.out, L9.out⟩
      case measure => have := HP8.out; simp [intOf]; omega
    · obtain rfl : p = 8 := by omega
      clear hp hp8
      have hlen := HWL.out 8 (by omega)
      obtain ⟨g, hc, hacc⟩ := V.out.acc (by intro e; rw [e] at hlen; simp at hlen) (by omega)
      rw [hlen] at hc hacc
      rw [HALL.out] at hacc
      have HACC := Lib.hid hacc
      have c0 : wr.cell? ⟨w.heap.size + 1, 0, none⟩ = some (.slice (some ⟨g, 0, none⟩) 88 88) := hc
      clear hlen hacc hc
      go_wp2_with fail
      go_ret
      exact ⟨g, rfl, HACC.out, L.out⟩
end Go.Proofs.Ytmfmjdkeoiebpaa
