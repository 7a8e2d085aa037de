/-
  Contract of shim.Decode. Condition: the bytes that come in read as a list, of at most 2^40.
-/
import Derived.Test.YtjfjfmpdgcokdaaShimB
namespace Go.Proofs.Ytjfjfmpdgcokdaa
open Go.RowKit

theorem Try.infoEntry : (Try.prog.info? 24).map (fun i => (i.zero, i.size, i.bytes)) = some (some (.agg #[.int .i64 0, .int .i64 0, .int .i64 0]), 3, 24) := by kernel_rfl

/-- An entry lies at this place. -/
def At3 (W : World) (b k : Nat) (x y z : Int) : Prop := W.cell? ⟨b, k, none⟩ = some (.int .i64 x) ∧ W.cell? ⟨b, k + 1, none⟩ = some (.int .i64 y) ∧ W.cell? ⟨b, k + 2, none⟩ = some (.int .i64 z)
theorem row_at3 {w : World} {B n : Nat} {a : Option Addr} {l : List (Int × Int × Int)} (h : Row ec w B a n l) (hn : 0 < n) : ∃ b o : Nat, a = some ⟨b, o, none⟩ ∧ b < B ∧ ∀ (i : Nat) (hi : i < l.length), At3 w b (o + i * 3) l[i].1 l[i].2.1 l[i].2.2 := by
  obtain ⟨b, o, e, hb, hc⟩ := h.cells ec_length hn
  exact ⟨b, o, e, hb, fun i hi => ⟨hc i hi 0 (by omega), hc i hi 1 (by omega), hc i hi 2 (by omega)⟩⟩

/-- Entries that a call itself gathers. -/
def AccE (w : World) (base : Nat) (A : Option Addr) (c : Nat) (l : List (Int × Int × Int)) : Prop := AccR ec 3 w base 24 A c l

theorem acce_push {w : World} {base c : Nat} {A : Option Addr} {l : List (Int × Int × Int)} (h : AccE w base A c l) (e : Int × Int × Int) (hbase : base ≤ w.heap.size) (hlen : l.length ≤ 1099511627776) (ty : TypeId) :
    ∃ A' c' w', (Builtin.append_ #[22, 22] ty #[.slice A l.length c, .slice (some ⟨w.heap.size, 0, none⟩) 1 1]).run Try.prog (w.alloc (.cells (ec e).toArray 24)) = .ok (.slice A' (l.length + 1) c') w' ∧
      AccE w' base A' c' (l ++ [e]) ∧ w.grownBy w' (blk A) :=
  accr_push ec_length ec_one (by omega) h e Try.underlying22 Try.infoEntry rfl hbase (by omega) (by omega)

theorem acce_append {w : World} {base c : Nat} {A : Option Addr} {l : List (Int × Int × Int)} (h : AccE w base A c l) {B m cc : Nat} {a : Option Addr} {l2 : List (Int × Int × Int)} (hs : Row ec w B a m l2) (hbase : base ≤ w.heap.size) (hlen : l.length + m ≤ 1099511627776) (ty : TypeId) :
    ∃ A' c' w', (Builtin.append_ #[22, 22] ty #[.slice A l.length c, .slice a m cc]).run Try.prog w = .ok (.slice A' (l.length + m) c') w' ∧ AccE w' base A' c' (l ++ l2) ∧ w.grownBy w' (blk A) ∧ (blk A' = blk A ∨ blk A' = some w.heap.size) :=
  accr_append ec_length ec_one (by omega) h hs Try.underlying22 Try.infoEntry rfl hbase (by omega) (by omega)

theorem entI_cells (u : Nat) : ec (entI u) = [.int .i64 ((u : Int) / 4096), .int .i64 ((u : Int) % 4096 / 512), .int .i64 ((u : Int) % 256)] := by simp [ec, entI]
theorem lastI_int (u : Nat) : decide (256 ≤ (u : Int) % 512) = lastI u := by unfold lastI; exact decide_eq_decide.2 (by omega)

section
variable {w : World} {r g : Nat} {l : List UInt8}
theorem uint4 (j : Nat) (h : Rdr w r g l (4 * j) 0) (hn : 4 * j + 4 ≤ l.length) :
    Calls Try.prog 25 #[.pointer (some ⟨r, 0, none⟩), .int .i64 4] w fun e w' => e = .returned (.int .u64 ((wordAt l j : Nat) : Int)) ∧ Rdr w' r g l (4 * (j + 1)) 0 ∧ w.grownBy w' (some r) :=
  uint_ok h 4 (by omega) (by omega) hn
theorem uint4_short (j : Nat) (h : Rdr w r g l (4 * j) 0) (hn : l.length < 4 * j + 4) :
    Calls Try.prog 25 #[.pointer (some ⟨r, 0, none⟩), .int .i64 4] w fun e w' => e = .returned (.int .u64 0) ∧ Rdr w' r g l (4 * j) 4 ∧ w.grownBy w' (some r) := by
  have he : errOf 0 (wid 4) 4 ((l.length : Int) - ((4 * j : Nat) : Int)) = 4 := by
    rw [wid_yes (by omega) (by omega)]
    unfold errOf
    rw [if_pos rfl, if_pos rfl, if_pos (by omega)]
  have := uint_no h 4 (by rw [he]; omega)
  rw [he] at this
  exact this
end

def rst (b : List UInt8) : List UInt8 := if (dec b 8 0).2 = 0 then b.drop (4 * (dec b 8 0).1) else []
def DecPost (w : World) (b : List UInt8) (e : Ending) (w' : World) : Prop :=
  ∃ A c A2 c2, e = .returned (.tuple #[.slice A (dec b 8 0).1 c, .slice A2 (rst b).length c2, .int .i64 (dec b 8 0).2]) ∧ Row ec w' w'.heap.size A (dec b 8 0).1 (stk b (dec b 8 0).1) ∧
    Bts w' w'.heap.size A2 (rst b).length (rst b) ∧ Below w.heap.size w w'

theorem decPost_no {w w' : World} {b : List UInt8} {e : Ending} {err : Int} (h : dec b 8 0 = (0, err)) (h0 : err ≠ 0) (he : e = .returned (.tuple #[.slice none 0 0, .slice none 0 0, .int .i64 err])) (hb : Below w.heap.size w w') : DecPost w b e w' := by
  have hr : rst b = [] := by unfold rst; rw [h, if_neg h0]
  refine ⟨none, 0, none, 0, ?_, ?_, ?_, hb⟩
  · rw [hr, h, he]; rfl
  · rw [h]; exact Row.nil
  · rw [hr]; exact Bts.nil

theorem dec_step (b : List UInt8) (j : Nat) (hj : j < 8) (h : dec b 8 0 = dec b (8 - j) j) :
    dec b 8 0 = if b.length < 4 * j + 4 then (0, 4) else if lastI (wordAt b j) = true then (j + 1, 0) else dec b (8 - (j + 1)) (j + 1) := by
  rw [h, show 8 - j = (8 - (j + 1)) + 1 by omega]; rfl

set_option maxHeartbeats 1000000 in
theorem decode_calls (a : Option Addr) (n c : Nat) (b : List UInt8) (w : World) (h : Bts w w.heap.size a n b) (hn : n ≤ 1099511627776) :
    Calls Try.prog 14 #[.slice a n c] w (DecPost w b) := by
  have HL := Lib.hid h.1
  go_enter Try.func14, Try.ntmps14
  go_wp2_with fail
  ((with_reducible refine (new_calls a n c b w h (by omega)).mono ?_))
  rintro e w1 ⟨r, g, rfl, hr, hg, h1, b1⟩
  have hr1 : r < w1.heap.size := h1.lt
  have hg1 : g < w1.heap.size := h1.2.1.lt
  have R1 := Lib.hid h1
  have B1 := Lib.hid b1
  clear h1 b1 h
  go_wp2
  go_loopw [6, 12] (fun s t W => ∃ j cc : Nat, ∃ A : Option Addr, j ≤ 8 ∧ t = .int .i64 (j : Int) ∧ s = .slice A j cc ∧ AccE W w1.heap.size A cc (stk b j) ∧ Rdr W r g b (4 * j) 0 ∧ dec b 8 0 = dec b (8 - j) j ∧ Below w.heap.size w W ∧ w1.heap.size ≤ W.heap.size) (fun _ t _ => 8 - (intOf t).toNat)
  case atStart => exact ⟨0, 0, none, Nat.zero_le _, rfl, rfl, AccR.nil _ _ _, R1.out, rfl, B1.out, Nat.le_refl _⟩
  case round =>
    obtain ⟨j, cc, A, hj, rfl, rfl, hA, hR, hD, hbel, hsz⟩ := hrel
    have HA := Lib.hid hA
    have HR := Lib.hid hR
    have HBel := Lib.hid hbel
    have HSZ := Lib.hid hsz
    clear hA hR hbel hsz
    by_cases hlt : j < 8
    · have HS := Lib.hid (dec_step b j hlt hD)
      clear hD
      by_cases hsh : b.length < 4 * j + 4
      · have hD : dec b 8 0 = (0, 4) := by rw [HS.out, if_pos hsh]
        have HD := Lib.hid hD
        clear hD
        go_wp2_with fail
        ((with_reducible refine (uint4_short j HR.out hsh).mono ?_))
        rintro e w2 ⟨rfl, h2, u2⟩
        go_wp2_with fail
        ((with_reducible refine (err_calls h2).mono ?_))
        rintro e w3 ⟨rfl, rfl⟩
        go_wp2_with fail
        ((with_reducible refine (err_calls h2).mono ?_))
        rintro e w3 ⟨rfl, rfl⟩
        go_wp2
        exact bodyPost_ret (v := .tuple #[.slice none 0 0, .slice none 0 0, .int .i64 4]) (by simp [results, Try.results14, go_sem]) rfl (decPost_no HD.out (by omega) rfl (bel_upd HBel.out u2 (Nat.le_refl _) hr))
      · have hU := wordAt_lt b j
        have HE := Lib.hid (entI_cells (wordAt b j))
        have HLa := Lib.hid (lastI_int (wordAt b j))
        have HST := Lib.hid (stk_snoc b j)
        have HD := Lib.hid (show dec b 8 0 = if lastI (wordAt b j) = true then (j + 1, 0) else dec b (8 - (j + 1)) (j + 1) by rw [HS.out, if_neg hsh])
        clear HS
        go_wp2_with fail
        ((with_reducible refine (uint4 j HR.out (by omega)).mono ?_))
        rintro e w2 ⟨rfl, h2, u2⟩
        have hA2 : AccE w2 w1.heap.size A cc (stk b j) := HA.out.kept u2 (fun x hx e => by have := (HA.out.ge hx).1; injection e with e; omega)
        have bel2 := bel_upd HBel.out u2 (Nat.le_refl _) hr
        have hsz2 : w1.heap.size ≤ w2.heap.size := Nat.le_trans HSZ.out u2.size
        have H2 := Lib.hid h2
        have HA2 := Lib.hid hA2
        have BEL2 := Lib.hid bel2
        have SZ2 := Lib.hid hsz2
        clear h2 hA2 bel2 hsz2 u2 HA HBel HR HSZ
        generalize wordAt b j = U at *
        go_wp2_with fail
        ((with_reducible refine (err_calls H2.out).mono ?_))
        rintro e w3 ⟨rfl, rfl⟩
        go_wp2_with fail
        ((with_reducible refine (entry_calls (U : Int) w2 (by omega) (by omega)).mono ?_))
        rintro e w3 ⟨rfl, b3⟩
        rw [HLa.out]
        have HA3 := Lib.hid (show AccE w3 w1.heap.size A cc (stk b j) from HA2.out.bel b3)
        have H3 := Lib.hid (H2.out.bel b3)
        have BEL3 := Lib.hid (bel_more BEL2.out (Nat.le_refl _) b3)
        have SZ3 := Lib.hid (Nat.le_trans SZ2.out b3.size)
        clear b3 HA2 H2 BEL2 SZ2
        have HA4 := Lib.hid (show AccE (w3.alloc (.cells (ec (entI U)).toArray 24)) w1.heap.size A cc (stk b j) from HA3.out.alloc _)
        have H4 := Lib.hid (H3.out.bel (bel_new (Below.refl _ _) (.cells (ec (entI U)).toArray 24)))
        have BEL4 := Lib.hid (bel_new BEL3.out (.cells (ec (entI U)).toArray 24))
        have SZ4 := Lib.hid (show w1.heap.size ≤ (w3.alloc (.cells (ec (entI U)).toArray 24)).heap.size by have := SZ3.out; simp; omega)
        obtain ⟨A5, c5, w5, r5, a5, g5⟩ := acce_push HA4.out (entI U) SZ4.out (by rw [stk_length]; omega) 22
        rw [stk_length] at r5
        rw [← HST.out] at a5
        have ne5 : ∀ x, blk A = some x → w1.heap.size ≤ x := fun x hx => (HA4.out.ge hx).1
        have h5 : Rdr w5 r g b (4 * (j + 1)) 0 := H4.out.same (g5.block r (by have := SZ4.out; omega) (fun e => by have := ne5 r e.symm; omega)) (g5.block g (by have := SZ4.out; omega) (fun e => by have := ne5 g e.symm; omega))
        have bel5 : Below w.heap.size w w5 := BEL4.out.grown g5 BEL4.out.size (fun x hx => Nat.le_trans B1.out.size (ne5 x hx))
        have hsz5 := Nat.le_trans SZ4.out g5.size
        have R5 := Lib.hid r5
        have A5' := Lib.hid a5
        have H5 := Lib.hid h5
        have BEL5 := Lib.hid bel5
        have SZ5 := Lib.hid hsz5
        clear r5 a5 g5 ne5 h5 bel5 hsz5 HA4 H4 BEL4 SZ4 HA3 H3 BEL3 SZ3
        rw [HE.out, World.size_alloc] at R5
        cases hl : lastI U
        · rw [hl] at HD
          go_wp2_with (at_builtin; refine step_append rfl rfl rfl rfl R5.out ?_)
          exact ⟨⟨j + 1, c5, A5, by omega, by go_num, rfl, A5'.out, H5.out, HD.out, BEL5.out, SZ5.out⟩, by simp [intOf]; omega⟩
        · rw [hl] at HD
          have hd : dec b 8 0 = (j + 1, 0) := HD.out
          have HD2 := Lib.hid hd
          clear hd HD
          go_wp2_with (at_builtin; refine step_append rfl rfl rfl rfl R5.out ?_)
          ((with_reducible refine (left_calls H5.out).mono ?_))
          rintro e w6 ⟨rfl, m6, rfl⟩
          have hbl : 4 * (j + 1) ≤ b.length := H5.out.2.2.1
          go_wp2_with fail
          ((with_reducible refine (bytes_i (H5.out.drewN m6) _ (by omega) (by omega)).mono ?_))
          rintro e w7 ⟨bb, rfl, hbb, h7, _, u7⟩
          have a7 : AccE w7 w1.heap.size A5 c5 (stk b (j + 1)) := (A5'.out.drewN m6).kept u7 (fun x hx e => by have := (A5'.out.ge hx).1; injection e with e; omega)
          have bel7 := bel_upd (bel_drewN BEL5.out m6) u7 (Nat.le_refl _) hr
          have A7 := Lib.hid a7
          have H7 := Lib.hid h7
          have BEL7 := Lib.hid bel7
          clear a7 h7 bel7 u7 hbb
          go_wp2
          have hrst : rst b = b.drop (4 * (j + 1)) := by unfold rst; rw [HD2.out, if_pos rfl]
          have hlen : ((b.length : Int) - 4 * ((j : Int) + 1)).toNat = (b.drop (4 * (j + 1))).length := by simp; omega
          have h7 := H7.out
          rw [hlen, List.take_length] at h7
          rw [hlen]
          have hrow := A7.out.row
          rw [stk_length] at hrow
          refine bodyPost_ret (v := .tuple #[.slice A5 (j + 1) c5, .slice (some ⟨bb, 0, none⟩) (b.drop (4 * (j + 1))).length (b.drop (4 * (j + 1))).length, .int .i64 0]) (by simp [results, Try.results14, go_sem]) rfl ⟨A5, c5, some ⟨bb, 0, none⟩, (b.drop (4 * (j + 1))).length, ?_, ?_, ?_, BEL7.out⟩
          · rw [hrst, HD2.out]
          · rw [HD2.out]; exact hrow
          · rw [hrst]; exact h7.bts h7.lt
    · have h8 : j = 8 := by omega
      subst h8
      have HD := Lib.hid (show dec b 8 0 = (0, 3) from hD)
      clear hD
      go_wp2
      exact bodyPost_ret (v := .tuple #[.slice none 0 0, .slice none 0 0, .int .i64 3]) (by simp [results, Try.results14, go_sem]) rfl (decPost_no HD.out (by omega) rfl HBel.out)
end Go.Proofs.Ytjfjfmpdgcokdaa
