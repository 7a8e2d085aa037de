/-
  The document's rising and Near. Condition: at most 2^30 links.
-/
import Derived.Test.YtpgbfjeejkeibaaGraphF
import Derived.Test.YtpgbfjeejkeibaaGraphH
import Derived.Test.YtpgbfjeejkeibaaGrU
namespace Go.Proofs.Ytpgbfjeejkeibaa
open Go.RowKit

def RisePost (w : World) (l : List Int) (e : Ending) (w' : World) : Prop :=
  ∃ (o : List Int) (A : Option Addr) (c : Nat), e = .returned (.slice A o.length c) ∧ AccI w' w.heap.size A c o ∧ o.length = l.length ∧ o.Pairwise (· ≤ ·) ∧ (∀ x, x ∈ o ↔ x ∈ l) ∧ Below w.heap.size w w'
theorem srt_list {n : Nat} {f : Nat → Int} (h : Srt (fun x => x) 0 n f) : (lst n f).Pairwise (· ≤ ·) := by
  rw [List.pairwise_iff_getElem]
  intro i j hi hj hij
  rw [lst_length] at hi hj
  have e1 : (lst n f)[i] = f i := by simp [lst]
  have e2 : (lst n f)[j] = f j := by simp [lst]
  rw [e1, e2]; exact h i j (Nat.zero_le _) hij hj
theorem loc_mem {key : Int → Int} {n m a b : Nat} {f g : Nat → Int} (h : Loc key n a b f g) (hb : b ≤ m) (x : Int) : x ∈ lst m g ↔ x ∈ lst m f := by
  rw [lst_mem, lst_mem]
  constructor
  · rintro ⟨k, hk, rfl⟩
    by_cases h1 : a ≤ k ∧ k < b
    · obtain ⟨q, _, h3, e⟩ := h.2.1 k h1.1 h1.2
      exact ⟨q, by omega, e.symm⟩
    · exact ⟨k, hk, (h.1 k (by omega)).symm⟩
  · rintro ⟨k, hk, rfl⟩
    by_cases h1 : a ≤ k ∧ k < b
    · obtain ⟨q, _, h3, e⟩ := h.2.2.1 k h1.1 h1.2
      exact ⟨q, by omega, e.symm⟩
    · exact ⟨k, hk, h.1 k (by omega)⟩

set_option maxRecDepth 100000 in
set_option maxHeartbeats 3200000 in
theorem rising_calls (p : Option Addr) (n c : Nat) (l : List Int) (w : World) (h : Row ei w w.heap.size p n l) (hn : n ≤ 1099511627776) :
    Calls Try.prog 36 #[.slice p n c] w (RisePost w l) := by
  have HLEN := Lib.hid h.1
  have HR := Lib.hid h
  clear h
  go_enter Try.func36, Try.ntmps36
  go_wp2_with fail
  go_loopw [3, 4] (fun s t wr => ∃ (i cc : Nat) (A : Option Addr) (o : List Int), i ≤ n ∧ t = .int .i64 (i : Int) ∧ s = .slice A i cc ∧ o.length = i ∧ AccI wr w.heap.size A cc o ∧ o.Pairwise (· ≤ ·) ∧ (∀ x, x ∈ o ↔ x ∈ l.take i) ∧ Below w.heap.size w wr) (fun s t wr => n - (intOf t).toNat)
  case atStart => exact ⟨0, 0, none, [], Nat.zero_le _, rfl, rfl, rfl, AccR.nil _ _ _, List.Pairwise.nil, fun x => by simp, Below.refl _ _⟩
  case round =>
    obtain ⟨i, cc, A, o, hi, rfl, rfl, hol, hA, hO, hM, hB⟩ := hrel
    have HA := Lib.hid hA
    have HO := Lib.hid hO
    have HM := Lib.hid hM
    have HB := Lib.hid hB
    have HOL := Lib.hid hol
    have hsz := hB.size
    clear hA hO hM hB hol
    by_cases hlt : i < n
    · have HR2 := Lib.hid (HR.out.below HB.out)
      obtain ⟨b, ofs, rfl, hbw, hcell⟩ := row_int HR2.out (by omega)
      have hil : i < l.length := by have := HLEN.out; omega
      have hat := hcell i hil
      obtain ⟨x, hx⟩ : ∃ x, x = l[i] := ⟨_, rfl⟩
      rw [← hx] at hat
      have HX := Lib.hid hx
      have hib : i < 1099511627776 := by omega
      obtain ⟨A3, c3, w3, r3, a3, g3⟩ := acci_push HA.out x hsz (by have := HOL.out; omega) 30
      rw [HOL.out] at r3
      have R3 := Lib.hid r3
      have B3 := Lib.hid (HB.out.grown g3 hsz (fun y hy => (AccR.ge HA.out hy).1))
      obtain ⟨g, rfl⟩ : ∃ g, A3 = some ⟨g, 0, none⟩ := by
        rcases a3.2 with ⟨_, h1⟩ | ⟨g, cap, cur, hv, _⟩
        · simp at h1
        · injection hv with e1
          exact ⟨g, e1⟩
      have hgb := (AccR.ge a3 (x := g) rfl).1
      have hl1 : (o ++ [x]).length = i + 1 := by rw [List.length_append, HOL.out]; rfl
      have hArr : Arr w3 w.heap.size g c3 (i + 1) (fun k => (o ++ [x]).getD k 0) := by
        unfold Arr
        rw [← hl1, ← lst_of]; exact a3
      obtain ⟨f0, hf0⟩ : ∃ f0, f0 = (fun k => (o ++ [x]).getD k 0) := ⟨_, rfl⟩
      rw [← hf0] at hArr
      have hlst : lst (i + 1) f0 = o ++ [x] := by rw [hf0, ← hl1, ← lst_of]
      have hins : Ins (fun y => y) 0 i i f0 := fun p q h1 h2 h3 h4 => by
        have hq : q < o.length := by have := HOL.out; omega
        have := List.pairwise_iff_getElem.1 HO.out p q (by omega) hq h2
        rw [hf0]
        simp only [List.getD_eq_getElem?_getD]
        rw [List.getElem?_append_left (by omega), List.getElem?_append_left hq, List.getElem?_eq_getElem hq, List.getElem?_eq_getElem (by omega)]
        exact this
      have HAR := Lib.hid hArr
      have HLS := Lib.hid hlst
      have HIN := Lib.hid hins
      have HGB := Lib.hid hgb
      have hs3 : w.heap.size ≤ w3.heap.size := Nat.le_trans hsz g3.size
      obtain ⟨i1, hi1⟩ : ∃ q, q = i + 1 := ⟨_, rfl⟩
      rw [← hi1] at R3 HAR HLS
      have HI1 := Lib.hid hi1
      have hi1b : i1 < 1099511627777 := by omega
      have hi1i : (i1 : Int) - 1 = (i : Int) := by omega
      clear r3 a3 g3 hcell hx hl1 hArr hf0 hlst hins hgb hi1
      go_wp2_with (at_builtin; refine step_append rfl rfl rfl rfl R3.out ?_)
      clear hi1i
      go_loopw [5] (fun t wr => ∃ (j : Nat) (f2 : Nat → Int), j ≤ i ∧ t = .int .i64 (j : Int) ∧ Arr wr w.heap.size g c3 i1 f2 ∧ Loc (fun y => y) i1 0 i1 f0 f2 ∧ Ins (fun y => y) 0 i j f2 ∧ Below w.heap.size w wr) (fun t wr => (intOf t).toNat)
      case atStart => exact ⟨i, f0, Nat.le_refl _, rfl, HAR.out, Loc.refl _ _ _, HIN.out, B3.out⟩
      case round =>
        obtain ⟨q, f', hji, rfl, hA, hL, hI, hB⟩ := hrel
        have HA3 := Lib.hid hA
        have HL2 := Lib.hid hL
        have HI2 := Lib.hid hI
        have HB3 := Lib.hid hB
        clear hA hL hI hB
        have hi1e := HI1.out
        by_cases hq0 : 0 < q
        · obtain ⟨k, hk⟩ : ∃ k, q = k + 1 := ⟨q - 1, by omega⟩
          have HK := Lib.hid hk
          have hqn : q < i1 := by omega
          have hkn : k < i1 := by omega
          have d1 := HA3.out.cell q hqn
          have d2 := HA3.out.cell k hkn
          have HC := Lib.hid (And.intro d1 d2)
          have wq : IntKind.i64.wrap ((q : Int) - 1) = (k : Int) := by rw [IntWalk.i64_in _ (by omega)]; omega
          have g1 : decide ((0 : Int) < (q : Int)) = true := by simp; omega
          have g2 : decide (0 < q) = true := by simp; omega
          have n1 : (q : Int) < (i1 : Int) := by omega
          have n2 : (k : Int) < (i1 : Int) := by omega
          obtain ⟨u, hu⟩ : ∃ u, u = f' q := ⟨_, rfl⟩
          obtain ⟨v, hv⟩ : ∃ v, v = f' k := ⟨_, rfl⟩
          rw [← hu, ← hv] at HC
          have HUV := Lib.hid (And.intro hu hv)
          clear hk d1 d2 hu hv hi1e hq0
          by_cases hgt : u < v
          · have gg : decide (u < v) = true := by simpa using hgt
            go_wp2_with fail
            refine region_seq (fun W => W.cell? ⟨g, q, none⟩ = some (.int .i64 u) ∧ W.cell? ⟨g, k, none⟩ = some (.int .i64 v)) [(0, true), (1, true), (2, true), (3, true), (4, true), (5, true), (6, true), (7, true), (8, true), (9, true), (10, true), (11, true), (12, true), (13, true)]
              (by kernel_rfl) (by kernel_rfl) (by kernel_rfl) (by kernel_rfl) (fun _ _ _ _ _ h => h) HC.out ?_
            repeat
              first
              | (refine seq_skip rfl (by rfl) ?_)
              | (refine seq_pure (v := ?_) rfl (by rfl) (fun W hW => ?_) ?_
                 rotate_left
                 · have t1 := hW.1
                   have t2 := hW.2
                   clear hW
                   go_simp
                   try with_reducible rfl)
              simp only [Act.put, List.setIfInBounds_toArray, List.set_cons_zero, List.set_cons_succ]
            refine seq_done ?_
            have A5 := Lib.hid (show Arr wr.drew w.heap.size g c3 i1 f' from HA3.out)
            have B5 := Lib.hid (bel_drewN HB3.out 1)
            have HC5 := Lib.hid (show wr.drew.cell? ⟨g, q, none⟩ = some (.int .i64 u) ∧ wr.drew.cell? ⟨g, k, none⟩ = some (.int .i64 v) from HC.out)
            clear HA3 HB3 HC wq
            have B5' := Lib.hid (show Below w.heap.size w wr.drew from B5.out)
            clear B5
            generalize wr.drew = w5 at *
            have A6 := A5.out.set q v
            have e1 := HC5.out.1
            have e2 := HC5.out.2
            have d1 := A5.out.free q
            have d2 := A6.1.free k
            have e3 := A6.1.cell k hkn
            have wq2 : (q : Int) - 1 = (k : Int) := by have := HK.out; omega
            have A6' := Lib.hid A6
            have A7 := Lib.hid (A6.1.set k u)
            clear gg g1 g2 n1 n2 A6
            have hk40 : q < 1099511627777 := by omega
            have hi1e := HI1.out
            have hk2 := HK.out
            have L8 := Lib.hid (HL2.out.trans (((rot_swp (f := f') k).loc (key := fun y => y) (n := i1) (by omega) (by omega) (by omega) (fun a b h1 h2 h3 h4 => by
              obtain rfl : a = k := by omega
              obtain rfl : b = a + 1 := by omega
              show f' (a + 1) < f' a
              rw [← hk2, ← HUV.out.1, ← HUV.out.2]; exact hgt)).mono (c := 0) (d := i1) (Nat.zero_le _) (by omega)))
            have I8 := Lib.hid (Ins.step (key := fun y => y) (a := 0) (i := i) (j := k) (f := f') (by rw [← hk2]; exact HI2.out) (Nat.zero_le _) (by
              show f' (k + 1) < f' k
              rw [← hk2, ← HUV.out.1, ← HUV.out.2]; exact hgt))
            have e5 : upd (upd f' q v) k u = swp f' k (k + 1) := by
              rw [HUV.out.1, HUV.out.2, ← hk2]; exact swp_comm f' q k
            have A8 := Lib.hid A7.out.1
            rw [e5] at A8
            have B8 := Lib.hid (bel_upd (bel_upd B5'.out A6'.out.2 (Nat.le_refl _) HGB.out) A7.out.2 (Nat.le_refl _) HGB.out)
            clear e5 hi1e hk2 hgt
            go_wp2_with fail
            go_roundw
            case rel => exact ⟨k, swp f' k (k + 1), by have := HK.out; omega, rfl, A8.out, L8.out, I8.out, B8.out⟩
            case measure => have := HK.out; simp [intOf]; omega
          · have gg : decide (u < v) = false := by simpa using hgt
            go_wp2_with fail
            refine region_seq (fun W => W.cell? ⟨g, q, none⟩ = some (.int .i64 u) ∧ W.cell? ⟨g, k, none⟩ = some (.int .i64 v)) [(0, true), (1, true), (2, true), (3, true), (4, true), (5, true), (6, true), (7, true), (8, true), (9, true), (10, true), (11, true), (12, true), (13, true)]
              (by kernel_rfl) (by kernel_rfl) (by kernel_rfl) (by kernel_rfl) (fun _ _ _ _ _ h => h) HC.out ?_
            repeat
              first
              | (refine seq_skip rfl (by rfl) ?_)
              | (refine seq_pure (v := ?_) rfl (by rfl) (fun W hW => ?_) ?_
                 rotate_left
                 · have t1 := hW.1
                   have t2 := hW.2
                   clear hW
                   go_simp
                   try with_reducible rfl)
              simp only [Act.put, List.setIfInBounds_toArray, List.set_cons_zero, List.set_cons_succ]
            refine seq_done ?_
            have hsrt := HI2.out.done (.inr ⟨by have := HK.out; omega, by rw [show q - 1 = k by have := HK.out; omega, ← HUV.out.1, ← HUV.out.2]; omega⟩)
            have hi1e := HI1.out
            have T5 := Lib.hid (show (lst i1 f').Pairwise (· ≤ ·) from by rw [hi1e]; exact srt_list hsrt)
            have M5 := Lib.hid (show ∀ x, x ∈ lst i1 f' ↔ x ∈ l.take (i + 1) from fun y => by
              rw [loc_mem HL2.out (Nat.le_refl _), HLS.out, List.take_succ_eq_append_getElem hil, List.mem_append, List.mem_append, HM.out, HX.out])
            have LL5 := Lib.hid (lst_length i1 f')
            have A5 := Lib.hid (show Arr wr.drew w.heap.size g c3 i1 f' from HA3.out)
            have B5 := Lib.hid (bel_drewN HB3.out 1)
            clear hsrt
            clear hi1e gg g1 g2 wq hgt n1 n2
            go_wp2_with fail
            go_roundw
            case rel => exact ⟨i + 1, c3, some ⟨g, 0, none⟩, lst i1 f', by omega, rfl, by rw [← HI1.out], by rw [LL5.out, HI1.out], A5.out, T5.out, M5.out, B5.out⟩
            case measure => simp [intOf]; omega
        · have hq00 : q = 0 := by omega
          have g1 : decide ((0 : Int) < (q : Int)) = false := by simp; omega
          have g2 : decide (0 < q) = false := by simp; omega
          clear hq0
          have hsrt := HI2.out.done (.inl (by omega))
          have hi1e := HI1.out
          have T5 := Lib.hid (show (lst i1 f').Pairwise (· ≤ ·) from by rw [hi1e]; exact srt_list hsrt)
          have M5 := Lib.hid (show ∀ x, x ∈ lst i1 f' ↔ x ∈ l.take (i + 1) from fun y => by
            rw [loc_mem HL2.out (Nat.le_refl _), HLS.out, List.take_succ_eq_append_getElem hil, List.mem_append, List.mem_append, HM.out, HX.out])
          have LL5 := Lib.hid (lst_length i1 f')
          have A5 := Lib.hid (show Arr wr.drew w.heap.size g c3 i1 f' from HA3.out)
          have B5 := Lib.hid (bel_drewN HB3.out 1)
          clear hsrt
          clear hq00 hi1e
          go_wp2_with fail
          refine region_seq (fun _ => True) [(0, true), (1, true), (2, true), (3, true), (4, true), (5, true), (6, true), (7, true), (8, true), (9, true), (10, true), (11, true), (12, true), (13, true)]
            (by kernel_rfl) (by kernel_rfl) (by kernel_rfl) (by kernel_rfl) (fun _ _ _ _ _ h => h) trivial ?_
          repeat
            first
            | (refine seq_skip rfl (by rfl) ?_)
            | (refine seq_pure (v := ?_) rfl (by rfl) (fun W hW => ?_) ?_
               rotate_left
               · skip
                 clear hW
                 go_simp
                 try with_reducible rfl)
            simp only [Act.put, List.setIfInBounds_toArray, List.set_cons_zero, List.set_cons_succ]
          refine seq_done ?_
          clear g1 g2
          go_wp2_with fail
          go_roundw
          case rel => exact ⟨i + 1, c3, some ⟨g, 0, none⟩, lst i1 f', by omega, rfl, by rw [← HI1.out], by rw [LL5.out, HI1.out], A5.out, T5.out, M5.out, B5.out⟩
          case measure => simp [intOf]; omega
    · obtain rfl : i = n := by omega
      have hm := Lib.hid (show ∀ x, x ∈ o ↔ x ∈ l from fun x => by
        have := HM.out x
        rwa [List.take_of_length_le (by have := HLEN.out; omega)] at this)
      go_wp2_with fail
      go_ret
      exact ⟨o, A, cc, by rw [HOL.out]; rfl, HA.out, by rw [HOL.out, HLEN.out], HO.out, hm.out, HB.out⟩

theorem len_perm : ∀ {l k : List Int}, l.Nodup → (∀ x ∈ l, x ∈ k) → k.length ≤ l.length → k.Perm l
  | [], k, _, _, hk => by
    have : k = [] := List.eq_nil_of_length_eq_zero (by simpa using hk)
    subst this; exact List.Perm.refl _
  | x :: l, k, hn, hs, hk => by
    have h1 := List.nodup_cons.1 hn
    have hx : x ∈ k := hs x (by simp)
    have ih := len_perm (k := k.erase x) h1.2 (fun y hy => (List.mem_erase_of_ne (by rintro rfl; exact h1.1 hy)).2 (hs y (List.mem_cons_of_mem _ hy))) (by
      rw [List.length_erase_of_mem hx]
      simp only [List.length_cons] at hk
      omega)
    exact (List.perm_cons_erase hx).trans (ih.cons x)
/-- The nodes near one, in the order in which they are met, each once. -/
def rnr (L : List Lk) (node : Int) : Nat → List Int
  | 0 => []
  | i + 1 =>
    let x := L.getD i default
    if x.f = node then (if x.t ∈ rnr L node i then rnr L node i else rnr L node i ++ [x.t])
    else if x.t = node then (if x.f ∈ rnr L node i then rnr L node i else rnr L node i ++ [x.f]) else rnr L node i
/-- What a link adds. -/
def addN (node : Int) (x : Lk) : Option Int := if x.f = node then some x.t else if x.t = node then some x.f else none
theorem rnr_succ (L : List Lk) (node : Int) (i : Nat) : rnr L node (i + 1) = match addN node (L.getD i default) with
    | some y => if y ∈ rnr L node i then rnr L node i else rnr L node i ++ [y]
    | none => rnr L node i := by
  unfold addN
  show (let x := L.getD i default
    if x.f = node then (if x.t ∈ rnr L node i then rnr L node i else rnr L node i ++ [x.t])
    else if x.t = node then (if x.f ∈ rnr L node i then rnr L node i else rnr L node i ++ [x.f]) else rnr L node i) = _
  simp only
  split
  · rfl
  · split <;> rfl
theorem rnr_nodup (L : List Lk) (node : Int) : ∀ i, (rnr L node i).Nodup
  | 0 => List.nodup_nil
  | i + 1 => by
    have ih := rnr_nodup L node i
    rw [rnr_succ]
    split
    · split
      · exact ih
      · rename_i y _ hy
        exact List.nodup_append.2 ⟨ih, by simp, fun a ha b hb => by simp at hb; subst hb; rintro rfl; exact hy ha⟩
    · exact ih
theorem rnr_mem (L : List Lk) (node x : Int) : ∀ i, x ∈ rnr L node i ↔ ∃ k : Nat, k < i ∧ addN node (L.getD k default) = some x
  | 0 => by simp [rnr]
  | i + 1 => by
    have ih := rnr_mem L node x i
    rw [rnr_succ]
    have key : (∃ k : Nat, k < i + 1 ∧ addN node (L.getD k default) = some x) ↔ x ∈ rnr L node i ∨ addN node (L.getD i default) = some x := by
      rw [ih]
      constructor
      · rintro ⟨k, h1, h2⟩
        by_cases hk : k = i
        · subst hk; exact .inr h2
        · exact .inl ⟨k, by omega, h2⟩
      · rintro (⟨k, h1, h2⟩ | h)
        · exact ⟨k, by omega, h2⟩
        · exact ⟨i, by omega, h⟩
    rw [key]
    cases hadd : addN node (L.getD i default) with
    | none => simp
    | some y =>
      simp only
      split
      · rename_i hy
        constructor
        · exact .inl
        · rintro (h | h)
          · exact h
          · injection h with h; subst h; exact hy
      · simp only [List.mem_append, List.mem_singleton, Option.some.injEq]
        constructor
        · rintro (h | h)
          · exact .inl h
          · exact .inr h.symm
        · rintro (h | h)
          · exact .inl h
          · exact .inr h.symm
theorem rnr_near (L : List Lk) (node x : Int) : x ∈ rnr L node L.length ↔ ∃ y ∈ L, (y.f = node ∧ y.t = x) ∨ (y.t = node ∧ y.f = x) := by
  rw [rnr_mem]
  constructor
  · rintro ⟨k, hk, h⟩
    refine ⟨L[k], List.getElem_mem hk, ?_⟩
    rw [List.getD_eq_getElem?_getD, List.getElem?_eq_getElem hk, Option.getD_some] at h
    unfold addN at h
    split at h
    · rename_i hf; injection h with h; exact .inl ⟨hf, h⟩
    · split at h
      · rename_i ht; injection h with h; exact .inr ⟨ht, h⟩
      · cases h
  · rintro ⟨y, hy, h⟩
    obtain ⟨k, hk, rfl⟩ := List.mem_iff_getElem.1 hy
    refine ⟨k, hk, ?_⟩
    rw [List.getD_eq_getElem?_getD, List.getElem?_eq_getElem hk, Option.getD_some]
    unfold addN
    rcases h with ⟨h1, h2⟩ | ⟨h1, h2⟩
    · rw [if_pos h1, h2]
    · by_cases hf : L[k].f = node
      · rw [if_pos hf, h1, ← hf, h2]
      · rw [if_neg hf, if_pos h1, h2]
theorem rnr_len (L : List Lk) (node : Int) : ∀ i, (rnr L node i).length ≤ i
  | 0 => by simp [rnr]
  | i + 1 => by
    have ih := rnr_len L node i
    rw [rnr_succ]
    split
    · split
      · omega
      · simp; omega
    · omega

set_option maxRecDepth 100000 in
set_option maxHeartbeats 3200000 in
theorem rnear_calls (node : Int) (p : Option Addr) (n c : Nat) (L : List Lk) (w : World) (h : Row lkc w w.heap.size p n L) (hn : n ≤ 1073741824) :
    Calls Try.prog 18 #[.slice p n c, .int .i64 node] w (NearPost w L node) := by
  have HLEN := Lib.hid h.1
  have HR := Lib.hid h
  clear h
  go_enter Try.func18, Try.ntmps18
  go_wp2_with fail
  go_loopw [5, 6] (fun s t wr => ∃ (i cc : Nat) (A : Option Addr), i ≤ n ∧ t = .int .i64 (i : Int) ∧ s = .slice A (rnr L node i).length cc ∧ AccI wr w.heap.size A cc (rnr L node i) ∧ Below w.heap.size w wr) (fun s t wr => n - (intOf t).toNat)
  case atStart => exact ⟨0, 0, none, Nat.zero_le _, rfl, rfl, AccR.nil _ _ _, Below.refl _ _⟩
  case round =>
    obtain ⟨i, cc, A, hi, rfl, rfl, hA, hB⟩ := hrel
    have HA := Lib.hid hA
    have HB := Lib.hid hB
    have hsz := hB.size
    have hgl := rnr_len L node i
    clear hA hB
    by_cases hlt : i < n
    · have HR2 := Lib.hid (HR.out.below HB.out)
      obtain ⟨b, o, rfl, hbw, hcell⟩ := row_link HR2.out (by omega)
      have hil : i < L.length := by have := HLEN.out; omega
      have hat := link_cells (hcell i hil)
      have hx : L[i] = L.getD i default := by simp [List.getD_eq_getElem?_getD, List.getElem?_eq_getElem hil]
      rw [hx] at hat
      have hsu := rnr_succ L node i
      generalize L.getD i default = x at *
      have HSU := Lib.hid hsu
      have c0 := hat.1
      have c1 := hat.2.1
      have hrow := AccR.row HA.out
      generalize hout : rnr L node i = out at *
      clear hat hcell hsu hx hout
      have hadd : ∀ y, addN node x = some y → Calls Try.prog 24 #[.slice A out.length cc, .int .i64 y] wr fun e w' => e = .returned (.bool (decide (y ∈ out))) ∧ w' = wr := fun y _ => rhas_calls y A out.length cc _ out wr hrow (by omega)
      by_cases hf : x.f = node
      · have hfb : (x.f == node) = true := by simp [hf]
        have ha : addN node x = some x.t := by unfold addN; rw [if_pos hf]
        have hh := hadd _ ha
        have HS := HSU.out
        rw [ha] at HS
        have HS2 := Lib.hid HS
        clear hadd ha hf HS hrow
        go_wp2_with fail
        refine hh.mono ?_
        rintro e w5 ⟨rfl, rfl⟩
        by_cases hm : x.t ∈ out
        · have hd : decide (x.t ∈ out) = true := by simpa using hm
          have HS3 := Lib.hid (show rnr L node (i + 1) = out by rw [HS2.out]; simp [hm])
          rw [hd]
          clear hd hm hh
          go_wp2_with fail
          go_roundw
          case rel => exact ⟨i + 1, cc, A, by omega, rfl, by rw [HS3.out], by rw [HS3.out]; exact HA.out, HB.out⟩
          case measure => simp [intOf]; omega
        · have hd : decide (x.t ∈ out) = false := by simpa using hm
          have HS3 := Lib.hid (show rnr L node (i + 1) = out ++ [x.t] by rw [HS2.out]; simp [hm])
          obtain ⟨A3, c3, w3, r3, a3, g3⟩ := acci_push HA.out x.t hsz (by omega) 30
          have R3 := Lib.hid r3
          have A3' := Lib.hid a3
          have B3 := Lib.hid (HB.out.grown g3 hsz (fun y hy => (AccR.ge HA.out hy).1))
          rw [hd]
          clear hd hm hh r3 a3 g3
          go_wp2_with (at_builtin; refine step_append rfl rfl rfl rfl R3.out ?_)
          go_roundw
          case rel => exact ⟨i + 1, c3, A3, by omega, rfl, by rw [HS3.out]; simp, by rw [HS3.out]; exact A3'.out, B3.out⟩
          case measure => simp [intOf]; omega
      · have hfb : (x.f == node) = false := by simp [hf]
        by_cases ht : x.t = node
        · have htb : (x.t != node) = false := by simp [ht]
          have ha : addN node x = some x.f := by unfold addN; rw [if_neg hf, if_pos ht]
          have hh := hadd _ ha
          have HS := HSU.out
          rw [ha] at HS
          have HS2 := Lib.hid HS
          clear hadd ha hf ht HS hrow
          go_wp2_with fail
          refine hh.mono ?_
          rintro e w5 ⟨rfl, rfl⟩
          by_cases hm : x.f ∈ out
          · have hd : decide (x.f ∈ out) = true := by simpa using hm
            have HS3 := Lib.hid (show rnr L node (i + 1) = out by rw [HS2.out]; simp [hm])
            rw [hd]
            clear hd hm hh
            go_wp2_with fail
            go_roundw
            case rel => exact ⟨i + 1, cc, A, by omega, rfl, by rw [HS3.out], by rw [HS3.out]; exact HA.out, HB.out⟩
            case measure => simp [intOf]; omega
          · have hd : decide (x.f ∈ out) = false := by simpa using hm
            have HS3 := Lib.hid (show rnr L node (i + 1) = out ++ [x.f] by rw [HS2.out]; simp [hm])
            obtain ⟨A3, c3, w3, r3, a3, g3⟩ := acci_push HA.out x.f hsz (by omega) 30
            have R3 := Lib.hid r3
            have A3' := Lib.hid a3
            have B3 := Lib.hid (HB.out.grown g3 hsz (fun y hy => (AccR.ge HA.out hy).1))
            rw [hd]
            clear hd hm hh r3 a3 g3
            go_wp2_with (at_builtin; refine step_append rfl rfl rfl rfl R3.out ?_)
            go_roundw
            case rel => exact ⟨i + 1, c3, A3, by omega, rfl, by rw [HS3.out]; simp, by rw [HS3.out]; exact A3'.out, B3.out⟩
            case measure => simp [intOf]; omega
        · have htb : (x.t != node) = true := by simp [ht]
          have ha : addN node x = none := by unfold addN; rw [if_neg hf, if_neg ht]
          have HS := HSU.out
          rw [ha] at HS
          have HS3 := Lib.hid (show rnr L node (i + 1) = out from HS)
          clear hadd ha hf ht HS hrow
          go_wp2_with fail
          go_roundw
          case rel => exact ⟨i + 1, cc, A, by omega, rfl, by rw [HS3.out], by rw [HS3.out]; exact HA.out, HB.out⟩
          case measure => simp [intOf]; omega
    · obtain rfl : i = L.length := by have := HLEN.out; omega
      have hri := rising_calls A (rnr L node L.length).length cc (rnr L node L.length) wr (AccR.row HA.out) (by omega)
      go_wp2_with fail
      refine hri.mono ?_
      rintro e w5 ⟨o5, A5, c5, rfl, a5, hl5, hO5, hM5, b5⟩
      have hnd : o5.Nodup := by
        have hp : o5.Perm (rnr L node L.length) := by
          have h1 := len_perm (rnr_nodup L node L.length) (fun x hx => (hM5 x).2 hx) (by omega)
          exact h1
        exact hp.symm.nodup (rnr_nodup L node L.length)
      have hst : o5.Pairwise (· < ·) := (List.Pairwise.and hO5 hnd).imp (fun h => by have := h.1; have := h.2; omega)
      have N5 := Lib.hid (show NearOk L node o5 from ⟨hst, fun x => (hM5 x).trans (rnr_near L node x)⟩)
      have B5 := Lib.hid (bel_more HB.out (Nat.le_refl _) b5)
      have A5' := Lib.hid (AccR.lower a5 hsz)
      clear a5 hl5 hO5 hM5 b5 hnd hst hri
      go_wp2_with fail
      go_ret
      exact ⟨o5, A5, c5, rfl, A5'.out, N5.out, B5.out⟩
end Go.Proofs.Ytpgbfjeejkeibaa
