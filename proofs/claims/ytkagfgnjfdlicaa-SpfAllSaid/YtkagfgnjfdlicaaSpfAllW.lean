/-
  The law SpfAll, walked: under what the calls of spf are to answer, the answer is true for all arguments, and nothing that was there has turned.
-/
import Derived.Test.YtkagfgnjfdlicaaSpfC
namespace Go.Proofs.Ytkagfgnjfdlicaa
set_option maxRecDepth 100000
open Go.RowKit

/-- A slice of a slice of slices. -/
structure Rl where
  a : Option Addr
  n : Nat
  c : Nat
def rle (x : Rl) : List Value := [.slice x.a x.n x.c]
theorem rle_length (x : Rl) : (rle x).length = 1 := rfl
/-- What a list and a cost tell. -/
def ToldOk (w : World) (x : Rl) (co : Int) : Option (Int × List Int) → Prop
  | none => x.n = 0 ∧ co = -1
  | some (c, r) => co = c ∧ 0 ≤ c ∧ x.n = r.length ∧ 1 ≤ x.n ∧ Row ei w w.heap.size x.a x.n r
theorem ToldOk.below {w w' : World} {x : Rl} {co : Int} {p : Option (Int × List Int)} (h : ToldOk w x co p) (hb : Below w.heap.size w w') : ToldOk w' x co p := by
  cases p with
  | none => exact h
  | some q => exact ⟨h.1, h.2.1, h.2.2.1, h.2.2.2.1, (h.2.2.2.2.below hb).more hb.size⟩
/-- What All answers. -/
def SAllPost (w : World) (n : Int) (L : List Lk) (a : Int) (e : Ending) (w' : World) : Prop :=
  Below w.heap.size w w' ∧ ((¬ (chk n L = 0 ∧ 0 ≤ a ∧ a < n) ∧ ∃ A cA B cB, e = .returned (.tuple #[.slice A 0 cA, .slice B 0 cB, .int .i64 2])) ∨
    (chk n L = 0 ∧ 0 ≤ a ∧ a < n ∧ ∃ (A B : Option Addr) (cA cB N : Nat) (RS : List Rl) (C : List Int) (S : List (Option (Int × List Int))), e = .returned (.tuple #[.slice A N cA, .slice B N cB, .int .i64 0]) ∧ (N : Int) = n ∧
      Row rle w' w'.heap.size A N RS ∧ Row ei w' w'.heap.size B N C ∧ AllW n L a S ∧ ∀ (i : Nat) (x : Rl) (co : Int), RS[i]? = some x → C[i]? = some co → ToldOk w' x co (sat S (i : Int))))
def AllOk : Prop := ∀ (n : Int) (p : Option Addr) (m cl : Nat) (L : List Lk) (a : Int) (w : World), -9223372036854775808 ≤ n → n ≤ 9223372036854775807 → Row lkc w w.heap.size p m L → m ≤ 1073741824 →
    Calls Try.prog 13 #[.int .i64 n, .slice p m cl, .int .i64 a] w (SAllPost w n L a)
theorem row_one {α : Type} {enc : α → List Value} {w : World} {B n : Nat} {a : Option Addr} {l : List α} (hk : ∀ x, (enc x).length = 1) (h : Row enc w B a n l) {i : Nat} (hi : i < n) : ∃ (b o : Nat) (x : α) (v : Value), a = some ⟨b, o, none⟩ ∧ b < B ∧ l[i]? = some x ∧ enc x = [v] ∧ w.cell? ⟨b, o + i, none⟩ = some v := by
  obtain ⟨b, o, e, hb, hc⟩ := h.cells hk (by omega)
  have hi' : i < l.length := by rw [h.1]; exact hi
  have h1 := hc i hi' 0 (by omega)
  rw [Nat.mul_one, Nat.add_zero] at h1
  obtain ⟨v, hv⟩ : ∃ v, enc l[i] = [v] := by
    have := hk l[i]
    match hx : enc l[i], this with
    | [v], _ => exact ⟨v, rfl⟩
  exact ⟨b, o, l[i], v, e, hb, List.getElem?_eq_getElem hi', hv, by rw [h1, hv]; rfl⟩

set_option maxRecDepth 100000 in
set_option maxHeartbeats 4000000 in
theorem all11_walk (hB : BetterOk) (hS : BestOk) (hA : AllOk) (n : Int) (n1 : -9223372036854775808 ≤ n) (n2 : n ≤ 9223372036854775807) (p : Option Addr) (m c : Nat) (a : Int) (w : World) (h : m ≤ c ∧ c ≤ maxLen ∧ ∃ L, Row lkc w w.heap.size p m L) :
    Calls Try.prog 4 #[.int .i64 n, .slice p m c, .int .i64 a] w fun e w' => e = .returned (.bool true) ∧ Below w.heap.size w w' := by
  have HNB := Lib.hid (And.intro n1 n2)
  clear n1 n2
  obtain ⟨_, hcm, L, hR⟩ := h
  have HR := Lib.hid hR
  have HA := Lib.hid hA
  have ha := alive11_calls hB hS w
  unfold maxLen at hcm
  clear hR hB hS hA
  go_enter Try.func4, Try.ntmps4
  go_wp2_with fail
  ((with_reducible refine ha.mono ?_))
  rintro e w2 ⟨rfl, hb2⟩
  have B2 := Lib.hid hb2
  clear ha hb2
  by_cases h1 : 100 < m
  · have g1 : (100 : Int) < (m : Int) := by omega
    go_wp2
    go_ret
    exact ⟨rfl, B2.out⟩
  have g1 : ¬ (100 : Int) < (m : Int) := by omega
  have R2 := Lib.hid ((HR.out.below B2.out).more B2.out.size)
  have hcb := HA.out n p m c L a w2 HNB.out.1 HNB.out.2 R2.out (by omega)
  go_wp2_with fail
  ((with_reducible refine hcb.mono ?_))
  rintro e w3 ⟨hb3, hcase⟩
  have C3 := Lib.hid hb3
  have R3 := Lib.hid ((R2.out.below hb3).more hb3.size)
  have hrb := rall_calls n p m c L a w3 R3.out (by omega)
  clear hcb hb3
  rcases hcase with ⟨hno, A, cA, B, cB, rfl⟩ | ⟨hc, ha0, han, A, B, cA, cB, N, RS, C, S, rfl, hN, hrs, hcs, hall, htold⟩
  · have HNO := Lib.hid hno
    clear hno
    go_wp2_with fail
    ((with_reducible refine hrb.mono ?_))
    rintro e w4 ⟨hb4, hcase⟩
    have he : e = .returned (.tuple #[.slice none 0 0, .int .i64 2]) := by
      rcases hcase with ⟨_, he⟩ | ⟨k1, k2, k3, _⟩
      · exact he
      · exact absurd ⟨k1, k2, k3⟩ HNO.out
    subst he
    have C4 := Lib.hid (C3.out.trans (hb4.mono C3.out.size))
    clear hcase hb4 hrb
    go_wp2_with fail
    go_loopw [52] (fun t W => t = .int .i64 0 ∧ W = w4) (fun t W => 0)
    case atStart => exact ⟨rfl, by first | rfl | trivial⟩
    case round =>
      obtain ⟨rfl, rfl⟩ := hrel
      go_wp2
      go_ret
      exact ⟨rfl, B2.out.trans (C4.out.mono B2.out.size)⟩
  · have HG := Lib.hid (And.intro hc (And.intro ha0 han))
    have HRS := Lib.hid hrs
    have HCS := Lib.hid hcs
    have HALL := Lib.hid hall
    have HT := Lib.hid htold
    have HN := Lib.hid hN
    have hN16 : N ≤ 16 := by have := (net_of_chk hc).2.1; omega
    clear hc ha0 han hrs hcs hall htold hN
    go_wp2_with fail
    ((with_reducible refine hrb.mono ?_))
    rintro e w4 ⟨hb4, hcase⟩
    obtain ⟨g, gc, xs, he, hW⟩ : ∃ g gc xs, e = .returned (.tuple #[.slice (some ⟨g, 0, none⟩) N gc, .int .i64 0]) ∧ Wys w3 w4 g gc S xs := by
      rcases hcase with ⟨hno, _⟩ | ⟨_, _, _, g, gc, S', xs, he, hW, hA'⟩
      · exact absurd HG.out hno
      · have := all_unique hA' HALL.out
        subst this
        have hl : xs.length = N := by have := HN.out; have h1 := hW.len; have h2 := hA'.len; omega
        rw [hl] at he
        exact ⟨g, gc, xs, he, hW⟩
    subst he
    have C4 := Lib.hid (C3.out.trans (hb4.mono C3.out.size))
    have B4 := Lib.hid hb4
    have W4 := Lib.hid hW
    clear hcase hb4 hW hrb
    go_wp2_with fail
    go_loopw [52] (fun t W => ∃ i : Nat, i ≤ N ∧ t = .int .i64 (i : Int) ∧ Below w4.heap.size w4 W) (fun t W => N - (intOf t).toNat)
    case atStart => exact ⟨0, Nat.zero_le _, rfl, Below.refl _ _⟩
    case round =>
      obtain ⟨i, hi, rfl, hb⟩ := hrel
      have HB := Lib.hid hb
      clear hb
      by_cases hlt : i < N
      · have B3r := Lib.hid (B4.out.trans (HB.out.mono B4.out.size))
        have Wr := Lib.hid (W4.out.below HB.out)
        obtain ⟨b1, o1, x, v1, rfl, hb1, hx, hv1, hc1⟩ := row_one rle_length ((HRS.out.below B3r.out).more B3r.out.size) hlt
        obtain ⟨b2, o2, co, v2, rfl, hb2, hy, hv2, hc2⟩ := row_one ei_length ((HCS.out.below B3r.out).more B3r.out.size) hlt
        obtain ⟨xa, xn, xc⟩ := x
        have e1 : v1 = .slice xa xn xc := by simp [rle] at hv1; exact hv1.symm
        have e2 : v2 = .int .i64 co := by simp [ei] at hv2; exact hv2.symm
        subst e1
        subst e2
        have hSl : S.length = N := by have := HALL.out.len; have := HN.out; omega
        have hxl : xs.length = N := by rw [W4.out.len]; exact hSl
        obtain ⟨y, hyy⟩ : ∃ y, xs[i]? = some y := ⟨xs[i]'(by omega), List.getElem?_eq_getElem _⟩
        have hok := Wr.out.ok i y _ hyy (sat_get (by omega))
        have htd := (HT.out i _ _ hx hy).below B3r.out
        obtain ⟨ya, yn, yc, yco⟩ := y
        have c0 : wr.cell? ⟨g, i * 2, none⟩ = some (.slice ya yn yc) := Wr.out.range hyy 0 _ rfl
        have c1 : wr.cell? ⟨g, i * 2 + 1, none⟩ = some (.int .i64 yco) := Wr.out.range hyy 1 _ rfl
        have hglt := Wr.out.lt.2
        obtain ⟨r, hr1, hr2, hn1, hn2, hcc, hl16⟩ : ∃ r, Row ei wr wr.heap.size xa xn r ∧ Row ei wr wr.heap.size ya yn r ∧ xn = r.length ∧ yn = r.length ∧ co = yco ∧ r.length ≤ 16 := by
          cases hp : sat S (i : Int) with
          | none =>
            rw [hp] at hok htd
            obtain ⟨q1, q2⟩ := hok
            obtain ⟨q3, q4⟩ := htd
            simp only at q1 q2 q3 q4
            subst q1
            subst q3
            exact ⟨[], ⟨rfl, fun h => absurd h (by omega)⟩, ⟨rfl, fun h => absurd h (by omega)⟩, rfl, rfl, by rw [q2, q4], by simp⟩
          | some q =>
            obtain ⟨cc, r⟩ := q
            rw [hp] at hok htd
            obtain ⟨q1, _, q3, q4, _⟩ := hok
            obtain ⟨q5, _, q6, _, q7⟩ := htd
            simp only at q1 q3 q4 q5 q6 q7
            have hb := HALL.out.best (i : Int) cc r (by omega) (by have := HN.out; omega) hp
            have hnet := net_of_chk HG.out.1
            have hsh := hb.1.short hnet.2.2.2 HG.out.2
            exact ⟨r, q7, q4, q6, q3, by rw [q1, q5], by omega⟩
        subst hcc
        have hnn : yn = xn := by rw [hn1, hn2]
        subst hnn
        have R1 := Lib.hid hr1
        have RY := Lib.hid hr2
        have i1 : (i : Int) < (N : Int) := by omega
        have hx16 : yn ≤ 16 := by omega
        have DC := Lib.hid (show ∀ W, Below wr.heap.size wr W → W.cell? ⟨b1, o1 + i, none⟩ = some (.slice xa yn xc) ∧ W.cell? ⟨b2, o2 + i, none⟩ = some (.int .i64 co) ∧ W.cell? ⟨g, i * 2, none⟩ = some (.slice ya yn yc) ∧ W.cell? ⟨g, i * 2 + 1, none⟩ = some (.int .i64 co) from fun W hW => ⟨(hW.cell (p := ⟨b1, o1 + i, none⟩) hb1).trans hc1, (hW.cell (p := ⟨b2, o2 + i, none⟩) hb2).trans hc2, (hW.cell (p := ⟨g, i * 2, none⟩) hglt).trans c0, (hW.cell (p := ⟨g, i * 2 + 1, none⟩) hglt).trans c1⟩)
        clear hx hv1 hc1 hy hv2 hc2 hSl hxl hyy hok htd c0 c1 hglt hr1 hr2 hn1 hn2 hl16 hb1 hb2
        go_wp2_with fail
        refine region_seq (fun W => Below wr.heap.size wr W) [(0, true), (1, true), (2, true), (3, true), (4, true), (5, true), (6, true), (7, true), (8, true), (9, false), (10, true), (11, true), (12, true), (13, true), (14, true), (15, true), (16, true), (17, true), (18, true), (19, true), (20, true), (21, true), (22, true)]
          (by kernel_rfl) (by kernel_rfl) (by kernel_rfl) (by kernel_rfl) (fun _ _ _ _ _ h => h) (Below.refl _ _).drew ?_
        repeat
          refine seq_pure (v := ?_) rfl (by rfl) (fun W hW => ?_) ?_
          rotate_left
          · obtain ⟨t0, t1, t2, t3⟩ := DC.out W hW
            clear hW
            go_simp
            with_reducible rfl
          simp only [Act.put, List.setIfInBounds_toArray, List.set_cons_zero, List.set_cons_succ]
        refine seq_make rfl (by rfl) (fun K hK => ?_)
        go_simp
        have hsi := sameints_calls xa ya yn yn xc yc wr.heap.size wr.heap.size r r wr.drew R1.out.drew RY.out.drew (by omega) (by omega)
        rw [show decide (r = r) = true by simp] at hsi
        ((with_reducible refine hsi.mono ?_))
        rintro e w5 ⟨rfl, j5, hj5⟩
        have C5 := Lib.hid (show Below wr.heap.size wr w5 from by rw [hj5]; exact bel_drewN (Below.refl _ _).drew j5)
        clear hj5 hsi
        go_simp
        refine hK _ _ (fun W => Below wr.heap.size wr W) (fun W h => h) C5.out ?_
        clear hK K
        repeat
          refine seq_pure (v := ?_) rfl (by rfl) (fun W hW => ?_) ?_
          rotate_left
          · obtain ⟨t0, t1, t2, t3⟩ := DC.out W hW
            clear hW
            go_simp
            with_reducible rfl
          simp only [Act.put, List.setIfInBounds_toArray, List.set_cons_zero, List.set_cons_succ]
        refine seq_done ?_
        go_wp2_with fail
        go_roundw
        case rel => exact ⟨i + 1, by omega, rfl, HB.out.trans (C5.out.mono HB.out.size)⟩
        case measure => simp [intOf]; omega
      · obtain rfl : i = N := by omega
        have i1 : ¬ (i : Int) < (i : Int) := by omega
        go_wp2
        go_ret
        exact ⟨rfl, B2.out.trans ((C4.out.trans (HB.out.mono C4.out.size)).mono B2.out.size)⟩
end Go.Proofs.Ytkagfgnjfdlicaa
