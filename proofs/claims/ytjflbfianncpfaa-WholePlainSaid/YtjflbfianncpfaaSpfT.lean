/-
  Contract of spf.Best. Condition: the links read as links, at most 2^30 of them.
-/
import Derived.Test.YtjflbfianncpfaaSpfQ
namespace Go.Proofs.Ytjflbfianncpfaa
set_option maxRecDepth 100000
set_option linter.unusedVariables false
open Go.RowKit

set_option maxHeartbeats 1600000 in
theorem best_ok : BestOk := by
  intro n p m cl L a b w n1 n2 h hm
  have hall := all11_calls n p m cl L a w n1 n2 h hm
  have hnd := isnode11_calls n b
  have HALL := Lib.hid hall
  have HND := Lib.hid hnd
  clear hall hnd h n1 n2 hm
  go_enter Try.func18, Try.ntmps18
  go_wp2_with fail
  ((with_reducible refine HALL.out.mono ?_))
  rintro e w1 ⟨hb1, hcase⟩
  have B1 := Lib.hid hb1
  clear hb1
  rcases hcase with ⟨hno, rfl⟩ | ⟨hz, ha0, han, K, g, RS, C, S, rfl, hN, hs, hall⟩
  · have HNO := Lib.hid hno
    clear hno
    go_wp2
    refine bodyPost_ret (v := .tuple #[.slice none 0 0, .int .i64 0, .int .i64 2]) (by simp [results, Try.results18, go_sem]) rfl ?_
    exact ⟨B1.out, .inl ⟨fun hg => HNO.out ⟨hg.1, hg.2.1, hg.2.2.1⟩, none, 0, rfl⟩⟩
  by_cases hbn : 0 ≤ b ∧ b < n
  case neg =>
    have q2 : decide (0 ≤ b ∧ b < n) = false := decide_eq_false hbn
    have hnd := HND.out
    rw [q2] at hnd
    have HND2 := Lib.hid hnd
    have HNO := Lib.hid hbn
    clear hz ha0 han hN hs hall hbn q2 hnd
    go_wp2_with fail
    ((with_reducible refine (HND2.out w1).mono ?_))
    rintro e w2 ⟨rfl, rfl⟩
    go_wp2
    refine bodyPost_ret (v := .tuple #[.slice none 0 0, .int .i64 0, .int .i64 2]) (by simp [results, Try.results18, go_sem]) rfl ?_
    exact ⟨B1.out, .inl ⟨fun hg => HNO.out ⟨hg.2.2.2.1, hg.2.2.2.2.1⟩, none, 0, rfl⟩⟩
  have q2 : decide (0 ≤ b ∧ b < n) = true := decide_eq_true hbn
  have hnd := HND.out
  rw [q2] at hnd
  have HND2 := Lib.hid hnd
  by_cases hba : b = a
  · have q3 : (b == a) = true := by simpa using hba
    have HNO := Lib.hid hba
    clear hz ha0 han hN hs hall hbn q2 hnd hba
    go_wp2_with fail
    ((with_reducible refine (HND2.out w1).mono ?_))
    rintro e w2 ⟨rfl, rfl⟩
    go_wp2
    refine bodyPost_ret (v := .tuple #[.slice none 0 0, .int .i64 0, .int .i64 2]) (by simp [results, Try.results18, go_sem]) rfl ?_
    exact ⟨B1.out, .inl ⟨fun hg => hg.2.2.2.2.2 HNO.out, none, 0, rfl⟩⟩
  have q3 : (b == a) = false := by simpa using hba
  have HG := Lib.hid (show GoodQ n L a b from ⟨hz, ha0, han, hbn.1, hbn.2, hba⟩)
  obtain ⟨k, rfl⟩ : ∃ k : Nat, b = (k : Int) := ⟨b.toNat, by omega⟩
  have hk : k < K.N := by omega
  have kR : k < RS.length := by rw [hs.lr]; exact hk
  have kC : k < C.length := by rw [hs.lc]; exact hk
  have kS : k < S.length := by rw [hs.ls]; exact hk
  have hx : RS[k]? = some RS[k] := List.getElem?_eq_getElem kR
  have hco : C[k]? = some C[k] := List.getElem?_eq_getElem kC
  have hst : S[k]? = some S[k] := List.getElem?_eq_getElem kS
  have hsat : sat S (k : Int) = S[k] := by unfold sat; rw [Int.toNat_natCast, List.getD_eq_getElem?_getD, hst]; rfl
  have hnote := hs.ok k _ _ _ hx hco hst
  have hbc : w1.cell? ⟨K.B, k, none⟩ = some (.int .i64 C[k]) := by rw [hs.costs.cell k, List.getElem?_map, hco]; rfl
  have hac : w1.cell? ⟨K.A, k, none⟩ = some (rv RS[k]) := by rw [hs.routes.cell k, List.getElem?_map, hx]; rfl
  generalize RS[k] = x at hx hnote hac
  generalize C[k] = co at hco hnote hbc
  generalize S[k] = st at hst hnote hsat
  obtain ⟨ya, yn, yc⟩ := x
  have hac' : w1.cell? ⟨K.A, k, none⟩ = some (.slice ya yn yc) := hac
  have i2 : (k : Int) < (K.N : Int) := by omega
  have H := Lib.hid hs
  have HALLW := Lib.hid hall
  have HSAT := Lib.hid hsat
  have hkn := hbn.2
  have HKN := Lib.hid hkn
  clear hz ha0 han hN hs hall hbn q2 hnd hba hk kR kC kS hx hco hst hsat hac hkn
  cases st with
  | none =>
    obtain ⟨_, rfl⟩ := hnote
    go_wp2_with fail
    ((with_reducible refine (HND2.out w1).mono ?_))
    rintro e w2 ⟨rfl, rfl⟩
    go_wp2
    refine bodyPost_ret (v := .tuple #[.slice none 0 0, .int .i64 0, .int .i64 8]) (by simp [results, Try.results18, go_sem]) rfl ?_
    exact ⟨B1.out, .inr (.inl ⟨HG.out, HALLW.out.none (k : Int) (by omega) HKN.out HSAT.out, none, 0, rfl⟩)⟩
  | some p1 =>
    obtain ⟨c1, r1⟩ := p1
    obtain ⟨e1, hc1, hyn, _, hya, _⟩ := hnote
    subst e1
    replace hyn : yn = r1.length := hyn
    replace hya : AccI w1 w.heap.size ya yc r1 := hya
    have q4 : (co == -1) = false := by simp; omega
    have q5 : decide (co = -1) = false := by simp; omega
    have q6 : ¬ co = -1 := by omega
    have HYA := Lib.hid hya
    have HYN := Lib.hid hyn
    have hlt := And.intro H.out.costs.lt H.out.routes.lt
    have SS := Lib.hid (show ∀ W, Below w1.heap.size w1 W → W.cell? ⟨K.B, k, none⟩ = some (.int .i64 co) ∧ W.cell? ⟨K.A, k, none⟩ = some (.slice ya yn yc) from fun W hW => ⟨(hW.cell (p := ⟨K.B, k, none⟩) hlt.1).trans hbc, (hW.cell (p := ⟨K.A, k, none⟩) hlt.2).trans hac'⟩)
    clear hc1 hyn hya hlt
    go_wp2_with fail
    ((with_reducible refine (HND2.out w1).mono ?_))
    rintro e w2 ⟨rfl, rfl⟩
    go_wp2_with fail
    refine region_seq (fun W => Below w2.heap.size w2 W) [(0, true), (1, true), (2, true), (3, true), (4, true), (5, true), (6, true), (7, true), (8, true), (9, true), (10, true)]
      (by kernel_rfl) (by kernel_rfl) (by kernel_rfl) (by kernel_rfl) (fun _ _ _ _ _ h => h) (Below.refl _ _).drew ?_
    repeat
      refine seq_pure (v := ?_) rfl (by rfl) (fun W hW => ?_) ?_
      rotate_left
      · obtain ⟨t0, t1⟩ := SS.out W hW
        clear hW
        go_simp
        with_reducible rfl
      simp only [Act.put, List.setIfInBounds_toArray, List.set_cons_zero, List.set_cons_succ]
    refine seq_done ?_
    go_wp2
    refine bodyPost_ret (v := .tuple #[.slice ya yn yc, .int .i64 co, .int .i64 0]) (by simp [results, Try.results18, go_sem]) rfl ?_
    have hcap := (AccR.cap HYA.out).1
    have hrow := AccR.row HYA.out
    exact ⟨B1.out.drew, .inr (.inr ⟨HG.out, ya, yc, co, r1, HALLW.out.best (k : Int) co r1 (by omega) HKN.out HSAT.out, by rw [HYN.out], hcap, Row.drewS hrow⟩)⟩
end Go.Proofs.Ytjflbfianncpfaa
