/-
  Contract of the document's own guess for layer 7. Conditions: the object's body reads as bytes, at most 6000.
-/
import Derived.Test.YtocogdcecnnnnaaBodyY
namespace Go.Proofs.Ytocogdcecnnnnaa
open Go.RowKit

set_option maxRecDepth 100000 in
set_option maxHeartbeats 6400000 in
theorem guess_calls (cl ty : Int) (a : Option Addr) (n c : Nat) (l : List UInt8) (w : World) (h : Inb w a n c l) (hn : n ≤ 6000) :
    Calls Try.prog 28 #[.agg #[.int .i64 cl, .int .i64 ty, .slice a n c]] w (GsPost w (gsP cl l)) := by
  have hrd : ∀ (i k : Nat) (x0 x1 : Int), x0 = (i : Int) → x1 = (k : Int) → i ≤ 10000 → 1 ≤ k → k ≤ 8 → ∀ W, Below w.heap.size w W → Calls Try.prog 46 #[.slice a n c, .int .i64 x0, .int .i64 x1] W fun e w' => e = .returned (.int .u64 (rdv l i k : Int)) ∧ W = w' :=
    fun i k x0 x1 e0 e1 hi h1 h8 W hb => read_calls a n c l i k x0 x1 e0 e1 W ⟨(h.1.below hb).more hb.size, h.2⟩ hn hi h1 h8
  have hnd : ∀ (i : Nat) (x0 : Int), x0 = (i : Int) → i ≤ 10000 → ∀ W, Below w.heap.size w W → Calls Try.prog 45 #[.slice a n c, .int .i64 x0] W fun e w' => e = .returned (.int .i64 (nodv l i)) ∧ W = w' :=
    fun i x0 e0 hi W hb => node7v_calls a n c l i x0 e0 W ⟨(h.1.below hb).more hb.size, h.2⟩ hn hi
  have hls : ∀ W, Below w.heap.size w W → Calls Try.prog 47 #[.slice a n c] W (LstPost W (lst l)) :=
    fun W hb => list7_calls a n c l W ⟨(h.1.below hb).more hb.size, h.2⟩ hn
  clear h
  by_cases e0 : cl = 1
  · subst e0
    have hg : gsP 1 l = It.val ⟨1, nodv l 0, (rdv l 6 2 : Int), nodv l 8, 0, none, 0, 0, [], ⟨0, 0, 0, 0, 0, 0⟩⟩ := by simp [gsP, It.val, Wnt.zero]
    have c0 := hnd 0 0 rfl (by omega)
    have c1 := hrd 6 2 6 2 rfl rfl (by omega) (by omega) (by omega)
    have l1 := rdv_lt l 6 2
    have c2 := hnd 8 8 rfl (by omega)
    rw [hg]
    clear hg hrd hnd hls
    generalize nodv l 0 = t0 at *
    generalize rdv l 6 2 = t1 at *
    simp only [Nat.reducePow] at l1
    have q1 : IntKind.i64.wrap (t1 : Int) = (t1 : Int) := by rw [IntKind.wrap_i64]; omega
    generalize nodv l 8 = t2 at *
    go_enter Try.func28, Try.ntmps28
    go_wp2_with fail
    ((with_reducible refine (c0 _ ?_).mono ?_))
    · exact bel_new (bel_new (bel_new (Below.refl _ _) _) _) _
    rintro e w0 ⟨rfl, rfl⟩
    go_wp2_with fail
    ((with_reducible refine (c1 _ ?_).mono ?_))
    · exact bel_new (bel_new (bel_new (Below.refl _ _) _) _) _
    rintro e w1 ⟨rfl, rfl⟩
    go_wp2_with fail
    ((with_reducible refine (c2 _ ?_).mono ?_))
    · exact bel_new (bel_new (bel_new (Below.refl _ _) _) _) _
    rintro e w2 ⟨rfl, rfl⟩
    go_wp2
    refine bodyPost_ret (v := .agg #[.int .i64 1, .int .i64 t0, .int .i64 (t1 : Int), .int .i64 t2, .int .u64 0, .slice none 0 0, .int .u64 0, .int .i64 0, .int .i64 0, .int .u32 0, .int .u32 0, .int .u32 0]) (by simp [results, Try.results28, go_sem]) rfl ?_
    exact ⟨⟨1, t0, (t1 : Int), t2, 0, none, 0, 0, [], ⟨0, 0, 0, 0, 0, 0⟩⟩, rfl, rfl, AccR.nil _ _ _, rfl, bel_new (bel_new (bel_new (Below.refl _ _) _) _) _, by simp only; omega, by simp only; omega, by simp only; omega, by simp only; omega⟩
  by_cases e1 : cl = 3
  · subst e1
    have hg : gsP 3 l = It.val ⟨3, nodv l 0, 0, 0, 0, none, 0, 0, [], ⟨0, 0, 0, 0, 0, 0⟩⟩ := by simp [gsP, It.val, Wnt.zero]
    have c0 := hnd 0 0 rfl (by omega)
    rw [hg]
    clear hg hrd hnd hls
    generalize nodv l 0 = t0 at *
    go_enter Try.func28, Try.ntmps28
    go_wp2_with fail
    ((with_reducible refine (c0 _ ?_).mono ?_))
    · exact bel_new (bel_new (bel_new (Below.refl _ _) _) _) _
    rintro e w0 ⟨rfl, rfl⟩
    go_wp2
    refine bodyPost_ret (v := .agg #[.int .i64 3, .int .i64 t0, .int .i64 0, .int .i64 0, .int .u64 0, .slice none 0 0, .int .u64 0, .int .i64 0, .int .i64 0, .int .u32 0, .int .u32 0, .int .u32 0]) (by simp [results, Try.results28, go_sem]) rfl ?_
    exact ⟨⟨3, t0, 0, 0, 0, none, 0, 0, [], ⟨0, 0, 0, 0, 0, 0⟩⟩, rfl, rfl, AccR.nil _ _ _, rfl, bel_new (bel_new (bel_new (Below.refl _ _) _) _) _, by simp only; omega, by simp only; omega, by simp only; omega, by simp only; omega⟩
  by_cases e2 : cl = 5
  · subst e2
    have hg : gsP 5 l = It.val ⟨5, 0, 0, 0, rdv l 0 4, none, 0, 0, [], ⟨0, 0, 0, 0, 0, 0⟩⟩ := by simp [gsP, It.val, Wnt.zero]
    have c0 := hrd 0 4 0 4 rfl rfl (by omega) (by omega) (by omega)
    have l0 := rdv_lt l 0 4
    rw [hg]
    clear hg hrd hnd hls
    generalize rdv l 0 4 = t0 at *
    simp only [Nat.reducePow] at l0
    go_enter Try.func28, Try.ntmps28
    go_wp2_with fail
    ((with_reducible refine (c0 _ ?_).mono ?_))
    · exact bel_new (bel_new (bel_new (Below.refl _ _) _) _) _
    rintro e w0 ⟨rfl, rfl⟩
    go_wp2
    refine bodyPost_ret (v := .agg #[.int .i64 5, .int .i64 0, .int .i64 0, .int .i64 0, .int .u64 (t0 : Int), .slice none 0 0, .int .u64 0, .int .i64 0, .int .i64 0, .int .u32 0, .int .u32 0, .int .u32 0]) (by simp [results, Try.results28, go_sem]) rfl ?_
    exact ⟨⟨5, 0, 0, 0, t0, none, 0, 0, [], ⟨0, 0, 0, 0, 0, 0⟩⟩, rfl, rfl, AccR.nil _ _ _, rfl, bel_new (bel_new (bel_new (Below.refl _ _) _) _) _, by simp only; omega, by simp only; omega, by simp only; omega, by simp only; omega⟩
  by_cases e3 : cl = 6
  · subst e3
    have hg : gsP 6 l = It.val ⟨6, nodv l 0, (rdv l 5 1 : Int), (rdv l 6 2 : Int), 0, none, 0, 0, [], ⟨0, 0, 0, 0, 0, 0⟩⟩ := by simp [gsP, It.val, Wnt.zero]
    have c0 := hnd 0 0 rfl (by omega)
    have c1 := hrd 5 1 5 1 rfl rfl (by omega) (by omega) (by omega)
    have l1 := rdv_lt l 5 1
    have c2 := hrd 6 2 6 2 rfl rfl (by omega) (by omega) (by omega)
    have l2 := rdv_lt l 6 2
    rw [hg]
    clear hg hrd hnd hls
    generalize nodv l 0 = t0 at *
    generalize rdv l 5 1 = t1 at *
    simp only [Nat.reducePow] at l1
    have q1 : IntKind.i64.wrap (t1 : Int) = (t1 : Int) := by rw [IntKind.wrap_i64]; omega
    generalize rdv l 6 2 = t2 at *
    simp only [Nat.reducePow] at l2
    have q2 : IntKind.i64.wrap (t2 : Int) = (t2 : Int) := by rw [IntKind.wrap_i64]; omega
    go_enter Try.func28, Try.ntmps28
    go_wp2_with fail
    ((with_reducible refine (c0 _ ?_).mono ?_))
    · exact bel_new (bel_new (bel_new (Below.refl _ _) _) _) _
    rintro e w0 ⟨rfl, rfl⟩
    go_wp2_with fail
    ((with_reducible refine (c1 _ ?_).mono ?_))
    · exact bel_new (bel_new (bel_new (Below.refl _ _) _) _) _
    rintro e w1 ⟨rfl, rfl⟩
    go_wp2_with fail
    ((with_reducible refine (c2 _ ?_).mono ?_))
    · exact bel_new (bel_new (bel_new (Below.refl _ _) _) _) _
    rintro e w2 ⟨rfl, rfl⟩
    go_wp2
    refine bodyPost_ret (v := .agg #[.int .i64 6, .int .i64 t0, .int .i64 (t1 : Int), .int .i64 (t2 : Int), .int .u64 0, .slice none 0 0, .int .u64 0, .int .i64 0, .int .i64 0, .int .u32 0, .int .u32 0, .int .u32 0]) (by simp [results, Try.results28, go_sem]) rfl ?_
    exact ⟨⟨6, t0, (t1 : Int), (t2 : Int), 0, none, 0, 0, [], ⟨0, 0, 0, 0, 0, 0⟩⟩, rfl, rfl, AccR.nil _ _ _, rfl, bel_new (bel_new (bel_new (Below.refl _ _) _) _) _, by simp only; omega, by simp only; omega, by simp only; omega, by simp only; omega⟩
  by_cases e4 : cl = 9
  · subst e4
    have hg : gsP 9 l = It.val ⟨9, 0, 0, 0, rdv l 0 8, none, 0, 0, [], ⟨0, 0, 0, 0, 0, 0⟩⟩ := by simp [gsP, It.val, Wnt.zero]
    have c0 := hrd 0 8 0 8 rfl rfl (by omega) (by omega) (by omega)
    have l0 := rdv_lt l 0 8
    rw [hg]
    clear hg hrd hnd hls
    generalize rdv l 0 8 = t0 at *
    simp only [Nat.reducePow] at l0
    go_enter Try.func28, Try.ntmps28
    go_wp2_with fail
    ((with_reducible refine (c0 _ ?_).mono ?_))
    · exact bel_new (bel_new (bel_new (Below.refl _ _) _) _) _
    rintro e w0 ⟨rfl, rfl⟩
    go_wp2
    refine bodyPost_ret (v := .agg #[.int .i64 9, .int .i64 0, .int .i64 0, .int .i64 0, .int .u64 (t0 : Int), .slice none 0 0, .int .u64 0, .int .i64 0, .int .i64 0, .int .u32 0, .int .u32 0, .int .u32 0]) (by simp [results, Try.results28, go_sem]) rfl ?_
    exact ⟨⟨9, 0, 0, 0, t0, none, 0, 0, [], ⟨0, 0, 0, 0, 0, 0⟩⟩, rfl, rfl, AccR.nil _ _ _, rfl, bel_new (bel_new (bel_new (Below.refl _ _) _) _) _, by simp only; omega, by simp only; omega, by simp only; omega, by simp only; omega⟩
  by_cases e5 : cl = 12
  · subst e5
    have hg : gsP 12 l = It.val ⟨12, 0, 0, 0, rdv l 0 8, none, 0, 0, [], ⟨0, 0, 0, 0, 0, 0⟩⟩ := by simp [gsP, It.val, Wnt.zero]
    have c0 := hrd 0 8 0 8 rfl rfl (by omega) (by omega) (by omega)
    have l0 := rdv_lt l 0 8
    rw [hg]
    clear hg hrd hnd hls
    generalize rdv l 0 8 = t0 at *
    simp only [Nat.reducePow] at l0
    go_enter Try.func28, Try.ntmps28
    go_wp2_with fail
    ((with_reducible refine (c0 _ ?_).mono ?_))
    · exact bel_new (bel_new (bel_new (Below.refl _ _) _) _) _
    rintro e w0 ⟨rfl, rfl⟩
    go_wp2
    refine bodyPost_ret (v := .agg #[.int .i64 12, .int .i64 0, .int .i64 0, .int .i64 0, .int .u64 (t0 : Int), .slice none 0 0, .int .u64 0, .int .i64 0, .int .i64 0, .int .u32 0, .int .u32 0, .int .u32 0]) (by simp [results, Try.results28, go_sem]) rfl ?_
    exact ⟨⟨12, 0, 0, 0, t0, none, 0, 0, [], ⟨0, 0, 0, 0, 0, 0⟩⟩, rfl, rfl, AccR.nil _ _ _, rfl, bel_new (bel_new (bel_new (Below.refl _ _) _) _) _, by simp only; omega, by simp only; omega, by simp only; omega, by simp only; omega⟩
  by_cases e6 : cl = 10
  · subst e6
    have hg : gsP 10 l = It.val ⟨10, nodv l 0, (rdv l 6 2 : Int), 0, 0, none, 0, 0, [], ⟨0, 0, 0, 0, 0, 0⟩⟩ := by simp [gsP, It.val, Wnt.zero]
    have c0 := hnd 0 0 rfl (by omega)
    have c1 := hrd 6 2 6 2 rfl rfl (by omega) (by omega) (by omega)
    have l1 := rdv_lt l 6 2
    rw [hg]
    clear hg hrd hnd hls
    generalize nodv l 0 = t0 at *
    generalize rdv l 6 2 = t1 at *
    simp only [Nat.reducePow] at l1
    have q1 : IntKind.i64.wrap (t1 : Int) = (t1 : Int) := by rw [IntKind.wrap_i64]; omega
    go_enter Try.func28, Try.ntmps28
    go_wp2_with fail
    ((with_reducible refine (c0 _ ?_).mono ?_))
    · exact bel_new (bel_new (bel_new (Below.refl _ _) _) _) _
    rintro e w0 ⟨rfl, rfl⟩
    go_wp2_with fail
    ((with_reducible refine (c1 _ ?_).mono ?_))
    · exact bel_new (bel_new (bel_new (Below.refl _ _) _) _) _
    rintro e w1 ⟨rfl, rfl⟩
    go_wp2
    refine bodyPost_ret (v := .agg #[.int .i64 10, .int .i64 t0, .int .i64 (t1 : Int), .int .i64 0, .int .u64 0, .slice none 0 0, .int .u64 0, .int .i64 0, .int .i64 0, .int .u32 0, .int .u32 0, .int .u32 0]) (by simp [results, Try.results28, go_sem]) rfl ?_
    exact ⟨⟨10, t0, (t1 : Int), 0, 0, none, 0, 0, [], ⟨0, 0, 0, 0, 0, 0⟩⟩, rfl, rfl, AccR.nil _ _ _, rfl, bel_new (bel_new (bel_new (Below.refl _ _) _) _) _, by simp only; omega, by simp only; omega, by simp only; omega, by simp only; omega⟩
  by_cases e7 : cl = 11
  · subst e7
    have hg : gsP 11 l = It.val ⟨11, nodv l 0, (rdv l 6 2 : Int), 0, 0, none, 0, 0, [], ⟨0, 0, 0, 0, 0, 0⟩⟩ := by simp [gsP, It.val, Wnt.zero]
    have c0 := hnd 0 0 rfl (by omega)
    have c1 := hrd 6 2 6 2 rfl rfl (by omega) (by omega) (by omega)
    have l1 := rdv_lt l 6 2
    rw [hg]
    clear hg hrd hnd hls
    generalize nodv l 0 = t0 at *
    generalize rdv l 6 2 = t1 at *
    simp only [Nat.reducePow] at l1
    have q1 : IntKind.i64.wrap (t1 : Int) = (t1 : Int) := by rw [IntKind.wrap_i64]; omega
    go_enter Try.func28, Try.ntmps28
    go_wp2_with fail
    ((with_reducible refine (c0 _ ?_).mono ?_))
    · exact bel_new (bel_new (bel_new (Below.refl _ _) _) _) _
    rintro e w0 ⟨rfl, rfl⟩
    go_wp2_with fail
    ((with_reducible refine (c1 _ ?_).mono ?_))
    · exact bel_new (bel_new (bel_new (Below.refl _ _) _) _) _
    rintro e w1 ⟨rfl, rfl⟩
    go_wp2
    refine bodyPost_ret (v := .agg #[.int .i64 11, .int .i64 t0, .int .i64 (t1 : Int), .int .i64 0, .int .u64 0, .slice none 0 0, .int .u64 0, .int .i64 0, .int .i64 0, .int .u32 0, .int .u32 0, .int .u32 0]) (by simp [results, Try.results28, go_sem]) rfl ?_
    exact ⟨⟨11, t0, (t1 : Int), 0, 0, none, 0, 0, [], ⟨0, 0, 0, 0, 0, 0⟩⟩, rfl, rfl, AccR.nil _ _ _, rfl, bel_new (bel_new (bel_new (Below.refl _ _) _) _) _, by simp only; omega, by simp only; omega, by simp only; omega, by simp only; omega⟩
  by_cases e8 : cl = 16
  · subst e8
    have hg : gsP 16 l = It.val ⟨16, (rdv l 0 4 : Int), 0, 0, 0, none, 0, 0, [], ⟨0, 0, 0, 0, 0, 0⟩⟩ := by simp [gsP, It.val, Wnt.zero]
    have c0 := hrd 0 4 0 4 rfl rfl (by omega) (by omega) (by omega)
    have l0 := rdv_lt l 0 4
    rw [hg]
    clear hg hrd hnd hls
    generalize rdv l 0 4 = t0 at *
    simp only [Nat.reducePow] at l0
    have q0 : IntKind.i64.wrap (t0 : Int) = (t0 : Int) := by rw [IntKind.wrap_i64]; omega
    go_enter Try.func28, Try.ntmps28
    go_wp2_with fail
    ((with_reducible refine (c0 _ ?_).mono ?_))
    · exact bel_new (bel_new (bel_new (Below.refl _ _) _) _) _
    rintro e w0 ⟨rfl, rfl⟩
    go_wp2
    refine bodyPost_ret (v := .agg #[.int .i64 16, .int .i64 (t0 : Int), .int .i64 0, .int .i64 0, .int .u64 0, .slice none 0 0, .int .u64 0, .int .i64 0, .int .i64 0, .int .u32 0, .int .u32 0, .int .u32 0]) (by simp [results, Try.results28, go_sem]) rfl ?_
    exact ⟨⟨16, (t0 : Int), 0, 0, 0, none, 0, 0, [], ⟨0, 0, 0, 0, 0, 0⟩⟩, rfl, rfl, AccR.nil _ _ _, rfl, bel_new (bel_new (bel_new (Below.refl _ _) _) _) _, by simp only; omega, by simp only; omega, by simp only; omega, by simp only; omega⟩
  by_cases e9 : cl = 19
  · subst e9
    have hg : gsP 19 l = It.val ⟨19, (rdv l 0 4 : Int), 0, 0, 0, none, 0, 0, [], ⟨0, 0, 0, 0, 0, 0⟩⟩ := by simp [gsP, It.val, Wnt.zero]
    have c0 := hrd 0 4 0 4 rfl rfl (by omega) (by omega) (by omega)
    have l0 := rdv_lt l 0 4
    rw [hg]
    clear hg hrd hnd hls
    generalize rdv l 0 4 = t0 at *
    simp only [Nat.reducePow] at l0
    have q0 : IntKind.i64.wrap (t0 : Int) = (t0 : Int) := by rw [IntKind.wrap_i64]; omega
    go_enter Try.func28, Try.ntmps28
    go_wp2_with fail
    ((with_reducible refine (c0 _ ?_).mono ?_))
    · exact bel_new (bel_new (bel_new (Below.refl _ _) _) _) _
    rintro e w0 ⟨rfl, rfl⟩
    go_wp2
    refine bodyPost_ret (v := .agg #[.int .i64 19, .int .i64 (t0 : Int), .int .i64 0, .int .i64 0, .int .u64 0, .slice none 0 0, .int .u64 0, .int .i64 0, .int .i64 0, .int .u32 0, .int .u32 0, .int .u32 0]) (by simp [results, Try.results28, go_sem]) rfl ?_
    exact ⟨⟨19, (t0 : Int), 0, 0, 0, none, 0, 0, [], ⟨0, 0, 0, 0, 0, 0⟩⟩, rfl, rfl, AccR.nil _ _ _, rfl, bel_new (bel_new (bel_new (Below.refl _ _) _) _) _, by simp only; omega, by simp only; omega, by simp only; omega, by simp only; omega⟩
  by_cases e10 : cl = 20
  · subst e10
    have HG := Lib.hid (show gsP 20 l = ⟨20, 0, 0, 0, 0, lst l, Wnt.zero⟩ by simp [gsP])
    have hth := three_new w 38 28 28 [.int .i64 20, .int .i64 ty, .slice a n c] [.int .i64 0, .int .i64 0, .int .i64 0, .int .i64 0, .int .u64 0, .slice none 0 0, .int .u64 0, .int .i64 0, .int .i64 0, .int .u32 0, .int .u32 0, .int .u32 0] [.int .i64 20, .int .i64 0, .int .i64 0, .int .i64 0, .int .u64 0, .slice none 0 0, .int .u64 0, .int .i64 0, .int .i64 0, .int .u32 0, .int .u32 0, .int .u32 0]
    have H1 := Lib.hid hth.2.1
    have H2 := Lib.hid hth.2.2.1
    have HB := Lib.hid hth.2.2.2
    have hx := hth.1
    have hlc := hls _ hth.2.2.2
    clear hth hrd hnd
    generalize lst l = xs at *
    go_enter Try.func28, Try.ntmps28
    go_wp2_with fail
    ((with_reducible refine hlc.mono ?_))
    rintro e V1 ⟨A, c1, rfl, ha, hb⟩
    clear hlc hls hx
    have h1 := H1.out.below hb
    have h2 := H2.out.below hb
    have HB1 := Lib.hid (bel_more HB.out (Nat.le_refl _) hb)
    have HA := Lib.hid (AccR.lower ha HB.out.size)
    have s5 := h2.cell 5
    have f5 := h2.free 5
    simp only [List.getElem?_cons_zero, List.getElem?_cons_succ] at s5
    have HK1 := Lib.hid h1
    have HK2 := Lib.hid h2
    clear h1 h2 hb ha H1 H2 HB
    go_upto_region 33 with fail
    clear s5 f5
    have HO2 := Lib.hid (HK2.out.set 5 (.slice A xs.length c1))
    simp only [List.set_cons_zero, List.set_cons_succ] at HO2
    have HO1 := Lib.hid (HK1.out.other (p := ⟨w.heap.size + 2, 5, none⟩) (by simp) (.slice A xs.length c1))
    have HOB := Lib.hid (HB1.out.setCell (p := ⟨w.heap.size + 2, 5, none⟩) (by simp) (.slice A xs.length c1))
    have HOA := Lib.hid (AccR.kept HA.out (upd_set_p V1 (w.heap.size + 2) 5 (.slice A xs.length c1)) (fun k hk e => typ_ne (accr_typ HA.out hk) HK2.out.typ (by decide) (by injection e with e; exact e.symm)))
    clear HK1 HK2 HB1 HA
    revert HO2 HO1 HOB HOA
    generalize World.setCell V1 _ _ = V2
    intro HO2 HO1 HOB HOA
    have r0 := HO1.out.cell 0
    have g0 := HO1.out.free 0
    have b0 := HO2.out.cell 0
    have r1 := HO1.out.cell 1
    have g1 := HO1.out.free 1
    have b1 := HO2.out.cell 1
    have r2 := HO1.out.cell 2
    have g2 := HO1.out.free 2
    have b2 := HO2.out.cell 2
    have r3 := HO1.out.cell 3
    have g3 := HO1.out.free 3
    have b3 := HO2.out.cell 3
    have r4 := HO1.out.cell 4
    have g4 := HO1.out.free 4
    have b4 := HO2.out.cell 4
    have r5 := HO1.out.cell 5
    have g5 := HO1.out.free 5
    have b5 := HO2.out.cell 5
    have r6 := HO1.out.cell 6
    have g6 := HO1.out.free 6
    have b6 := HO2.out.cell 6
    have r7 := HO1.out.cell 7
    have g7 := HO1.out.free 7
    have b7 := HO2.out.cell 7
    have r8 := HO1.out.cell 8
    have g8 := HO1.out.free 8
    have b8 := HO2.out.cell 8
    have r9 := HO1.out.cell 9
    have g9 := HO1.out.free 9
    have b9 := HO2.out.cell 9
    have r10 := HO1.out.cell 10
    have g10 := HO1.out.free 10
    have b10 := HO2.out.cell 10
    have r11 := HO1.out.cell 11
    have g11 := HO1.out.free 11
    have b11 := HO2.out.cell 11
    simp only [List.getElem?_cons_zero, List.getElem?_cons_succ] at r0 b0 r1 b1 r2 b2 r3 b3 r4 b4 r5 b5 r6 b6 r7 b7 r8 b8 r9 b9 r10 b10 r11 b11
    go_wp2
    clear r0 g0 b0 r1 g1 b1 r2 g2 b2 r3 g3 b3 r4 g4 b4 r5 g5 b5 r6 g6 b6 r7 g7 b7 r8 g8 b8 r9 g9 b9 r10 g10 b10 r11 g11 b11
    have HP := Lib.hid (item_put HOB.out (by omega) HO1.out (.int .i64 20) (.int .i64 0) (.int .i64 0) (.int .i64 0) (.int .u64 0) (.slice A xs.length c1) (.int .u64 0) (.int .i64 0) (.int .i64 0) (.int .u32 0) (.int .u32 0) (.int .u32 0))
    revert HP
    generalize World.setCell (World.setCell (World.setCell (World.setCell (World.setCell (World.setCell (World.setCell (World.setCell (World.setCell (World.setCell (World.setCell (World.setCell V2 _ _) _ _) _ _) _ _) _ _) _ _) _ _) _ _) _ _) _ _) _ _) _ _ = V3
    intro HP
    have y0 := HP.out.1.cell 0
    have y1 := HP.out.1.cell 1
    have y2 := HP.out.1.cell 2
    have y3 := HP.out.1.cell 3
    have y4 := HP.out.1.cell 4
    have y5 := HP.out.1.cell 5
    have y6 := HP.out.1.cell 6
    have y7 := HP.out.1.cell 7
    have y8 := HP.out.1.cell 8
    have y9 := HP.out.1.cell 9
    have y10 := HP.out.1.cell 10
    have y11 := HP.out.1.cell 11
    simp only [List.getElem?_cons_zero, List.getElem?_cons_succ] at y0 y1 y2 y3 y4 y5 y6 y7 y8 y9 y10 y11
    refine bodyPost_ret (v := .agg #[.int .i64 20, .int .i64 0, .int .i64 0, .int .i64 0, .int .u64 0, .slice A xs.length c1, .int .u64 0, .int .i64 0, .int .i64 0, .int .u32 0, .int .u32 0, .int .u32 0]) (by simp [results, Try.results28, go_sem, y0, y1, y2, y3, y4, y5, y6, y7, y8, y9, y10, y11]) rfl ?_
    rw [HG.out]
    exact ⟨⟨20, 0, 0, 0, 0, A, xs.length, c1, xs, Wnt.zero⟩, rfl, rfl, HP.out.2.2 _ _ _ _ (by decide) HOA.out, rfl, HP.out.2.1, by simp, by simp [Wnt.zero], by simp [Wnt.zero], by simp [Wnt.zero]⟩
  by_cases e11 : cl = 21
  · subst e11
    have HG := Lib.hid (show gsP 21 l = ⟨21, 0, 0, 0, 0, lst l, Wnt.zero⟩ by simp [gsP])
    have hth := three_new w 38 28 28 [.int .i64 21, .int .i64 ty, .slice a n c] [.int .i64 0, .int .i64 0, .int .i64 0, .int .i64 0, .int .u64 0, .slice none 0 0, .int .u64 0, .int .i64 0, .int .i64 0, .int .u32 0, .int .u32 0, .int .u32 0] [.int .i64 21, .int .i64 0, .int .i64 0, .int .i64 0, .int .u64 0, .slice none 0 0, .int .u64 0, .int .i64 0, .int .i64 0, .int .u32 0, .int .u32 0, .int .u32 0]
    have H1 := Lib.hid hth.2.1
    have H2 := Lib.hid hth.2.2.1
    have HB := Lib.hid hth.2.2.2
    have hx := hth.1
    have hlc := hls _ hth.2.2.2
    clear hth hrd hnd
    generalize lst l = xs at *
    go_enter Try.func28, Try.ntmps28
    go_wp2_with fail
    ((with_reducible refine hlc.mono ?_))
    rintro e V1 ⟨A, c1, rfl, ha, hb⟩
    clear hlc hls hx
    have h1 := H1.out.below hb
    have h2 := H2.out.below hb
    have HB1 := Lib.hid (bel_more HB.out (Nat.le_refl _) hb)
    have HA := Lib.hid (AccR.lower ha HB.out.size)
    have s5 := h2.cell 5
    have f5 := h2.free 5
    simp only [List.getElem?_cons_zero, List.getElem?_cons_succ] at s5
    have HK1 := Lib.hid h1
    have HK2 := Lib.hid h2
    clear h1 h2 hb ha H1 H2 HB
    go_upto_region 33 with fail
    clear s5 f5
    have HO2 := Lib.hid (HK2.out.set 5 (.slice A xs.length c1))
    simp only [List.set_cons_zero, List.set_cons_succ] at HO2
    have HO1 := Lib.hid (HK1.out.other (p := ⟨w.heap.size + 2, 5, none⟩) (by simp) (.slice A xs.length c1))
    have HOB := Lib.hid (HB1.out.setCell (p := ⟨w.heap.size + 2, 5, none⟩) (by simp) (.slice A xs.length c1))
    have HOA := Lib.hid (AccR.kept HA.out (upd_set_p V1 (w.heap.size + 2) 5 (.slice A xs.length c1)) (fun k hk e => typ_ne (accr_typ HA.out hk) HK2.out.typ (by decide) (by injection e with e; exact e.symm)))
    clear HK1 HK2 HB1 HA
    revert HO2 HO1 HOB HOA
    generalize World.setCell V1 _ _ = V2
    intro HO2 HO1 HOB HOA
    have r0 := HO1.out.cell 0
    have g0 := HO1.out.free 0
    have b0 := HO2.out.cell 0
    have r1 := HO1.out.cell 1
    have g1 := HO1.out.free 1
    have b1 := HO2.out.cell 1
    have r2 := HO1.out.cell 2
    have g2 := HO1.out.free 2
    have b2 := HO2.out.cell 2
    have r3 := HO1.out.cell 3
    have g3 := HO1.out.free 3
    have b3 := HO2.out.cell 3
    have r4 := HO1.out.cell 4
    have g4 := HO1.out.free 4
    have b4 := HO2.out.cell 4
    have r5 := HO1.out.cell 5
    have g5 := HO1.out.free 5
    have b5 := HO2.out.cell 5
    have r6 := HO1.out.cell 6
    have g6 := HO1.out.free 6
    have b6 := HO2.out.cell 6
    have r7 := HO1.out.cell 7
    have g7 := HO1.out.free 7
    have b7 := HO2.out.cell 7
    have r8 := HO1.out.cell 8
    have g8 := HO1.out.free 8
    have b8 := HO2.out.cell 8
    have r9 := HO1.out.cell 9
    have g9 := HO1.out.free 9
    have b9 := HO2.out.cell 9
    have r10 := HO1.out.cell 10
    have g10 := HO1.out.free 10
    have b10 := HO2.out.cell 10
    have r11 := HO1.out.cell 11
    have g11 := HO1.out.free 11
    have b11 := HO2.out.cell 11
    simp only [List.getElem?_cons_zero, List.getElem?_cons_succ] at r0 b0 r1 b1 r2 b2 r3 b3 r4 b4 r5 b5 r6 b6 r7 b7 r8 b8 r9 b9 r10 b10 r11 b11
    go_wp2
    clear r0 g0 b0 r1 g1 b1 r2 g2 b2 r3 g3 b3 r4 g4 b4 r5 g5 b5 r6 g6 b6 r7 g7 b7 r8 g8 b8 r9 g9 b9 r10 g10 b10 r11 g11 b11
    have HP := Lib.hid (item_put HOB.out (by omega) HO1.out (.int .i64 21) (.int .i64 0) (.int .i64 0) (.int .i64 0) (.int .u64 0) (.slice A xs.length c1) (.int .u64 0) (.int .i64 0) (.int .i64 0) (.int .u32 0) (.int .u32 0) (.int .u32 0))
    revert HP
    generalize World.setCell (World.setCell (World.setCell (World.setCell (World.setCell (World.setCell (World.setCell (World.setCell (World.setCell (World.setCell (World.setCell (World.setCell V2 _ _) _ _) _ _) _ _) _ _) _ _) _ _) _ _) _ _) _ _) _ _) _ _ = V3
    intro HP
    have y0 := HP.out.1.cell 0
    have y1 := HP.out.1.cell 1
    have y2 := HP.out.1.cell 2
    have y3 := HP.out.1.cell 3
    have y4 := HP.out.1.cell 4
    have y5 := HP.out.1.cell 5
    have y6 := HP.out.1.cell 6
    have y7 := HP.out.1.cell 7
    have y8 := HP.out.1.cell 8
    have y9 := HP.out.1.cell 9
    have y10 := HP.out.1.cell 10
    have y11 := HP.out.1.cell 11
    simp only [List.getElem?_cons_zero, List.getElem?_cons_succ] at y0 y1 y2 y3 y4 y5 y6 y7 y8 y9 y10 y11
    refine bodyPost_ret (v := .agg #[.int .i64 21, .int .i64 0, .int .i64 0, .int .i64 0, .int .u64 0, .slice A xs.length c1, .int .u64 0, .int .i64 0, .int .i64 0, .int .u32 0, .int .u32 0, .int .u32 0]) (by simp [results, Try.results28, go_sem, y0, y1, y2, y3, y4, y5, y6, y7, y8, y9, y10, y11]) rfl ?_
    rw [HG.out]
    exact ⟨⟨21, 0, 0, 0, 0, A, xs.length, c1, xs, Wnt.zero⟩, rfl, rfl, HP.out.2.2 _ _ _ _ (by decide) HOA.out, rfl, HP.out.2.1, by simp, by simp [Wnt.zero], by simp [Wnt.zero], by simp [Wnt.zero]⟩
  by_cases e12 : cl = 23
  · subst e12
    have hg : gsP 23 l = It.val ⟨23, 0, 0, 0, rdv l 4 4, none, 0, 0, [], ⟨0, 0, 0, 0, 0, 0⟩⟩ := by simp [gsP, It.val, Wnt.zero]
    have c0 := hrd 4 4 4 4 rfl rfl (by omega) (by omega) (by omega)
    have l0 := rdv_lt l 4 4
    rw [hg]
    clear hg hrd hnd hls
    generalize rdv l 4 4 = t0 at *
    simp only [Nat.reducePow] at l0
    go_enter Try.func28, Try.ntmps28
    go_wp2_with fail
    ((with_reducible refine (c0 _ ?_).mono ?_))
    · exact bel_new (bel_new (bel_new (Below.refl _ _) _) _) _
    rintro e w0 ⟨rfl, rfl⟩
    go_wp2
    refine bodyPost_ret (v := .agg #[.int .i64 23, .int .i64 0, .int .i64 0, .int .i64 0, .int .u64 (t0 : Int), .slice none 0 0, .int .u64 0, .int .i64 0, .int .i64 0, .int .u32 0, .int .u32 0, .int .u32 0]) (by simp [results, Try.results28, go_sem]) rfl ?_
    exact ⟨⟨23, 0, 0, 0, t0, none, 0, 0, [], ⟨0, 0, 0, 0, 0, 0⟩⟩, rfl, rfl, AccR.nil _ _ _, rfl, bel_new (bel_new (bel_new (Below.refl _ _) _) _) _, by simp only; omega, by simp only; omega, by simp only; omega, by simp only; omega⟩
  by_cases e13 : cl = 207
  · subst e13
    have hg : gsP 207 l = It.val ⟨207, 0, 0, 0, 0, none, 0, 0, [], ⟨0, (rdv l 12 1 : Int), (rdv l 13 1 : Int), rdv l 4 4, rdv l 8 4, rdv l 0 4⟩⟩ := by simp [gsP, It.val]
    have c0 := hrd 0 4 0 4 rfl rfl (by omega) (by omega) (by omega)
    have l0 := rdv_lt l 0 4
    have c1 := hrd 4 4 4 4 rfl rfl (by omega) (by omega) (by omega)
    have l1 := rdv_lt l 4 4
    have c2 := hrd 8 4 8 4 rfl rfl (by omega) (by omega) (by omega)
    have l2 := rdv_lt l 8 4
    have c3 := hrd 12 1 12 1 rfl rfl (by omega) (by omega) (by omega)
    have l3 := rdv_lt l 12 1
    have c4 := hrd 13 1 13 1 rfl rfl (by omega) (by omega) (by omega)
    have l4 := rdv_lt l 13 1
    rw [hg]
    clear hg hrd hnd hls
    generalize rdv l 0 4 = t0 at *
    simp only [Nat.reducePow] at l0
    have q0 : IntKind.u32.wrap (t0 : Int) = (t0 : Int) := by rw [IntKind.wrap_u32]; omega
    generalize rdv l 4 4 = t1 at *
    simp only [Nat.reducePow] at l1
    have q1 : IntKind.u32.wrap (t1 : Int) = (t1 : Int) := by rw [IntKind.wrap_u32]; omega
    generalize rdv l 8 4 = t2 at *
    simp only [Nat.reducePow] at l2
    have q2 : IntKind.u32.wrap (t2 : Int) = (t2 : Int) := by rw [IntKind.wrap_u32]; omega
    generalize rdv l 12 1 = t3 at *
    simp only [Nat.reducePow] at l3
    have q3 : IntKind.i64.wrap (t3 : Int) = (t3 : Int) := by rw [IntKind.wrap_i64]; omega
    generalize rdv l 13 1 = t4 at *
    simp only [Nat.reducePow] at l4
    have q4 : IntKind.i64.wrap (t4 : Int) = (t4 : Int) := by rw [IntKind.wrap_i64]; omega
    go_enter Try.func28, Try.ntmps28
    go_wp2_with fail
    ((with_reducible refine (c0 _ ?_).mono ?_))
    · exact bel_new (bel_new (bel_new (Below.refl _ _) _) _) _
    rintro e w0 ⟨rfl, rfl⟩
    go_wp2_with fail
    ((with_reducible refine (c1 _ ?_).mono ?_))
    · exact bel_new (bel_new (bel_new (Below.refl _ _) _) _) _
    rintro e w1 ⟨rfl, rfl⟩
    go_wp2_with fail
    ((with_reducible refine (c2 _ ?_).mono ?_))
    · exact bel_new (bel_new (bel_new (Below.refl _ _) _) _) _
    rintro e w2 ⟨rfl, rfl⟩
    go_wp2_with fail
    ((with_reducible refine (c3 _ ?_).mono ?_))
    · exact bel_new (bel_new (bel_new (Below.refl _ _) _) _) _
    rintro e w3 ⟨rfl, rfl⟩
    go_wp2_with fail
    ((with_reducible refine (c4 _ ?_).mono ?_))
    · exact bel_new (bel_new (bel_new (Below.refl _ _) _) _) _
    rintro e w4 ⟨rfl, rfl⟩
    go_wp2
    refine bodyPost_ret (v := .agg #[.int .i64 207, .int .i64 0, .int .i64 0, .int .i64 0, .int .u64 0, .slice none 0 0, .int .u64 0, .int .i64 (t3 : Int), .int .i64 (t4 : Int), .int .u32 (t1 : Int), .int .u32 (t2 : Int), .int .u32 (t0 : Int)]) (by simp [results, Try.results28, go_sem]) rfl ?_
    exact ⟨⟨207, 0, 0, 0, 0, none, 0, 0, [], ⟨0, (t3 : Int), (t4 : Int), t1, t2, t0⟩⟩, rfl, rfl, AccR.nil _ _ _, rfl, bel_new (bel_new (bel_new (Below.refl _ _) _) _) _, by simp only; omega, by simp only; omega, by simp only; omega, by simp only; omega⟩
  have hg : gsP cl l = It.val ⟨cl, 0, 0, 0, 0, none, 0, 0, [], ⟨0, 0, 0, 0, 0, 0⟩⟩ := by simp [gsP, It.val, Wnt.zero, e0, e1, e2, e3, e4, e5, e6, e7, e8, e9, e10, e11, e12, e13]
  rw [hg]
  clear hg hrd hnd hls
  go_enter Try.func28, Try.ntmps28
  go_wp2
  refine bodyPost_ret (v := .agg #[.int .i64 cl, .int .i64 0, .int .i64 0, .int .i64 0, .int .u64 0, .slice none 0 0, .int .u64 0, .int .i64 0, .int .i64 0, .int .u32 0, .int .u32 0, .int .u32 0]) (by simp [results, Try.results28, go_sem]) rfl ?_
  exact ⟨⟨cl, 0, 0, 0, 0, none, 0, 0, [], ⟨0, 0, 0, 0, 0, 0⟩⟩, rfl, rfl, AccR.nil _ _ _, rfl, bel_new (bel_new (bel_new (Below.refl _ _) _) _) _, by simp only; omega, by simp only; omega, by simp only; omega, by simp only; omega⟩
end Go.Proofs.Ytocogdcecnnnnaa
