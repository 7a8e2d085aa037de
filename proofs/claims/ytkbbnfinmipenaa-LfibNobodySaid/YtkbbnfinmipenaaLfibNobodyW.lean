/-
  The walk of LfibNobody: for every call it returns true and turns no memory that was there. No condition.
-/
import Derived.Test.YtkbbnfinmipenaaLfibN
import Derived.Test.YtkbbnfinmipenaaLfibS
import Derived.Test.YtkbbnfinmipenaaLfibG
import Derived.Deep.CutBlock
namespace Go.Proofs.Ytkbbnfinmipenaa
open Go.RowKit Go.Maps
set_option linter.unusedVariables false

set_option maxRecDepth 100000 in
set_option maxHeartbeats 3200000 in
theorem nobody5_walk (kind num nx lab : Int) (pa : Option Addr) (pn pc : Nat) (tun ttl : Int) (pay : ByteArray) (w : World) :
    Calls Try.prog 5 #[.agg #[.int .u8 kind, .int .i64 num, .int .i64 nx, .int .i64 lab, .slice pa pn pc, .int .i64 tun, .int .i64 ttl, .string pay]] w fun e w' => e = .returned (.bool true) ∧ Below w.heap.size w w' := by
  have K0 := Lib.hid (bel_new (Below.refl w.heap.size w) (.cells #[.int .u8 kind, .int .i64 num, .int .i64 nx, .int .i64 lab, .slice pa pn pc, .int .i64 tun, .int .i64 ttl, .string pay] 35))
  have P0 := Lib.hid (Blk.new w 35 [.int .u8 kind, .int .i64 num, .int .i64 nx, .int .i64 lab, .slice pa pn pc, .int .i64 tun, .int .i64 ttl, .string pay])
  go_enter Try.func5, Try.ntmps5
  go_wp2_with fail
  generalize w.alloc (.cells #[.int .u8 kind, .int .i64 num, .int .i64 nx, .int .i64 lab, .slice pa pn pc, .int .i64 tun, .int .i64 ttl, .string pay] 35) = w0 at *
  ((with_reducible refine (alive5_calls w0).mono ?_))
  rintro e w1 ⟨rfl, b1⟩
  have K1 := Lib.hid (bel_more K0.out (Nat.le_refl _) b1)
  have P1 := Lib.hid (P0.out.below b1)
  clear b1 K0 P0
  go_wp2_with fail
  have k2 := bel_new (bel_new (Below.refl w1.heap.size w1) (.cells #[.int .i64 0, .map none, .int .i64 0, .map none] 58)) (.cells #[.pointer none, .pointer (some ⟨w1.heap.size, 0, none⟩)] 24)
  have Z2 := Lib.hid ((Blk.new w1 58 [.int .i64 0, .map none, .int .i64 0, .map none]).alloc (.cells #[.pointer none, .pointer (some ⟨w1.heap.size, 0, none⟩)] 24))
  have S2 := Lib.hid (show Blk ((w1.alloc (.cells #[.int .i64 0, .map none, .int .i64 0, .map none] 58)).alloc (.cells #[.pointer none, .pointer (some ⟨w1.heap.size, 0, none⟩)] 24)) (w1.heap.size + 1) 24 [.pointer none, .pointer (some ⟨w1.heap.size, 0, none⟩)] by
    have := Blk.new (w1.alloc (.cells #[.int .i64 0, .map none, .int .i64 0, .map none] 58)) 24 [.pointer none, .pointer (some ⟨w1.heap.size, 0, none⟩)]
    rwa [World.size_alloc] at this)
  have P2 := Lib.hid (P1.out.below k2)
  have K2 := Lib.hid (bel_more K1.out (Nat.le_refl _) k2)
  clear k2 P1 K1
  generalize ((w1.alloc (.cells #[.int .i64 0, .map none, .int .i64 0, .map none] 58)).alloc (.cells #[.pointer none, .pointer (some ⟨w1.heap.size, 0, none⟩)] 24)) = w2 at *
  generalize w1.heap.size = z at *
  go_loopw [20] (fun t W => ∃ i : Nat, i ≤ 2 ∧ t = .int .i64 (i : Int) ∧ Below w2.heap.size w2 W) (fun t _ => 2 - (intOf t).toNat)
  case atStart => exact ⟨0, by omega, rfl, Below.refl _ _⟩
  case round =>
    obtain ⟨i, hi, rfl, hB⟩ := hrel
    have B3 := Lib.hid hB
    have P3 := Lib.hid (P2.out.below hB)
    by_cases hlt : i < 2
    · obtain ⟨v, hv, hnob⟩ : ∃ v, wr.cell? ⟨z + 1, i, none⟩ = some v ∧ Nob wr v := by
        have hS := S2.out.below hB
        have hZ := Z2.out.below hB
        rcases (by omega : i = 0 ∨ i = 1) with rfl | rfl
        · exact ⟨_, hS.cell 0, .inl rfl⟩
        · exact ⟨_, hS.cell 1, .inr ⟨z, rfl, hZ.lt, hZ.cell 1⟩⟩
      have N3 := Lib.hid hnob
      have c4 : wr.cell? ⟨w.heap.size, 4, none⟩ = some (.slice pa pn pc) := P3.out.cell 4
      have c5 : wr.cell? ⟨w.heap.size, 5, none⟩ = some (.int .i64 tun) := P3.out.cell 5
      have c6 : wr.cell? ⟨w.heap.size, 6, none⟩ = some (.int .i64 ttl) := P3.out.cell 6
      have c7 : wr.cell? ⟨w.heap.size, 7, none⟩ = some (.string pay) := P3.out.cell 7
      clear hB hnob
      go_wp2_with fail
      ((with_reducible refine (nob_step N3.out pa pn pc tun ttl pay).mono ?_))
      rintro e w4 ⟨rfl, b4⟩
      have k4 := bel_new b4 (.cells #[.slice none 0 0, .int .i64 0, .int .i64 0, .string ⟨#[]⟩] 33)
      have B4 := Lib.hid (bel_more B3.out (Nat.le_refl _) k4)
      have P4 := Lib.hid (P3.out.below k4)
      have N4 := Lib.hid (N3.out.below k4)
      have Q4 := Lib.hid (Blk.new w4 33 [.slice none 0 0, .int .i64 0, .int .i64 0, .string ⟨#[]⟩])
      clear k4 b4 c4 c5 c6 c7 hv
      go_upto_region 7 with fail
      generalize (w4.alloc (.cells #[.slice none 0 0, .int .i64 0, .int .i64 0, .string ⟨#[]⟩] 33)) = w5 at *
      have q0 : w5.cell? ⟨w4.heap.size, 0, none⟩ = some (.slice none 0 0) := Q4.out.cell 0
      have q1 : w5.cell? ⟨w4.heap.size, 1, none⟩ = some (.int .i64 0) := Q4.out.cell 1
      have q2 : w5.cell? ⟨w4.heap.size, 2, none⟩ = some (.int .i64 0) := Q4.out.cell 2
      have q3 : w5.cell? ⟨w4.heap.size, 3, none⟩ = some (.string ⟨#[]⟩) := Q4.out.cell 3
      go_wp2_with fail
      ((with_reducible refine (refsame5_calls none none 0 0 0 [] 0 0 ⟨#[]⟩ w5 Row.nil Row.nil (by omega)).mono ?_))
      rintro e w6 ⟨rfl, b⟩
      have B6 := Lib.hid (bel_more B4.out (Nat.le_refl _) b)
      have P6 := Lib.hid (P4.out.below b)
      have N6 := Lib.hid (N4.out.below b)
      clear b q0 q1 q2 q3
      have a1 : w6.cell? ⟨w.heap.size, 1, none⟩ = some (.int .i64 num) := P6.out.cell 1
      have a2 : w6.cell? ⟨w.heap.size, 2, none⟩ = some (.int .i64 nx) := P6.out.cell 2
      have a3 : w6.cell? ⟨w.heap.size, 3, none⟩ = some (.int .i64 lab) := P6.out.cell 3
      go_wp2_with fail
      ((with_reducible refine (nob_bind N6.out num nx lab).mono ?_))
      rintro e w7 ⟨rfl, b⟩
      have B7 := Lib.hid (bel_more B6.out (Nat.le_refl _) b)
      have P7 := Lib.hid (P6.out.below b)
      have N7 := Lib.hid (N6.out.below b)
      clear b a1 a2 a3
      have a1 : w7.cell? ⟨w.heap.size, 1, none⟩ = some (.int .i64 num) := P7.out.cell 1
      have a2 : w7.cell? ⟨w.heap.size, 2, none⟩ = some (.int .i64 nx) := P7.out.cell 2
      have a3 : w7.cell? ⟨w.heap.size, 3, none⟩ = some (.int .i64 lab) := P7.out.cell 3
      go_wp2_with fail
      ((with_reducible refine (nob_free N7.out num).mono ?_))
      rintro e w8 ⟨rfl, b⟩
      have B8 := Lib.hid (bel_more B7.out (Nat.le_refl _) b)
      have P8 := Lib.hid (P7.out.below b)
      have N8 := Lib.hid (N7.out.below b)
      clear b a1 a2 a3
      have a1 : w8.cell? ⟨w.heap.size, 1, none⟩ = some (.int .i64 num) := P8.out.cell 1
      have a2 : w8.cell? ⟨w.heap.size, 2, none⟩ = some (.int .i64 nx) := P8.out.cell 2
      have a3 : w8.cell? ⟨w.heap.size, 3, none⟩ = some (.int .i64 lab) := P8.out.cell 3
      go_wp2_with fail
      ((with_reducible refine (nob_map N8.out num nx lab).mono ?_))
      rintro e w9 ⟨rfl, b⟩
      have B9 := Lib.hid (bel_more B8.out (Nat.le_refl _) b)
      have P9 := Lib.hid (P8.out.below b)
      have N9 := Lib.hid (N8.out.below b)
      clear b a1 a2 a3
      have a1 : w9.cell? ⟨w.heap.size, 1, none⟩ = some (.int .i64 num) := P9.out.cell 1
      have a2 : w9.cell? ⟨w.heap.size, 2, none⟩ = some (.int .i64 nx) := P9.out.cell 2
      have a3 : w9.cell? ⟨w.heap.size, 3, none⟩ = some (.int .i64 lab) := P9.out.cell 3
      go_wp2_with fail
      ((with_reducible refine (nob_unmap N9.out num).mono ?_))
      rintro e w10 ⟨rfl, b⟩
      have B10 := Lib.hid (bel_more B9.out (Nat.le_refl _) b)
      have P10 := Lib.hid (P9.out.below b)
      have N10 := Lib.hid (N9.out.below b)
      clear b a1 a2 a3
      have a1 : w10.cell? ⟨w.heap.size, 1, none⟩ = some (.int .i64 num) := P10.out.cell 1
      have a2 : w10.cell? ⟨w.heap.size, 2, none⟩ = some (.int .i64 nx) := P10.out.cell 2
      have a3 : w10.cell? ⟨w.heap.size, 3, none⟩ = some (.int .i64 lab) := P10.out.cell 3
      go_wp2_with fail
      ((with_reducible refine (nob_labels N10.out).mono ?_))
      rintro e w11 ⟨rfl, b⟩
      have B11 := Lib.hid (bel_more B10.out (Nat.le_refl _) b)
      have P11 := Lib.hid (P10.out.below b)
      have N11 := Lib.hid (N10.out.below b)
      clear b a1 a2 a3
      have a1 : w11.cell? ⟨w.heap.size, 1, none⟩ = some (.int .i64 num) := P11.out.cell 1
      have a2 : w11.cell? ⟨w.heap.size, 2, none⟩ = some (.int .i64 nx) := P11.out.cell 2
      have a3 : w11.cell? ⟨w.heap.size, 3, none⟩ = some (.int .i64 lab) := P11.out.cell 3
      go_wp2_with fail
      ((with_reducible refine (nob_tunnels N11.out).mono ?_))
      rintro e w12 ⟨rfl, b⟩
      have B12 := Lib.hid (bel_more B11.out (Nat.le_refl _) b)
      have P12 := Lib.hid (P11.out.below b)
      have N12 := Lib.hid (N11.out.below b)
      clear b a1 a2 a3
      go_wp2
      exact ⟨⟨i + 1, by omega, by go_num, B12.out⟩, by simp [intOf]; omega⟩
    · have B4 := Lib.hid (bel_more K2.out (Nat.le_refl _) hB)
      clear hB
      go_wp2_with fail
      ((with_reducible refine (lnew_yes 3 wr (by omega) (by omega)).mono ?_))
      rintro e w4 ⟨tb, lb, ub, rfl, h4, hBN, b4⟩
      have H4 := Lib.hid h4
      have HB4 := Lib.hid b4
      have HBN := Lib.hid hBN
      clear h4 b4 hBN
      go_wp2_with fail
      ((with_reducible refine (bind_calls H4.out 16 1 17 (by decide)).mono ?_))
      rintro e w5 ⟨rfl, h5, t5⟩
      have e1 : actE (wn 16 16 1048575 && okO 1 17) 3 [] 16 = 0 := by decide +kernel
      have e2 : actL (wn 16 16 1048575 && okO 1 17) 3 [] (16, 1, 17) = [(16, 1, 17)] := by decide +kernel
      rw [e1]
      rw [e2] at h5
      have H5 := Lib.hid h5
      have HB5 := Lib.hid (bel_more B4.out (Nat.le_refl _) (Turn.bel HB4.out (Nat.le_refl _) t5 (by have := HBN.out; simp; omega)))
      clear h5 t5 e1 e2
      go_upto_region 14 with fail
      have R5 := row_alloc (enc := ec) w5 [(16, 0, 5), (99, 0, 5)] #[.int .i64 16, .int .i64 0, .int .i64 5, .int .i64 99, .int .i64 0, .int .i64 5] 61 rfl
      have kk := bel_new (Below.refl (w5.alloc (.cells #[.int .i64 16, .int .i64 0, .int .i64 5, .int .i64 99, .int .i64 0, .int .i64 5] 61)).heap.size (w5.alloc (.cells #[.int .i64 16, .int .i64 0, .int .i64 5, .int .i64 99, .int .i64 0, .int .i64 5] 61))) (.cells #[.slice (some ⟨w5.heap.size, 0, none⟩) 2 2, .int .i64 0, .int .i64 0, .string ⟨#[]⟩] 33)
      have k6 := bel_new (bel_new (Below.refl w5.heap.size w5) (.cells #[.int .i64 16, .int .i64 0, .int .i64 5, .int .i64 99, .int .i64 0, .int .i64 5] 61)) (.cells #[.slice (some ⟨w5.heap.size, 0, none⟩) 2 2, .int .i64 0, .int .i64 0, .string ⟨#[]⟩] 33)
      have R6 := Lib.hid (show Row ec ((w5.alloc (.cells #[.int .i64 16, .int .i64 0, .int .i64 5, .int .i64 99, .int .i64 0, .int .i64 5] 61)).alloc (.cells #[.slice (some ⟨w5.heap.size, 0, none⟩) 2 2, .int .i64 0, .int .i64 0, .string ⟨#[]⟩] 33)) ((w5.alloc (.cells #[.int .i64 16, .int .i64 0, .int .i64 5, .int .i64 99, .int .i64 0, .int .i64 5] 61)).alloc (.cells #[.slice (some ⟨w5.heap.size, 0, none⟩) 2 2, .int .i64 0, .int .i64 0, .string ⟨#[]⟩] 33)).heap.size (some ⟨w5.heap.size, 0, none⟩) 2 [(16, 0, 5), (99, 0, 5)] from (R5.below kk).more kk.size)
      have E6 := Lib.hid ((Blk.new w5 61 [.int .i64 16, .int .i64 0, .int .i64 5, .int .i64 99, .int .i64 0, .int .i64 5]).below kk)
      have P6 := Lib.hid (show Blk ((w5.alloc (.cells #[.int .i64 16, .int .i64 0, .int .i64 5, .int .i64 99, .int .i64 0, .int .i64 5] 61)).alloc (.cells #[.slice (some ⟨w5.heap.size, 0, none⟩) 2 2, .int .i64 0, .int .i64 0, .string ⟨#[]⟩] 33)) (w5.heap.size + 1) 33 [.slice (some ⟨w5.heap.size, 0, none⟩) 2 2, .int .i64 0, .int .i64 0, .string ⟨#[]⟩] by
        have := Blk.new (w5.alloc (.cells #[.int .i64 16, .int .i64 0, .int .i64 5, .int .i64 99, .int .i64 0, .int .i64 5] 61)) 33 [.slice (some ⟨w5.heap.size, 0, none⟩) 2 2, .int .i64 0, .int .i64 0, .string ⟨#[]⟩]
        rwa [World.size_alloc] at this)
      have H6 := Lib.hid (H5.out.below k6)
      have K6 := Lib.hid (bel_more HB5.out (Nat.le_refl _) k6)
      clear R5 kk k6 P2 P3 S2 Z2 K2 B3 B4 HB4 HB5 H4 H5 HBN
      generalize ((w5.alloc (.cells #[.int .i64 16, .int .i64 0, .int .i64 5, .int .i64 99, .int .i64 0, .int .i64 5] 61)).alloc (.cells #[.slice (some ⟨w5.heap.size, 0, none⟩) 2 2, .int .i64 0, .int .i64 0, .string ⟨#[]⟩] 33)) = w6 at *
      generalize w5.heap.size = e at *
      have p0 : w6.cell? ⟨e + 1, 0, none⟩ = some (.slice (some ⟨e, 0, none⟩) 2 2) := P6.out.cell 0
      have p1 : w6.cell? ⟨e + 1, 1, none⟩ = some (.int .i64 0) := P6.out.cell 1
      have p2 : w6.cell? ⟨e + 1, 2, none⟩ = some (.int .i64 0) := P6.out.cell 2
      have p3 : w6.cell? ⟨e + 1, 3, none⟩ = some (.string ⟨#[]⟩) := P6.out.cell 3
      have HS := Lib.hid (step_calls H6.out (some ⟨e, 0, none⟩) 2 2 [(16, 0, 5), (99, 0, 5)] 0 0 ⟨#[]⟩ R6.out (by omega) (by omega) (by decide))
      go_wp2_with fail
      ((with_reducible refine HS.out.mono ?_))
      rintro en w7 h7
      obtain ⟨A7, c7, rfl, a7, b7⟩ := h7.ok (nx := 1) (es := [(17, 0, 4), (99, 0, 5)]) (ttl := 0) rfl
      have k8 := bel_new b7 (.cells #[.slice A7 2 c7, .int .i64 0, .int .i64 0, .string ⟨#[]⟩] 33)
      have A8 := Lib.hid (show AccE (w7.alloc (.cells #[.slice A7 2 c7, .int .i64 0, .int .i64 0, .string ⟨#[]⟩] 33)) w6.heap.size A7 c7 [(17, 0, 4), (99, 0, 5)] from AccR.alloc a7 _)
      have Q8 := Lib.hid (Blk.new w7 33 [.slice A7 2 c7, .int .i64 0, .int .i64 0, .string ⟨#[]⟩])
      have K8 := Lib.hid k8
      have P8 := Lib.hid (P6.out.below k8)
      have E8 := Lib.hid (E6.out.below k8)
      clear h7 a7 b7 k8 p0 p1 p2 p3 HS
      go_upto_region 15 with fail
      generalize (w7.alloc (.cells #[.slice A7 2 c7, .int .i64 0, .int .i64 0, .string ⟨#[]⟩] 33)) = w8 at *
      obtain ⟨g, rfl, hcell, hfree, hge⟩ : ∃ g, A7 = some ⟨g, 0, none⟩ ∧ At3 w8 g 3 99 0 5 ∧ w8.frozen? ⟨g, 3, none⟩ = false ∧ w6.heap.size ≤ g := by
        have ha := A8.out
        obtain ⟨g, o', eg, hg, hat⟩ := row_at3 (AccR.row ha) (by simp)
        have h00 := hat 1 (by simp)
        rcases ha.2 with ⟨_, h1⟩ | ⟨g', cap, cur, hv, hbs, hh, _⟩
        · simp at h1
        · injection hv with e1
          rw [eg] at e1
          injection e1 with e1
          injection e1 with e1 e2
          subst e1
          subst e2
          exact ⟨g, eg, by simpa using h00, by simp [World.frozen?, hh], hbs⟩
      obtain ⟨d0, d1, d2⟩ := hcell
      have p0 : w8.cell? ⟨e + 1, 0, none⟩ = some (.slice (some ⟨e, 0, none⟩) 2 2) := P8.out.cell 0
      have e0 : w8.cell? ⟨e, 0, none⟩ = some (.int .i64 16) := E8.out.cell 0
      have e1 : w8.cell? ⟨e, 1, none⟩ = some (.int .i64 0) := E8.out.cell 1
      have e2 : w8.cell? ⟨e, 2, none⟩ = some (.int .i64 5) := E8.out.cell 2
      have q0 : w8.cell? ⟨w7.heap.size, 0, none⟩ = some (.slice (some ⟨g, 0, none⟩) 2 c7) := Q8.out.cell 0
      go_upto_region 18 with fail
      have K9 := Lib.hid (K8.out.setCell (p := ⟨g, 3, none⟩) hge (.int .i64 7))
      clear d0 d1 d2 p0 e0 e1 e2 q0 hfree A8 Q8 P8 E8 K8
      generalize w8.setCell ⟨g, 3, none⟩ (.int .i64 7) = w9 at *
      have H9 := Lib.hid (H6.out.below K9.out)
      go_wp2_with fail
      ((with_reducible refine (labels_calls H9.out).mono ?_))
      rintro en w10 ⟨A10, c10, rfl, a10, b10⟩
      have A10' := Lib.hid a10
      have B10 := Lib.hid b10
      clear a10 b10
      simp only [List.length_cons, List.length_nil, Nat.zero_add]
      obtain ⟨g2, rfl, hcell, hfree, hge2⟩ : ∃ g, A10 = some ⟨g, 0, none⟩ ∧ At3 w10 g 0 16 1 17 ∧ w10.frozen? ⟨g, 0, none⟩ = false ∧ w9.heap.size ≤ g := by
        have ha := A10'.out
        obtain ⟨g, o', eg, hg, hat⟩ := row_at3 (AccR.row ha) (by simp)
        have h00 := hat 0 (by simp)
        rcases ha.2 with ⟨_, h1⟩ | ⟨g', cap, cur, hv, hbs, hh, _⟩
        · simp at h1
        · injection hv with e1
          rw [eg] at e1
          injection e1 with e1
          injection e1 with e1 e2
          subst e1
          subst e2
          exact ⟨g, eg, by simpa using h00, by simp [World.frozen?, hh], hbs⟩
      obtain ⟨d0, _, _⟩ := hcell
      go_upto_region 20 with fail
      have K11 := Lib.hid (B10.out.setCell (p := ⟨g2, 0, none⟩) hge2 (.int .i64 99))
      clear d0 hfree A10' B10
      generalize w10.setCell ⟨g2, 0, none⟩ (.int .i64 99) = w11 at *
      have k11 := bel_more K9.out (Nat.le_refl _) K11.out
      have H11 := Lib.hid (H6.out.below k11)
      have p0 : w11.cell? ⟨e + 1, 0, none⟩ = some (.slice (some ⟨e, 0, none⟩) 2 2) := (P6.out.below k11).cell 0
      have e3 : w11.cell? ⟨e, 3, none⟩ = some (.int .i64 99) := (E6.out.below k11).cell 3
      have K12 := Lib.hid k11
      clear k11
      go_wp2_with fail
      ((with_reducible refine (labels_calls H11.out).mono ?_))
      rintro en w13 ⟨A13, c13, rfl, a13, b13⟩
      obtain ⟨g3, o3, rfl, _, hat⟩ := row_at3 (AccR.row a13) (by simp)
      obtain ⟨d0, d1, d2⟩ := hat 0 (by simp)
      simp only [List.getElem_cons_zero, Nat.zero_mul, Nat.add_zero] at d0
      have B13 := Lib.hid (bel_more (bel_more K6.out (Nat.le_refl _) K12.out) (Nat.le_refl _) b13)
      clear a13 b13 hat d1 d2 p0 e3
      simp only [List.length_cons, List.length_nil, Nat.zero_add]
      go_wp2
      go_ret
      exact ⟨rfl, B13.out⟩
end Go.Proofs.Ytkbbnfinmipenaa
