/-
  What the code of layer 17 (cspf) must keep (FindOk17), and the laws' find under it. Condition: FindOk17; numbers as large as their types allow; fewer than 2^30 elements in each list.
-/
import Derived.Test.YtjflbfianncpfaaCspM
import Derived.Test.YtjflbfianncpfaaPruU
import Derived.Test.YtjflbfianncpfaaGraphAC
namespace Go.Proofs.Ytjflbfianncpfaa
set_option maxRecDepth 100000
set_option linter.unusedVariables false
open Go.RowKit

/-- May a route be asked for? -/
def ok17 (n : Int) (l : List Ad) (a : Ak) (H f t : Int) : Prop := chk n (l.map (·.k)) = 0 ∧ (0 ≤ f ∧ f < n) ∧ (0 ≤ t ∧ t < n) ∧ f ≠ t ∧ wRight a.w = true ∧ 0 ≤ H
/-- What is found, in memory of its own. -/
def Fnd17 (n : Int) (l : List Ad) (a : Ak) (H f t : Int) (w : World) (e : Ending) (w' : World) : Prop :=
  ∃ (A : Option Addr) (c : Nat) (r : List Int) (co er : Int), e = .returned (.tuple #[.slice A r.length c, .int .i64 co, .int .i64 er]) ∧ AccI w' w.heap.size A c r ∧ Below w.heap.size w w' ∧ Csp17 (ok17 n l a H f t) (lks16 l a) H f t r co er
/-- What the code must keep. -/
def FindOk17 : Prop := ∀ (n f t : Int) (b : Option Addr) (m c : Nat) (l : List Ad) (a : Ak) (p : Pl) (w : World), (∀ x ∈ l, AdOk x) → AkOk a → AkIn w w.heap.size a p → Row adc w w.heap.size b m l → m ≤ 1073741824 → I15 n → I15 f → I15 t → I15 p.h →
  Calls Try.prog 19 #[.int .i64 n, .slice b m c, .agg (akc a.w p).toArray, .int .i64 f, .int .i64 t] w (Fnd17 n l a p.h f t w)
/-- The cells of a case. -/
def csc (n : Int) (b : Option Addr) (m c : Nat) (f t : Int) : List Value := [.int .i64 n, .slice b m c, .int .i64 f, .int .i64 t]
theorem csc_one (n : Int) (b : Option Addr) (m c : Nat) (f t : Int) : ∀ u ∈ csc n b m c f t, u.oneCell' = true := by
  intro u hu
  simp only [csc, List.mem_cons, List.not_mem_nil, or_false] at hu
  rcases hu with rfl | rfl | rfl | rfl <;> rfl
set_option maxHeartbeats 3200000 in
theorem find17_calls (hF : FindOk17) (n f t : Int) (b : Option Addr) (m c : Nat) (l : List Ad) (a : Ak) (p : Pl) (w : World) (hx : ∀ x ∈ l, AdOk x) (ha : AkOk a) (hi : AkIn w w.heap.size a p) (hr : Row adc w w.heap.size b m l) (hm : m ≤ 1073741824) (hn : I15 n) (hf : I15 f) (ht : I15 t) (hh : I15 p.h) :
    Calls Try.prog 11 #[.agg (csc n b m c f t).toArray, .agg (akc a.w p).toArray] w (Fnd17 n l a p.h f t w) := by
  obtain ⟨b0, b1, bl⟩ := alloc2 w (csc n b m c f t) (akc a.w p) 24 33
  have HB := Lib.hid b0
  have HQ := Lib.hid b1
  have HL := Lib.hid bl
  have HR := Lib.hid ((hr.below bl).more bl.size)
  have HI := Lib.hid (hi.below bl)
  have HLE := Lib.hid hr.1
  have HIA := Lib.hid (show (Try.prog.info? 33).map (·.size) = some (akc a.w p).length from infoAkR)
  have HFI := Lib.hid (fun (q : Pl) (B : Option Addr) (d : Nat) W (hq : AkIn W W.heap.size a q) (hr : Row adc W W.heap.size B m l) (he : q.h = p.h) => hF n f t B m d l a q W hx ha hq hr hm hn hf ht (by rw [he]; exact hh))
  unfold Fnd17
  unfold Fnd17 at HFI
  clear b0 b1 bl hr hi hx ha hF hn hf ht hh
  go_enter Try.func11, Try.ntmps11
  go_upto_region 1 with fail
  generalize ((w.alloc (.cells (csc n b m c f t).toArray 24)).alloc _) = w1 at *
  have QB := Lib.hid (fun W (hW : Below w1.heap.size w1 W) => HQ.out.below hW)
  have HT2 := Lib.hid (fun W (hW : Below w1.heap.size w1 W) => theirs16_calls a p W (HI.out.below hW))
  unfold Th16 at HT2
  have HAD := Lib.hid (fun W (hW : Below w1.heap.size w1 W) => adverts16_calls b m c l W ((HR.out.below hW).more hW.size) hm)
  unfold OurT15 at HAD
  rw [HLE.out] at HAD
  go_wp2_with fail
  refine region_seq (fun W => Below w1.heap.size w1 W) [(0, true), (1, true), (2, true), (3, true), (5, true), (7, true), (8, true), (9, true), (10, true), (4, false), (6, false), (11, false), (12, true), (13, true), (14, true), (15, true), (16, true), (17, true)] (by kernel_rfl) (by kernel_rfl) (by kernel_rfl) (by kernel_rfl) (fun _ _ _ _ _ h => h) (Below.refl _ _).drew ?_
  repeat first
    | refine seq_load8 (x := .tmp 3) rfl (by rfl) rfl rfl QB.out Try.underlying33 rfl HIA.out ?_
      simp only [Act.put, List.setIfInBounds_toArray, List.set_cons_zero, List.set_cons_succ]
    | refine seq_pure (v := ?_) rfl (by rfl) (fun W hW => ?_) ?_
      rotate_left
      · have hbx := HB.out.below hW
        have c0 : W.cell? ⟨w.heap.size, 0, none⟩ = some (.int .i64 n) := hbx.cell 0
        have c1 : W.cell? ⟨w.heap.size, 1, none⟩ = some (.slice b m c) := hbx.cell 1
        have c2 : W.cell? ⟨w.heap.size, 2, none⟩ = some (.int .i64 f) := hbx.cell 2
        have c3 : W.cell? ⟨w.heap.size, 3, none⟩ = some (.int .i64 t) := hbx.cell 3
        clear hbx
        clear hW
        go_simp
        with_reducible rfl
      simp only [Act.put, List.setIfInBounds_toArray, List.set_cons_zero, List.set_cons_succ]
  refine seq_make rfl (by rfl) (fun K hK => ?_)
  go_simp
  ((with_reducible refine (HAD.out w1.drew (Below.refl _ _).drew).mono ?_))
  rintro e y1 ⟨A1, c1, rfl, hac, hb⟩
  have SB := Lib.hid (show Below w1.heap.size w1 y1 from below_of_drew hb)
  have G1 := Lib.hid (show Row adc y1 y1.heap.size A1 m l from by have := AccR.row hac; rwa [HLE.out] at this)
  clear hac
  clear hb
  go_simp
  refine hK _ y1 (fun W => Below w1.heap.size w1 W) (fun W h => h) SB.out ?_
  clear hK K
  refine seq_make rfl (by rfl) (fun K hK => ?_)
  go_simp
  ((with_reducible refine (HT2.out y1 SB.out).mono ?_))
  rintro e y2 ⟨A2, c2, rfl, hac, hb⟩
  have SB0 := SB
  have SB := Lib.hid (show Below w1.heap.size w1 y2 from SB.out.trans (hb.mono SB.out.size))
  have I9 := Lib.hid (Th16.akin (HI.out.below SB0.out) hac hb)
  have I5 := Lib.hid (HFI.out _ A1 c1 y2 I9.out ((G1.out.below hb).more hb.size) rfl)
  clear hac I9 G1
  clear hb
  go_simp
  refine hK _ y2 (fun W => Below w1.heap.size w1 W) (fun W h => h) SB.out ?_
  clear hK K
  refine seq_make rfl (by rfl) (fun K hK => ?_)
  go_simp
  ((with_reducible refine (I5.out).mono ?_))
  rintro e y3 ⟨A3, c3, r, co, er, rfl, hac, hb, hcs⟩
  have SB0 := SB
  have SB := Lib.hid (show Below w1.heap.size w1 y3 from SB.out.trans (hb.mono SB.out.size))
  have G3 := Lib.hid (AccR.lower hac (Nat.le_trans HL.out.size SB0.out.size))
  have HCS := Lib.hid hcs
  clear hac hcs
  clear hb
  go_simp
  refine hK _ y3 (fun W => Below w1.heap.size w1 W) (fun W h => h) SB.out ?_
  clear hK K
  repeat first
    | refine seq_pure (v := ?_) rfl (by rfl) (fun W hW => ?_) ?_
      rotate_left
      · clear hW
        go_simp
        with_reducible rfl
      simp only [Act.put, List.setIfInBounds_toArray, List.set_cons_zero, List.set_cons_succ]
  refine seq_done ?_
  go_wp2_with fail
  refine bodyPost_ret (v := .tuple #[.slice A3 r.length c3, .int .i64 co, .int .i64 er]) (by simp [results, Try.results11, go_sem]) rfl ?_
  exact ⟨A3, c3, r, co, er, rfl, G3.out, HL.out.trans (SB.out.mono HL.out.size), HCS.out⟩

/-- The laws' first question. -/
def al17 : List Ad := [⟨⟨0, 1, 0, 1, 0⟩, 0, true, [0, 0, 0, 0, 0, 0, 0, 0]⟩, ⟨⟨1, 2, 0, 1, 0⟩, 0, true, [0, 0, 0, 0, 0, 0, 0, 0]⟩, ⟨⟨2, 3, 0, 1, 0⟩, 0, true, [0, 0, 0, 0, 0, 0, 0, 0]⟩, ⟨⟨0, 3, 0, 5, 0⟩, 0, true, [0, 0, 0, 0, 0, 0, 0, 0]⟩]
def ll17 : List Lk := [⟨0, 1, 0, 1, 0⟩, ⟨1, 2, 0, 1, 0⟩, ⟨2, 3, 0, 1, 0⟩, ⟨0, 3, 0, 5, 0⟩]
def ak17 : Ak := ⟨w016, [], [], []⟩
theorem al17_ok : ∀ x ∈ al17, AdOk x := by
  intro x hx
  simp only [al17, List.mem_cons, List.not_mem_nil, or_false] at hx
  rcases hx with rfl | rfl | rfl | rfl <;> exact ⟨rfl, by decide, by decide, by decide, by decide, by decide⟩
theorem al17_lks : lks16 al17 ak17 = ll17 := by decide
theorem ll17_net : NetOk 4 ll17 := by
  intro z hz
  simp only [ll17, List.mem_cons, List.not_mem_nil, or_false] at hz
  rcases hz with rfl | rfl | rfl | rfl <;> decide
theorem al17_yes (H : Int) (hH : 0 ≤ H) : ok17 4 al17 ak17 H 0 3 := ⟨by decide, by decide, by decide, by decide, by decide, hH⟩
theorem al17_one {r : List Int} {c e : Int} (h : Csp17 (ok17 4 al17 ak17 0 0 3) (lks16 al17 ak17) 0 0 3 r c e) : r = [0, 1, 2, 3] ∧ c = 3 ∧ e = 0 := by
  have hb : Best17 (lks16 al17 ak17) 0 0 3 3 [0, 1, 2, 3] := by
    rw [al17_lks]
    exact (best17_k ll17_net (by decide) (by decide)).2 ((grws_all ll17_net (by decide) (by decide) (hop17 4 0)).best 3 3 [0, 1, 2, 3] (by decide) (by decide) (by decide))
  exact csp17_unique h ⟨fun hn => absurd (al17_yes 0 (by decide)) hn, fun _ => .inl ⟨rfl, hb⟩⟩
theorem al17_two {r : List Int} {c e : Int} (h : Csp17 (ok17 4 al17 ak17 2 0 3) (lks16 al17 ak17) 2 0 3 r c e) : r = [0, 3] ∧ c = 5 ∧ e = 0 := by
  have hb : Best17 (lks16 al17 ak17) 2 0 3 5 [0, 3] := by
    rw [al17_lks]
    exact (best17_k ll17_net (by decide) (by decide)).2 ((grws_all ll17_net (by decide) (by decide) (hop17 4 2)).best 3 5 [0, 3] (by decide) (by decide) (by decide))
  exact csp17_unique h ⟨fun hn => absurd (al17_yes 2 (by decide)) hn, fun _ => .inl ⟨rfl, hb⟩⟩
end Go.Proofs.Ytjflbfianncpfaa
