/-
  The document's Find (viaductref17), where a route may be asked for. Condition: at most 2^30 adverts, numbers as large as their types allow.
-/
import Derived.Test.YtjflbfianncpfaaCspG
import Derived.Test.YtjflbfianncpfaaCspD
namespace Go.Proofs.Ytjflbfianncpfaa
set_option maxRecDepth 100000
set_option linter.unusedVariables false
open Go.RowKit

theorem WysR.below {W W' : World} {A : Option Addr} {n : Nat} {S : List (Option (Int × List Int))} {xs : List Wc} (h : WysR W A n S xs) (hb : Below W.heap.size W W') : WysR W' A n S xs :=
  ⟨(h.row.below hb).more hb.size, h.len, fun i x p h1 h2 => by
    have := h.ok i x p h1 h2
    cases p with
    | none => exact this
    | some q => exact ⟨this.1, this.2.1, this.2.2.1, (this.2.2.2.below hb).more hb.size⟩⟩
theorem Wys.read {w W : World} {g c : Nat} {S : List (Option (Int × List Int))} {xs : List Wc} (h : Wys w W g c S xs) : WysR W (some ⟨g, 0, none⟩) S.length S xs :=
  ⟨by have := AccR.row h.row; rwa [h.len] at this, h.len, fun i x p h1 h2 => by
    have := h.ok i x p h1 h2
    cases p with
    | none => exact this
    | some q => exact ⟨this.1, this.2.1, this.2.2.1, this.2.2.2.1⟩⟩
theorem all17_csp {n H f t : Int} {l : List Ad} {a : Ak} {S : List (Option (Int × List Int))} (hok : ok17 n l a H f t) (h : AllK n (lks16 l a) f (hop17 n H) S) :
    (∀ c r, sat S t = some (c, r) → Csp17 (ok17 n l a H f t) (lks16 l a) H f t r c 0) ∧ (sat S t = none → Csp17 (ok17 n l a H f t) (lks16 l a) H f t [] 0 8) := by
  have hL := (ok17_net hok).1
  refine ⟨fun c r hs => ⟨fun hn => absurd hok hn, fun _ => .inl ⟨rfl, (best17_k hL hok.2.1 hok.2.2.2.2.2).2 (h.best t c r hok.2.2.1.1 hok.2.2.1.2 hs)⟩⟩, fun hs => ⟨fun hn => absurd hok hn, fun _ => .inr ⟨rfl, rfl, rfl, fun c' r' hw hl => ?_⟩⟩⟩
  exact h.none t hok.2.2.1.1 hok.2.2.1.2 hs c' r' hw ((lim_hop hL hok.2.1 hok.2.2.2.2.2 hw).1 hl)
def RFnd17 (n : Int) (l : List Ad) (a : Ak) (H f t : Int) (w : World) (e : Ending) (w' : World) : Prop :=
  ∃ (A : Option Addr) (c : Nat) (r : List Int) (co er : Int), e = .returned (.tuple #[.slice A r.length c, .int .i64 co, .int .i64 er]) ∧ Row ei w' w'.heap.size A r.length r ∧ Below w.heap.size w w' ∧ Csp17 (ok17 n l a H f t) (lks16 l a) H f t r co er
set_option maxHeartbeats 12800000 in
theorem rfind17_good (n f t : Int) (b : Option Addr) (m c : Nat) (l : List Ad) (a : Ak) (p : Pl) (w : World) (hx : ∀ x ∈ l, AdOk x) (ha : AkOk a) (hi : AkIn w w.heap.size a p) (hr : Row adc w w.heap.size b m l) (hm : m ≤ 1073741824) (hh : I15 p.h) (hok : ok17 n l a p.h f t) :
    Calls Try.prog 12 #[.int .i64 n, .slice b m c, .agg (akc a.w p).toArray, .int .i64 f, .int .i64 t] w (RFnd17 n l a p.h f t w) := by
  have HQ := Lib.hid (Blk.new w 33 (akc a.w p))
  have hl := bel_new (Below.refl w.heap.size w) (.cells (akc a.w p).toArray 33)
  have HL := Lib.hid hl
  have HLK := Lib.hid (rlinks17_calls b m c l _ ((hr.below hl).more hl.size) hm)
  have HLN := Lib.hid (show (l.map (·.k)).length ≤ 1073741824 by rw [List.length_map]; have := hr.1; omega)
  have HRT := Lib.hid (fun W => (show Calls Try.prog 24 #[.agg (wnc a.w).toArray] W (Yes12 (wRight a.w) W) from rright12_calls a.w W))
  have HWN := Lib.hid (show (Try.prog.info? 28).map (·.size) = some (wnc a.w).length from infoWn16)
  have HOK := Lib.hid hok
  have HX := Lib.hid hx
  have HAK := Lib.hid ha
  have HAI := Lib.hid hi
  have HR := Lib.hid hr
  have HM := Lib.hid hm
  have HH := Lib.hid hh
  have HIA0 := Lib.hid (show (Try.prog.info? 33).map (·.size) = some (akc a.w p).length from infoAkR)
  unfold Lks16 at HLK
  unfold Yes12 at HRT
  clear hl hr hok hx ha hi hm hh
  go_enter Try.func12, Try.ntmps12
  go_upto_region 1 with fail
  generalize (w.alloc (.cells (akc a.w p).toArray 33)) = w1 at *
  go_wp2_with fail
  ((with_reducible refine HLK.out.mono ?_))
  rintro e w2 ⟨A2, c2, rfl, hac, hb⟩
  have L2 := Lib.hid (HL.out.trans (hb.mono HL.out.size))
  have Q2 := Lib.hid (HQ.out.below hb)
  have hck := rcheck_calls n A2 l.length c2 (l.map (·.k)) w2 (by have := AccR.row hac; rwa [List.length_map] at this) (by have := HLN.out; rwa [List.length_map] at this)
  obtain ⟨z, hz⟩ : ∃ z, chk n (l.map (·.k)) = z := ⟨_, rfl⟩
  rw [hz] at hck
  have HZ := Lib.hid hz
  have HCK := Lib.hid hck
  have LW1 := Lib.hid hb
  clear hb hac hck hz HQ HLK
  go_wp2_with fail
  ((with_reducible refine HCK.out.mono ?_))
  rintro e w3 ⟨rfl, hb⟩
  have L3 := Lib.hid (L2.out.trans (hb.mono L2.out.size))
  have Q3 := Lib.hid (Q2.out.below hb)
  clear hb L2 Q2 HCK
  obtain rfl : z = 0 := by rw [← HZ.out]; exact HOK.out.1
  have ho := HOK.out
  obtain ⟨N, rfl⟩ : ∃ N : Nat, n = (N : Int) := ⟨n.toNat, by have := ho.2.1; omega⟩
  obtain ⟨F, rfl⟩ : ∃ F : Nat, f = (F : Int) := ⟨f.toNat, by have := ho.2.1; omega⟩
  obtain ⟨T, rfl⟩ : ∃ T : Nat, t = (T : Int) := ⟨t.toNat, by have := ho.2.2.1; omega⟩
  have hnet := ok17_net ho
  have N16 : N ≤ 16 := by have := hnet.2; omega
  have fN : F < N := by have := ho.2.1; omega
  have tN : T < N := by have := ho.2.2.1; omega
  have HNET := Lib.hid hnet.1
  have d1 : decide ((F : Int) < 0) = false := by simp
  have d2 : decide ((N : Int) ≤ (F : Int)) = false := by simp; omega
  have d3 : decide ((T : Int) < 0) = false := by simp
  have d4 : decide ((N : Int) ≤ (T : Int)) = false := by simp; omega
  have d2' : decide (N ≤ F) = false := by simp; omega
  have d4' : decide (N ≤ T) = false := by simp; omega
  have d5 : ((F : Int) == (T : Int)) = false := by have := ho.2.2.2.1; simpa using this
  have HTF := Lib.hid (And.intro fN tN)
  have HRTW := Lib.hid ho.2.2.2.2.1
  have HH0 := Lib.hid ho.2.2.2.2.2
  rw [HRTW.out] at HRT
  clear ho hnet
  have r3 := Lib.hid (akc_range Q3.out)
  go_wp2_with (refine step_load_at_want (o := ⟨some 48, _, _, _, _, _⟩) (by rfl) rfl rfl r3.out Try.underlying28 rfl HWN.out ?_)
  ((with_reducible refine (HRT.out w3).mono ?_))
  rintro e w4 ⟨rfl, hb⟩
  have L4 := Lib.hid (L3.out.trans (hb.mono L3.out.size))
  have Q4 := Lib.hid (Q3.out.below hb)
  clear hb L3 Q3 r3 HRT d1 d2 d3 d4 d5 d2' d4'
  have x9 : w4.cell? ⟨w.heap.size, 9, none⟩ = some (.int .i64 p.h) := Q4.out.cell 9
  have dh : decide (p.h < 0) = false := decide_eq_false (by have := HH0.out; omega)
  go_wp2_with fail
  clear dh x9
  go_loopw [13, 14] (fun s t W => ∃ (i c1 : Nat) (A : Option Addr), s = .slice A i c1 ∧ t = .int .i64 (i : Int) ∧ i ≤ N ∧ AccR wenc 2 W w4.heap.size 71 A c1 (List.replicate i ⟨none, 0, 0, -1⟩) ∧ Below w4.heap.size w4 W) (fun s t W => N - (intOf t).toNat)
  case atStart => exact ⟨0, 0, none, rfl, rfl, Nat.zero_le _, AccR.nil _ _ _, Below.refl _ _⟩
  case round =>
    obtain ⟨i, c1, A, rfl, rfl, hi, hacc, hb⟩ := hrel
    have HA := Lib.hid hacc
    have HB := Lib.hid hb
    clear hacc hb
    by_cases hlt : i < N
    · have i1 : (i : Int) < (N : Int) := by omega
      obtain ⟨A9, c9, w9, r9, a9, g9⟩ := accr_push (P := Try.prog) wenc_length wenc_one (by omega) HA.out ⟨none, 0, 0, -1⟩ (ty := 69) Try.underlying69 infoWay3 rfl HB.out.size (by rw [List.length_replicate]; omega) (by rw [List.length_replicate]; omega)
      rw [List.length_replicate] at r9
      rw [show List.replicate i (⟨none, 0, 0, -1⟩ : Wc) ++ [⟨none, 0, 0, -1⟩] = List.replicate (i + 1) ⟨none, 0, 0, -1⟩ from List.replicate_succ'.symm] at a9
      have B9 := Lib.hid (show Below w4.heap.size w4 w9 from belr_acc HB.out HA.out g9)
      have A9' := Lib.hid a9
      have R9 := Lib.hid (show (Builtin.append_ #[69, 69] 69 #[.slice A i c1, .slice (some ⟨wr.heap.size, 0, none⟩) 1 1]).run Try.prog (wr.alloc (.cells #[.slice none 0 0, .int .i64 (-1)] 71)) = .ok (.slice A9 (i + 1) c9) w9 from r9)
      clear r9 a9 g9
      go_wp2_with (at_builtin; refine step_append rfl rfl rfl rfl R9.out ?_)
      go_roundw
      case rel => exact ⟨i + 1, c9, A9, rfl, rfl, by omega, A9'.out, B9.out⟩
      case measure => simp [intOf]; omega
    · obtain rfl : i = N := by omega
      have i1 : ¬ (i : Int) < (i : Int) := by omega
      obtain ⟨g, rfl⟩ : ∃ g, A = some ⟨g, 0, none⟩ := by
        rcases HA.out.2 with ⟨_, h0⟩ | ⟨g', cap, cur, hv, _⟩
        · rw [List.length_replicate] at h0; omega
        · injection hv with e; exact ⟨g', e⟩
      clear hlt hi
      have hw0 : Wys w4 wr g c1 (List.replicate i none) (List.replicate i ⟨none, 0, 0, -1⟩) := by
        refine ⟨HA.out, by simp, fun j x q hx hq => ?_, HB.out⟩
        rw [List.getElem?_replicate] at hx hq
        split at hx
        · rename_i hj
          rw [if_pos hj] at hq
          injection hx with hx
          injection hq with hq
          subst hx
          subst hq
          exact ⟨rfl, rfl⟩
        · cases hx
      have hw1 := hw0.below (bel_new (Below.refl _ _) (.cells #[.int .i64 (F : Int)] 3))
      have hfb := Blk.new wr 3 [.int .i64 (F : Int)]
      have hglt := hw0.lt.2
      have hsz : (wr.alloc (.cells #[.int .i64 (F : Int)] 3)).heap.size = wr.heap.size + 1 := by simp
      have hxk : (List.replicate i (⟨none, 0, 0, -1⟩ : Wc))[F]? = some ⟨none, 0, 0, -1⟩ := by rw [List.getElem?_replicate, if_pos fN]
      have f0 := hw1.free (F * 2)
      have f1 := hw1.free (F * 2 + 1)
      have c0 : (wr.alloc (.cells #[.int .i64 (F : Int)] 3)).cell? ⟨g, F * 2, none⟩ = some (.slice none 0 0) := hw1.range hxk 0 _ rfl
      have c1' : (wr.alloc (.cells #[.int .i64 (F : Int)] 3)).cell? ⟨g, F * 2 + 1, none⟩ = some (.int .i64 (-1)) := hw1.range hxk 1 _ rfl
      have hok : WayOk (wr.alloc (.cells #[.int .i64 (F : Int)] 3)) w4.heap.size g ⟨some ⟨wr.heap.size, 0, none⟩, 1, 1, 0⟩ (some (0, [(F : Int)])) := by
        refine ⟨rfl, Int.le_refl _, rfl, ⟨rfl, fun _ => ⟨wr.heap.size, 0, rfl, by rw [hsz]; omega, fun j hj => ?_⟩⟩, fun b o e => ?_⟩
        · have : j = 0 := by simp [ei] at hj; exact hj
          subst this
          exact hfb.cell 0
        · injection e with e
          injection e with e _
          have := HB.out.size
          exact ⟨by omega, by omega⟩
      have hw2 := hw1.store (i := F) ⟨some ⟨wr.heap.size, 0, none⟩, 1, 1, 0⟩ (some (0, [(F : Int)])) hok
      have hst : (List.replicate i (none : Option (Int × List Int))).set F (some (0, [(F : Int)])) = st0 (i : Int) (F : Int) := by unfold st0; simp
      rw [hst] at hw2
      have hw2' : Wys w4 (((wr.alloc (.cells #[.int .i64 (F : Int)] 3)).setCell ⟨g, F * 2, none⟩ (.slice (some ⟨wr.heap.size, 0, none⟩) 1 1)).setCell ⟨g, F * 2 + 1, none⟩ (.int .i64 0)) g c1 (st0 (i : Int) (F : Int)) ((List.replicate i (⟨none, 0, 0, -1⟩ : Wc)).set F ⟨some ⟨wr.heap.size, 0, none⟩, 1, 1, 0⟩) := hw2
      have kk : (F : Int) < (i : Int) := by omega
      clear hw0 hw1 hfb hglt hsz hxk hok hw2 hst
      go_upto_region 9 with fail
      generalize (((wr.alloc (.cells #[.int .i64 (F : Int)] 3)).setCell ⟨g, F * 2, none⟩ (.slice (some ⟨wr.heap.size, 0, none⟩) 1 1)).setCell ⟨g, F * 2 + 1, none⟩ (.int .i64 0)) = w5 at hw2' ⊢
      generalize (List.replicate i (⟨none, 0, 0, -1⟩ : Wc)).set F ⟨some ⟨wr.heap.size, 0, none⟩, 1, 1, 0⟩ = xs0 at hw2'
      have W5 := Lib.hid (show WysR w5 (some ⟨g, 0, none⟩) i (st0 (i : Int) (F : Int)) xs0 from by
        have := hw2'.read
        rwa [show (st0 (i : Int) (F : Int)).length = i by unfold st0; simp] at this)
      have L5 := Lib.hid (L4.out.trans (hw2'.bel.mono L4.out.size))
      have Q5 := Lib.hid (Q4.out.below hw2'.bel)
      clear hw2' f0 f1 c0 c1' HA HB L4 Q4 i1 kk
      generalize wr.heap.size = fb
      have x9 : w5.cell? ⟨w.heap.size, 9, none⟩ = some (.int .i64 p.h) := Q5.out.cell 9
      obtain ⟨K, hK⟩ : ∃ K, hop17 (i : Int) p.h = K := ⟨_, rfl⟩
      have HK := Lib.hid hK
      have HK16 := Lib.hid (show K ≤ 16 from by rw [← hK]; unfold hop17; split <;> omega)
      clear hK
      have hk := HK.out
      unfold hop17 at hk
      by_cases h0 : 0 < p.h
      · have d0 : decide (0 < p.h) = true := decide_eq_true h0
        rw [if_pos h0] at hk
        by_cases h1 : (i : Int) - 1 ≤ p.h
        · have HXE := Lib.hid (show (i : Int) - 1 = (K : Int) by omega)
          have w15 : IntKind.i64.wrap ((i : Int) - 1) = (i : Int) - 1 := by rw [IntWalk.i64_in _ (by omega)]
          clear hk
          have L6 := L5
          have Q6 := Q5
          have W6 := W5
          go_upto_region 12 with fail
          clear x9 L5 Q5 W5 h0 h1 d0 w15
          have HLK6 := Lib.hid (rlinks16_calls a HAK.out p b m c l HX.out w5 (HAI.out.below L6.out) ((HR.out.below L6.out).more L6.out.size) HM.out)
          unfold Lks16 at HLK6
          go_wp2_with (refine step_load (o := ⟨some 82, _, _, _, _, _⟩) rfl rfl rfl Q6.out Try.underlying33 rfl HIA0.out ?_)
          ((with_reducible refine HLK6.out.mono ?_))
          rintro e w7 ⟨A7, c7, rfl, hac, hb⟩
          have L7 := Lib.hid (L6.out.trans (hb.mono L6.out.size))
          have W7 := Lib.hid (W6.out.below hb)
          have U7 := Lib.hid (AccR.row hac)
          have HL7 := Lib.hid (show (lks16 l a).length ≤ 1073741824 from by
            have h1 := lks16_length l a
            have h2 := HR.out.1
            have h3 := HM.out
            omega)
          clear hac hb HLK6 L6 Q6 W6
          have HGA := Lib.hid (fun v => grws_all (L := lks16 l a) (n := (i : Int)) (a := (F : Int)) HNET.out ⟨by omega, by have := HTF.out.1; omega⟩ (by omega) v)
          obtain ⟨ln, hln⟩ : ∃ ln, (lks16 l a).length = ln := ⟨_, rfl⟩
          have HLN7 := Lib.hid hln
          rw [hln] at HL7 U7
          rw [hln]
          clear hln
          go_wp2_with fail
          go_loopw [13, 17] (fun s u W => ∃ (v cn : Nat) (Ax : Option Addr) (xs : List Wc), v ≤ K ∧ s = .slice Ax i cn ∧ u = .int .i64 (v : Int) ∧ WysR W Ax i (grws (lks16 l a) v (st0 (i : Int) (F : Int))) xs ∧ Below w7.heap.size w7 W) (fun s u W => K - (intOf u).toNat)
          case atStart => exact ⟨0, c1, some ⟨g, 0, none⟩, xs0, Nat.zero_le _, rfl, rfl, W7.out, Below.refl _ _⟩
          case round =>
            clear W7
            obtain ⟨v, cn, Ax, xs, hv, rfl, rfl, hw, hb⟩ := hrel
            have HW := Lib.hid hw
            have HB := Lib.hid hb
            clear hw hb
            by_cases hvk : v < K
            · have i1 : (v : Int) < (i : Int) - 1 := by have := HXE.out; omega
              have hg := rgrown_calls Ax A7 i cn ln c7 v (lks16 l a) _ xs (F : Int) wr HW.out ((U7.out.below HB.out).more HB.out.size) HL7.out HNET.out ⟨by omega, by have := HTF.out.1; omega⟩ N16 (HGA.out v)
              unfold GrwPost at hg
              have HG := Lib.hid hg
              have k16 := HK16.out
              clear hg
              go_wp2_with fail
              ((with_reducible refine HG.out.mono ?_))
              rintro e w8 ⟨hb8, g8, c8, xs8, rfl, hw8⟩
              have HW8 := Lib.hid (show WysR w8 (some ⟨g8, 0, none⟩) i (grws (lks16 l a) (v + 1) (st0 (i : Int) (F : Int))) xs8 from by
                have h1 := hw8.read
                have h2 := (HGA.out (v + 1)).len
                have h3 : (grw (lks16 l a) (grws (lks16 l a) v (st0 (i : Int) (F : Int)))).length = i := by
                  have : grws (lks16 l a) (v + 1) (st0 (i : Int) (F : Int)) = grw (lks16 l a) (grws (lks16 l a) v (st0 (i : Int) (F : Int))) := rfl
                  rw [this] at h2
                  omega
                rwa [h3] at h1)
              have HB8 := Lib.hid (HB.out.trans (hb8.mono HB.out.size))
              clear hb8 hw8 HG
              go_wp2_with fail
              go_roundw
              case rel => exact ⟨v + 1, c8, some ⟨g8, 0, none⟩, xs8, by omega, rfl, by first | rfl | (simp; omega), HW8.out, HB8.out⟩
              case measure => simp [intOf]; omega
            · obtain rfl : v = K := by omega
              have i1 : ¬ (v : Int) < (i : Int) - 1 := by have := HXE.out; omega
              have hal := HGA.out v
              have hcs := all17_csp HOK.out (show AllK (i : Int) (lks16 l a) (F : Int) (hop17 (i : Int) p.h) _ from by rw [HK.out]; exact hal)
              have hlen := hal.len
              have LW := Lib.hid (L7.out.trans (HB.out.mono L7.out.size))
              generalize grws (lks16 l a) v (st0 (i : Int) (F : Int)) = S at HW hcs hlen hal
              have HCS := Lib.hid hcs
              have hxl := HW.out.len
              obtain ⟨bx, ox, rfl, hbx, hcx⟩ := HW.out.row.cells wenc_length (by omega)
              obtain ⟨yt, hyt⟩ : ∃ yt, xs[T]? = some yt := ⟨xs[T]'(by have := HTF.out.2; omega), List.getElem?_eq_getElem _⟩
              have hokt := HW.out.ok T yt _ hyt (sat_get (by have := HTF.out.2; omega))
              obtain ⟨hT, hTy⟩ := List.getElem?_eq_some_iff.1 hyt
              have e0 := hcx T hT 0 (by omega)
              have e1 := hcx T hT 1 (by omega)
              rw [hTy] at e0 e1
              obtain ⟨ya, yn, yc, yco⟩ := yt
              have d0 : wr.cell? ⟨bx, ox + T * 2, none⟩ = some (.slice ya yn yc) := e0
              have d1 : wr.cell? ⟨bx, ox + T * 2 + 1, none⟩ = some (.int .i64 yco) := e1
              have ti : (T : Int) < (i : Int) := by have := HTF.out.2; omega
              have ti2 : T < i := HTF.out.2
              clear hcs hal hlen hxl hbx hcx hyt hT hTy e0 e1 hv hvk
              cases hs : sat S (T : Int) with
              | none =>
                rw [hs] at hokt
                obtain ⟨z1, z2⟩ := hokt
                simp only at z1 z2
                subst z1
                subst z2
                have HS := Lib.hid hs
                clear hs
                go_wp2_with fail
                refine bodyPost_ret (v := .tuple #[.slice none 0 0, .int .i64 0, .int .i64 8]) (by simp [results, Try.results12, go_sem]) rfl ?_
                exact ⟨none, 0, [], 0, 8, rfl, Row.nil, LW.out, HCS.out.2 HS.out⟩
              | some q2 =>
                obtain ⟨c2, r2⟩ := q2
                rw [hs] at hokt
                obtain ⟨z1, z2, z3, z4⟩ := hokt
                simp only at z1 z2 z3 z4
                subst z1
                have HS := Lib.hid hs
                have Z3 := Lib.hid z3
                have Z4 := Lib.hid z4
                have zc : ¬ yco < 0 := by omega
                have DD := Lib.hid (And.intro d0 d1)
                clear hs z2 z3 z4
                go_upto_region 19 with fail
                clear d0 d1 zc
                refine region_seq (fun W => W.cell? ⟨bx, ox + T * 2, none⟩ = some (.slice ya yn yc) ∧ W.cell? ⟨bx, ox + T * 2 + 1, none⟩ = some (.int .i64 yco)) [(0, true), (1, true), (2, true), (3, true), (4, true), (5, true), (6, true), (7, true), (8, true), (9, true), (10, true), (11, true), (12, true)] (by kernel_rfl) (by kernel_rfl) (by kernel_rfl) (by kernel_rfl) (fun _ _ _ _ _ h => h) DD.out ?_
                repeat
                  refine seq_pure (v := ?_) rfl (by rfl) (fun W hW => ?_) ?_
                  rotate_left
                  · have t1 := hW.1
                    have t2 := hW.2
                    clear hW
                    go_simp
                    with_reducible rfl
                  simp only [Act.put, List.setIfInBounds_toArray, List.set_cons_zero, List.set_cons_succ]
                refine seq_done ?_
                go_wp2_with fail
                refine bodyPost_ret (v := .tuple #[.slice ya yn yc, .int .i64 yco, .int .i64 0]) (by simp [results, Try.results12, go_sem]) rfl ?_
                have hd := (Below.refl wr.heap.size wr).drew
                exact ⟨ya, yc, r2, yco, 0, by rw [Z3.out], by rw [← Z3.out]; exact (Z4.out.below hd).more hd.size, LW.out.trans (hd.mono LW.out.size), HCS.out.1 _ _ HS.out⟩
        · have HXE := Lib.hid (show p.h = (K : Int) by omega)
          have h2 : ¬ (i : Int) - 1 < p.h := by omega
          have h3 : p.h < (i : Int) - 1 := by omega
          have h4 : decide ((i : Int) - 1 ≤ p.h) = false := decide_eq_false h1
          have h5 : decide ((i : Int) - 1 < p.h) = false := decide_eq_false h2
          have w15 : IntKind.i64.wrap ((i : Int) - 1) = (i : Int) - 1 := by rw [IntWalk.i64_in _ (by omega)]
          clear hk
          have L6 := L5
          have Q6 := Q5
          have W6 := W5
          go_upto_region 12 with fail
          clear x9 L5 Q5 W5 h0 h1 h2 h3 h4 h5 d0 w15
          have HLK6 := Lib.hid (rlinks16_calls a HAK.out p b m c l HX.out w5 (HAI.out.below L6.out) ((HR.out.below L6.out).more L6.out.size) HM.out)
          unfold Lks16 at HLK6
          go_wp2_with (refine step_load (o := ⟨some 82, _, _, _, _, _⟩) rfl rfl rfl Q6.out Try.underlying33 rfl HIA0.out ?_)
          ((with_reducible refine HLK6.out.mono ?_))
          rintro e w7 ⟨A7, c7, rfl, hac, hb⟩
          have L7 := Lib.hid (L6.out.trans (hb.mono L6.out.size))
          have W7 := Lib.hid (W6.out.below hb)
          have U7 := Lib.hid (AccR.row hac)
          have HL7 := Lib.hid (show (lks16 l a).length ≤ 1073741824 from by
            have h1 := lks16_length l a
            have h2 := HR.out.1
            have h3 := HM.out
            omega)
          clear hac hb HLK6 L6 Q6 W6
          have HGA := Lib.hid (fun v => grws_all (L := lks16 l a) (n := (i : Int)) (a := (F : Int)) HNET.out ⟨by omega, by have := HTF.out.1; omega⟩ (by omega) v)
          obtain ⟨ln, hln⟩ : ∃ ln, (lks16 l a).length = ln := ⟨_, rfl⟩
          have HLN7 := Lib.hid hln
          rw [hln] at HL7 U7
          rw [hln]
          clear hln
          go_wp2_with fail
          go_loopw [13, 17] (fun s u W => ∃ (v cn : Nat) (Ax : Option Addr) (xs : List Wc), v ≤ K ∧ s = .slice Ax i cn ∧ u = .int .i64 (v : Int) ∧ WysR W Ax i (grws (lks16 l a) v (st0 (i : Int) (F : Int))) xs ∧ Below w7.heap.size w7 W) (fun s u W => K - (intOf u).toNat)
          case atStart => exact ⟨0, c1, some ⟨g, 0, none⟩, xs0, Nat.zero_le _, rfl, rfl, W7.out, Below.refl _ _⟩
          case round =>
            clear W7
            obtain ⟨v, cn, Ax, xs, hv, rfl, rfl, hw, hb⟩ := hrel
            have HW := Lib.hid hw
            have HB := Lib.hid hb
            clear hw hb
            by_cases hvk : v < K
            · have i1 : (v : Int) < p.h := by have := HXE.out; omega
              have hg := rgrown_calls Ax A7 i cn ln c7 v (lks16 l a) _ xs (F : Int) wr HW.out ((U7.out.below HB.out).more HB.out.size) HL7.out HNET.out ⟨by omega, by have := HTF.out.1; omega⟩ N16 (HGA.out v)
              unfold GrwPost at hg
              have HG := Lib.hid hg
              have k16 := HK16.out
              clear hg
              go_wp2_with fail
              ((with_reducible refine HG.out.mono ?_))
              rintro e w8 ⟨hb8, g8, c8, xs8, rfl, hw8⟩
              have HW8 := Lib.hid (show WysR w8 (some ⟨g8, 0, none⟩) i (grws (lks16 l a) (v + 1) (st0 (i : Int) (F : Int))) xs8 from by
                have h1 := hw8.read
                have h2 := (HGA.out (v + 1)).len
                have h3 : (grw (lks16 l a) (grws (lks16 l a) v (st0 (i : Int) (F : Int)))).length = i := by
                  have : grws (lks16 l a) (v + 1) (st0 (i : Int) (F : Int)) = grw (lks16 l a) (grws (lks16 l a) v (st0 (i : Int) (F : Int))) := rfl
                  rw [this] at h2
                  omega
                rwa [h3] at h1)
              have HB8 := Lib.hid (HB.out.trans (hb8.mono HB.out.size))
              clear hb8 hw8 HG
              go_wp2_with fail
              go_roundw
              case rel => exact ⟨v + 1, c8, some ⟨g8, 0, none⟩, xs8, by omega, rfl, by first | rfl | (simp; omega), HW8.out, HB8.out⟩
              case measure => simp [intOf]; omega
            · obtain rfl : v = K := by omega
              have i1 : ¬ (v : Int) < p.h := by have := HXE.out; omega
              have hal := HGA.out v
              have hcs := all17_csp HOK.out (show AllK (i : Int) (lks16 l a) (F : Int) (hop17 (i : Int) p.h) _ from by rw [HK.out]; exact hal)
              have hlen := hal.len
              have LW := Lib.hid (L7.out.trans (HB.out.mono L7.out.size))
              generalize grws (lks16 l a) v (st0 (i : Int) (F : Int)) = S at HW hcs hlen hal
              have HCS := Lib.hid hcs
              have hxl := HW.out.len
              obtain ⟨bx, ox, rfl, hbx, hcx⟩ := HW.out.row.cells wenc_length (by omega)
              obtain ⟨yt, hyt⟩ : ∃ yt, xs[T]? = some yt := ⟨xs[T]'(by have := HTF.out.2; omega), List.getElem?_eq_getElem _⟩
              have hokt := HW.out.ok T yt _ hyt (sat_get (by have := HTF.out.2; omega))
              obtain ⟨hT, hTy⟩ := List.getElem?_eq_some_iff.1 hyt
              have e0 := hcx T hT 0 (by omega)
              have e1 := hcx T hT 1 (by omega)
              rw [hTy] at e0 e1
              obtain ⟨ya, yn, yc, yco⟩ := yt
              have d0 : wr.cell? ⟨bx, ox + T * 2, none⟩ = some (.slice ya yn yc) := e0
              have d1 : wr.cell? ⟨bx, ox + T * 2 + 1, none⟩ = some (.int .i64 yco) := e1
              have ti : (T : Int) < (i : Int) := by have := HTF.out.2; omega
              have ti2 : T < i := HTF.out.2
              clear hcs hal hlen hxl hbx hcx hyt hT hTy e0 e1 hv hvk
              cases hs : sat S (T : Int) with
              | none =>
                rw [hs] at hokt
                obtain ⟨z1, z2⟩ := hokt
                simp only at z1 z2
                subst z1
                subst z2
                have HS := Lib.hid hs
                clear hs
                go_wp2_with fail
                refine bodyPost_ret (v := .tuple #[.slice none 0 0, .int .i64 0, .int .i64 8]) (by simp [results, Try.results12, go_sem]) rfl ?_
                exact ⟨none, 0, [], 0, 8, rfl, Row.nil, LW.out, HCS.out.2 HS.out⟩
              | some q2 =>
                obtain ⟨c2, r2⟩ := q2
                rw [hs] at hokt
                obtain ⟨z1, z2, z3, z4⟩ := hokt
                simp only at z1 z2 z3 z4
                subst z1
                have HS := Lib.hid hs
                have Z3 := Lib.hid z3
                have Z4 := Lib.hid z4
                have zc : ¬ yco < 0 := by omega
                have DD := Lib.hid (And.intro d0 d1)
                clear hs z2 z3 z4
                go_upto_region 19 with fail
                clear d0 d1 zc
                refine region_seq (fun W => W.cell? ⟨bx, ox + T * 2, none⟩ = some (.slice ya yn yc) ∧ W.cell? ⟨bx, ox + T * 2 + 1, none⟩ = some (.int .i64 yco)) [(0, true), (1, true), (2, true), (3, true), (4, true), (5, true), (6, true), (7, true), (8, true), (9, true), (10, true), (11, true), (12, true)] (by kernel_rfl) (by kernel_rfl) (by kernel_rfl) (by kernel_rfl) (fun _ _ _ _ _ h => h) DD.out ?_
                repeat
                  refine seq_pure (v := ?_) rfl (by rfl) (fun W hW => ?_) ?_
                  rotate_left
                  · have t1 := hW.1
                    have t2 := hW.2
                    clear hW
                    go_simp
                    with_reducible rfl
                  simp only [Act.put, List.setIfInBounds_toArray, List.set_cons_zero, List.set_cons_succ]
                refine seq_done ?_
                go_wp2_with fail
                refine bodyPost_ret (v := .tuple #[.slice ya yn yc, .int .i64 yco, .int .i64 0]) (by simp [results, Try.results12, go_sem]) rfl ?_
                have hd := (Below.refl wr.heap.size wr).drew
                exact ⟨ya, yc, r2, yco, 0, by rw [Z3.out], by rw [← Z3.out]; exact (Z4.out.below hd).more hd.size, LW.out.trans (hd.mono LW.out.size), HCS.out.1 _ _ HS.out⟩
      · have d0 : decide (0 < p.h) = false := decide_eq_false h0
        rw [if_neg h0] at hk
        have HXE := Lib.hid (show (i : Int) - 1 = (K : Int) by omega)
        have w15 : IntKind.i64.wrap ((i : Int) - 1) = (i : Int) - 1 := by rw [IntWalk.i64_in _ (by omega)]
        clear hk
        have L6 := L5
        have Q6 := Q5
        have W6 := W5
        go_upto_region 12 with fail
        clear x9 L5 Q5 W5 h0 d0 w15
        have HLK6 := Lib.hid (rlinks16_calls a HAK.out p b m c l HX.out w5 (HAI.out.below L6.out) ((HR.out.below L6.out).more L6.out.size) HM.out)
        unfold Lks16 at HLK6
        go_wp2_with (refine step_load (o := ⟨some 82, _, _, _, _, _⟩) rfl rfl rfl Q6.out Try.underlying33 rfl HIA0.out ?_)
        ((with_reducible refine HLK6.out.mono ?_))
        rintro e w7 ⟨A7, c7, rfl, hac, hb⟩
        have L7 := Lib.hid (L6.out.trans (hb.mono L6.out.size))
        have W7 := Lib.hid (W6.out.below hb)
        have U7 := Lib.hid (AccR.row hac)
        have HL7 := Lib.hid (show (lks16 l a).length ≤ 1073741824 from by
          have h1 := lks16_length l a
          have h2 := HR.out.1
          have h3 := HM.out
          omega)
        clear hac hb HLK6 L6 Q6 W6
        have HGA := Lib.hid (fun v => grws_all (L := lks16 l a) (n := (i : Int)) (a := (F : Int)) HNET.out ⟨by omega, by have := HTF.out.1; omega⟩ (by omega) v)
        obtain ⟨ln, hln⟩ : ∃ ln, (lks16 l a).length = ln := ⟨_, rfl⟩
        have HLN7 := Lib.hid hln
        rw [hln] at HL7 U7
        rw [hln]
        clear hln
        go_wp2_with fail
        go_loopw [13, 17] (fun s u W => ∃ (v cn : Nat) (Ax : Option Addr) (xs : List Wc), v ≤ K ∧ s = .slice Ax i cn ∧ u = .int .i64 (v : Int) ∧ WysR W Ax i (grws (lks16 l a) v (st0 (i : Int) (F : Int))) xs ∧ Below w7.heap.size w7 W) (fun s u W => K - (intOf u).toNat)
        case atStart => exact ⟨0, c1, some ⟨g, 0, none⟩, xs0, Nat.zero_le _, rfl, rfl, W7.out, Below.refl _ _⟩
        case round =>
          clear W7
          obtain ⟨v, cn, Ax, xs, hv, rfl, rfl, hw, hb⟩ := hrel
          have HW := Lib.hid hw
          have HB := Lib.hid hb
          clear hw hb
          by_cases hvk : v < K
          · have i1 : (v : Int) < (i : Int) - 1 := by have := HXE.out; omega
            have hg := rgrown_calls Ax A7 i cn ln c7 v (lks16 l a) _ xs (F : Int) wr HW.out ((U7.out.below HB.out).more HB.out.size) HL7.out HNET.out ⟨by omega, by have := HTF.out.1; omega⟩ N16 (HGA.out v)
            unfold GrwPost at hg
            have HG := Lib.hid hg
            have k16 := HK16.out
            clear hg
            go_wp2_with fail
            ((with_reducible refine HG.out.mono ?_))
            rintro e w8 ⟨hb8, g8, c8, xs8, rfl, hw8⟩
            have HW8 := Lib.hid (show WysR w8 (some ⟨g8, 0, none⟩) i (grws (lks16 l a) (v + 1) (st0 (i : Int) (F : Int))) xs8 from by
              have h1 := hw8.read
              have h2 := (HGA.out (v + 1)).len
              have h3 : (grw (lks16 l a) (grws (lks16 l a) v (st0 (i : Int) (F : Int)))).length = i := by
                have : grws (lks16 l a) (v + 1) (st0 (i : Int) (F : Int)) = grw (lks16 l a) (grws (lks16 l a) v (st0 (i : Int) (F : Int))) := rfl
                rw [this] at h2
                omega
              rwa [h3] at h1)
            have HB8 := Lib.hid (HB.out.trans (hb8.mono HB.out.size))
            clear hb8 hw8 HG
            go_wp2_with fail
            go_roundw
            case rel => exact ⟨v + 1, c8, some ⟨g8, 0, none⟩, xs8, by omega, rfl, by first | rfl | (simp; omega), HW8.out, HB8.out⟩
            case measure => simp [intOf]; omega
          · obtain rfl : v = K := by omega
            have i1 : ¬ (v : Int) < (i : Int) - 1 := by have := HXE.out; omega
            have hal := HGA.out v
            have hcs := all17_csp HOK.out (show AllK (i : Int) (lks16 l a) (F : Int) (hop17 (i : Int) p.h) _ from by rw [HK.out]; exact hal)
            have hlen := hal.len
            have LW := Lib.hid (L7.out.trans (HB.out.mono L7.out.size))
            generalize grws (lks16 l a) v (st0 (i : Int) (F : Int)) = S at HW hcs hlen hal
            have HCS := Lib.hid hcs
            have hxl := HW.out.len
            obtain ⟨bx, ox, rfl, hbx, hcx⟩ := HW.out.row.cells wenc_length (by omega)
            obtain ⟨yt, hyt⟩ : ∃ yt, xs[T]? = some yt := ⟨xs[T]'(by have := HTF.out.2; omega), List.getElem?_eq_getElem _⟩
            have hokt := HW.out.ok T yt _ hyt (sat_get (by have := HTF.out.2; omega))
            obtain ⟨hT, hTy⟩ := List.getElem?_eq_some_iff.1 hyt
            have e0 := hcx T hT 0 (by omega)
            have e1 := hcx T hT 1 (by omega)
            rw [hTy] at e0 e1
            obtain ⟨ya, yn, yc, yco⟩ := yt
            have d0 : wr.cell? ⟨bx, ox + T * 2, none⟩ = some (.slice ya yn yc) := e0
            have d1 : wr.cell? ⟨bx, ox + T * 2 + 1, none⟩ = some (.int .i64 yco) := e1
            have ti : (T : Int) < (i : Int) := by have := HTF.out.2; omega
            have ti2 : T < i := HTF.out.2
            clear hcs hal hlen hxl hbx hcx hyt hT hTy e0 e1 hv hvk
            cases hs : sat S (T : Int) with
            | none =>
              rw [hs] at hokt
              obtain ⟨z1, z2⟩ := hokt
              simp only at z1 z2
              subst z1
              subst z2
              have HS := Lib.hid hs
              clear hs
              go_wp2_with fail
              refine bodyPost_ret (v := .tuple #[.slice none 0 0, .int .i64 0, .int .i64 8]) (by simp [results, Try.results12, go_sem]) rfl ?_
              exact ⟨none, 0, [], 0, 8, rfl, Row.nil, LW.out, HCS.out.2 HS.out⟩
            | some q2 =>
              obtain ⟨c2, r2⟩ := q2
              rw [hs] at hokt
              obtain ⟨z1, z2, z3, z4⟩ := hokt
              simp only at z1 z2 z3 z4
              subst z1
              have HS := Lib.hid hs
              have Z3 := Lib.hid z3
              have Z4 := Lib.hid z4
              have zc : ¬ yco < 0 := by omega
              have DD := Lib.hid (And.intro d0 d1)
              clear hs z2 z3 z4
              go_upto_region 19 with fail
              clear d0 d1 zc
              refine region_seq (fun W => W.cell? ⟨bx, ox + T * 2, none⟩ = some (.slice ya yn yc) ∧ W.cell? ⟨bx, ox + T * 2 + 1, none⟩ = some (.int .i64 yco)) [(0, true), (1, true), (2, true), (3, true), (4, true), (5, true), (6, true), (7, true), (8, true), (9, true), (10, true), (11, true), (12, true)] (by kernel_rfl) (by kernel_rfl) (by kernel_rfl) (by kernel_rfl) (fun _ _ _ _ _ h => h) DD.out ?_
              repeat
                refine seq_pure (v := ?_) rfl (by rfl) (fun W hW => ?_) ?_
                rotate_left
                · have t1 := hW.1
                  have t2 := hW.2
                  clear hW
                  go_simp
                  with_reducible rfl
                simp only [Act.put, List.setIfInBounds_toArray, List.set_cons_zero, List.set_cons_succ]
              refine seq_done ?_
              go_wp2_with fail
              refine bodyPost_ret (v := .tuple #[.slice ya yn yc, .int .i64 yco, .int .i64 0]) (by simp [results, Try.results12, go_sem]) rfl ?_
              have hd := (Below.refl wr.heap.size wr).drew
              exact ⟨ya, yc, r2, yco, 0, by rw [Z3.out], by rw [← Z3.out]; exact (Z4.out.below hd).more hd.size, LW.out.trans (hd.mono LW.out.size), HCS.out.1 _ _ HS.out⟩
end Go.Proofs.Ytjflbfianncpfaa
