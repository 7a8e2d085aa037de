/-
  The document's Meets (viaductref17). Condition: numbers as large as their types allow; Metrics of at most 2^40; fewer than 2^30 elements in each list.
-/
import Derived.Test.YtjflbfianncpfaaCspHopsW
import Derived.Test.YtjflbfianncpfaaGraphDL
import Derived.Test.YtjflbfianncpfaaSpfP
namespace Go.Proofs.Ytjflbfianncpfaa
set_option maxRecDepth 100000
set_option linter.unusedVariables false
open Go.RowKit

theorem apart_sub {l : List Ad} {a : Ak} (h : Apart (l.map (·.k))) : Apart (lks16 l a) :=
  List.Pairwise.sublist (List.Sublist.map _ List.filter_sublist) h
theorem small_net {n : Int} {L : List Lk} (h : NetOk n L) : SmallL L := fun x hx => by have := h x hx; omega
set_option maxHeartbeats 3200000 in
theorem rmeets17_calls (a : Ak) (ha : AkOk a) (p : Pl) (b : Option Addr) (m c : Nat) (l : List Ad) (hx : ∀ x ∈ l, AdOk x) (q : Option Addr) (n d : Nat) (r : List Int) (w : World) (h : AkIn w w.heap.size a p) (hr : Row adc w w.heap.size b m l) (hq : Row ei w w.heap.size q n r) (hm : m ≤ 1073741824) (hnd : n ≤ d) (hn : n ≤ 1073741824) (hs : SmallL (lks16 l a)) (hh : I15 p.h) :
    Calls Try.prog 14 #[.slice b m c, .agg (akc a.w p).toArray, .slice q n d] w fun e w' => ∃ B : Bool, e = .returned (.bool B) ∧ (B = true ↔ RouteOk (lks16 l a) r ∧ Lim17 p.h r) ∧ Below w.heap.size w w' := by
  have HQ := Lib.hid (Blk.new w 33 (akc a.w p))
  have hl := bel_new (Below.refl w.heap.size w) (.cells (akc a.w p).toArray 33)
  have HIA := Lib.hid (show (Try.prog.info? 33).map (·.size) = some (akc a.w p).length from infoAkR)
  have HL := Lib.hid hl
  have HQR := Lib.hid ((hq.below hl).more hl.size)
  have HLK := Lib.hid (rlinks16_calls a ha p b m c l hx _ (h.below hl) ((hr.below hl).more hl.size) hm)
  have HS := Lib.hid hs
  have HRL := Lib.hid hq.1
  have HML := Lib.hid (show (lks16 l a).length ≤ 1073741824 by have := lks16_length l a; have := hr.1; omega)
  unfold Lks16 at HLK
  clear hl h hr hq ha hx hs
  go_enter Try.func14, Try.ntmps14
  go_upto_region 1 with fail
  generalize (w.alloc (.cells (akc a.w p).toArray 33)) = w1 at *
  go_wp2_with (refine step_load (o := ⟨some 11, _, _, _, _, _⟩) rfl rfl rfl HQ.out Try.underlying33 rfl HIA.out ?_)
  ((with_reducible refine HLK.out.mono ?_))
  rintro e w2 ⟨A2, c2, rfl, hac, hb⟩
  have L2 := Lib.hid (HL.out.trans (hb.mono HL.out.size))
  have Q2 := Lib.hid (HQ.out.below hb)
  have hrr := rroute_calls A2 q (lks16 l a).length c2 n d _ _ (lks16 l a) r w2 (AccR.row hac) (HQR.out.below hb) HML.out hnd (by omega) HS.out
  have HRR := Lib.hid hrr
  clear hb hac hrr HL HQ HLK
  go_wp2_with fail
  ((with_reducible refine HRR.out.mono ?_))
  rintro e w3 ⟨⟨k, rfl⟩, hcs⟩
  have L3 := Lib.hid (bel_drewN L2.out k)
  have Q3 := Lib.hid (Q2.out.drewN k)
  clear HRR L2 Q2
  generalize w2.drewN k = w3 at *
  obtain ⟨hh1, hh2⟩ := hh
  rcases hcs with ⟨hro, rfl⟩ | ⟨hro, rfl⟩
  · have HRO := Lib.hid hro
    have y9 : w3.cell? ⟨w.heap.size, 9, none⟩ = some (.int .i64 p.h) := Q3.out.cell 9
    clear hro
    by_cases h0 : p.h = 0
    · have q1 : (p.h == 0) = true := by simpa using h0
      have HLI := Lib.hid (show Lim17 p.h r from .inl h0)
      clear h0
      go_wp2_with fail
      go_ret
      exact ⟨true, rfl, by simp [HRO.out, HLI.out], L3.out⟩
    · have q1 : (p.h == 0) = false := by simpa using h0
      by_cases h1 : (n : Int) - 1 ≤ p.h
      · have HLI := Lib.hid (show Lim17 p.h r from .inr (by rw [HRL.out]; exact h1))
        clear h0
        go_wp2_with fail
        go_ret
        exact ⟨true, rfl, by simp [HRO.out, HLI.out], L3.out⟩
      · have HLI := Lib.hid (show ¬ Lim17 p.h r from fun h => by
          rcases h with h | h
          · exact h0 h
          · rw [HRL.out] at h; exact h1 h)
        have h2 : decide ((n : Int) - 1 ≤ p.h) = false := decide_eq_false h1
        clear h0
        go_wp2_with fail
        go_ret
        exact ⟨false, rfl, by simp [HLI.out], L3.out⟩
  · have HRO := Lib.hid hro
    clear hro
    go_wp2_with fail
    go_ret
    exact ⟨false, rfl, by simp [HRO.out], L3.out⟩
end Go.Proofs.Ytjflbfianncpfaa
