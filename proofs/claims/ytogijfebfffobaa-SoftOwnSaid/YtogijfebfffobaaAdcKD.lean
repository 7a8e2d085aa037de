/-
  A slice in a block of its own, out of which one value is struck (what slices.Delete does); the same slice shorter; copies of it. No condition: laws over any encoding.
  Contracts of package admit: keys. cmp.Or of whole numbers, cmp.Compare of words, order, Before, Kin. No condition.
  Contracts of package admit: slices.IndexFunc of entries, whatever the test; the three tests that it is used with. Condition: at most 2^40 entries.
  Contracts of package admit: slices.MinFunc, slices.MaxFunc of a family; what its paths share, and its priority. Condition: at most 2^40 entries, one at least.
  Contracts of package admit: what a family's paths share, its priority, may it be driven out, which one is driven out sooner. Condition: at most 2^40 entries, one at least.
-/
import Derived.Test.YtogijfebfffobaaBase
import Derived.Test.YtogijfebfffobaaAdcMN
import Derived.Test.YtogijfebfffobaaAdmAH
import Derived.Test.YtogijfebfffobaaCmpI
import Derived.WalkSmall
import Derived.Shelf.Abstract
import Derived.Laws.EntriesVeiled
import Derived.Test.YtogijfebfffobaaGroupMC
namespace Go.Proofs.Ytogijfebfffobaa
set_option maxRecDepth 100000
set_option linter.unusedVariables false
open Go.RowKit

section
variable {α : Type} {enc : α → List Value} {k base c g : Nat} {w w' : World} {T : TypeId} {A : Option Addr} {l : List α}
theorem AccR.keepB (h : AccR enc k w base T A c l) (hb : ∀ x, blk A = some x → w'.heap[x]? = w.heap[x]?) : AccR enc k w' base T A c l := by
  obtain ⟨h1, h2⟩ := h
  refine ⟨h1, ?_⟩
  rcases h2 with h2 | ⟨g, cap, cur, hv, hg, hh, r⟩
  · exact .inl h2
  · refine .inr ⟨g, cap, cur, hv, hg, ?_, r⟩
    injection hv with e _ _
    rw [hb g (by rw [e]; rfl)]
    exact hh
theorem AccR.at0 (h : AccR enc k w base T A c l) (h0 : 0 < l.length) : ∃ g, A = some ⟨g, 0, none⟩ := by
  rcases h.2 with ⟨_, hn⟩ | ⟨g, cap, cur, hv, _⟩
  · omega
  · injection hv with e _ _
    exact ⟨g, e⟩
/-- Such a slice in its block. -/
theorem AccR.open (h : AccR enc k w base T (some ⟨g, 0, none⟩) c l) : ∃ cur : Array Value, w.heap[g]? = some (.cells cur T (0, 0)) ∧ l.length ≤ c ∧ c ≤ maxLen ∧ cur.size = c * k ∧ cur.toList.take (l.length * k) = l.flatMap enc ∧ base ≤ g := by
  rcases h.2 with ⟨hv, _⟩ | ⟨g', cap, cur, hv, hg, hh, hnc, hm, hcs, hx⟩
  · injection hv with e _ _; cases e
  · injection hv with e _ e3
    injection e with e
    injection e with e _ _
    subst e; subst e3
    exact ⟨cur, hh, hnc, hm, hcs, hx, hg⟩
theorem AccR.make (hk : ∀ x, (enc x).length = k) {cur : Array Value} (hh : w.heap[g]? = some (.cells cur T (0, 0))) (hn : l.length ≤ c) (hm : c ≤ maxLen) (hs : cur.size = c * k) (hx : cur.toList.take (l.length * k) = l.flatMap enc) (hg : base ≤ g) : AccR enc k w base T (some ⟨g, 0, none⟩) c l :=
  ⟨flat_length hk l, .inr ⟨g, c, cur, rfl, hg, hh, hn, hm, hs, hx⟩⟩
theorem flat_take (hk : ∀ x, (enc x).length = k) : ∀ (l : List α) (i : Nat), (l.flatMap enc).take (i * k) = (l.take i).flatMap enc
  | [], i => by simp
  | x :: l, 0 => by simp
  | x :: l, i + 1 => by
    rw [List.take_succ_cons, List.flatMap_cons, List.flatMap_cons, List.take_append, hk, List.take_of_length_le (by rw [hk, Nat.succ_mul]; omega), show (i + 1) * k - k = i * k by rw [Nat.succ_mul]; omega, flat_take hk l i]
theorem flat_drop (hk : ∀ x, (enc x).length = k) : ∀ (l : List α) (i : Nat), (l.flatMap enc).drop (i * k) = (l.drop i).flatMap enc
  | [], i => by simp
  | x :: l, 0 => by simp
  | x :: l, i + 1 => by
    rw [List.drop_succ_cons, List.flatMap_cons, List.drop_append, hk, List.drop_of_length_le (by rw [hk, Nat.succ_mul]; omega), show (i + 1) * k - k = i * k by rw [Nat.succ_mul]; omega, flat_drop hk l i]; rfl
theorem erase_split (l : List α) (i : Nat) : l.eraseIdx i = l.take i ++ l.drop (i + 1) := List.eraseIdx_eq_take_drop_succ l i
theorem blkg : blk (some (⟨g, 0, none⟩ : Addr)) = some g := rfl
/-- The values behind one are moved one to the front. -/
theorem accr_cut {P : Program} (hk : ∀ x, (enc x).length = k) (h1 : ∀ x, ∀ u ∈ enc x, u.oneCell' = true) (h : AccR enc k w base T (some ⟨g, 0, none⟩) c l) {i : Nat} (hi : i < l.length)
    {ST ty : TypeId} {z : Value} {bytes : Nat} (ht : P.underlying ST = some (.slice T)) (hinfo : (P.info? T).map (fun i => (i.zero, i.size, i.bytes)) = some (some z, k, bytes))
    {A2 : Addr} {cc : Nat} (hA : A2 = ⟨g, (i + 1) * k, none⟩ ∨ i + 1 = l.length) :
    ∃ w', (Builtin.append_ #[ST, ST] ty #[.slice (some ⟨g, 0, none⟩) i c, .slice (some A2) (l.length - (i + 1)) cc]).run P w = .ok (.slice (some ⟨g, 0, none⟩) (l.length - 1) c) w' ∧ AccR enc k w' base T (some ⟨g, 0, none⟩) c (l.eraseIdx i) ∧ w.grownBy w' (some g) ∧ w'.heap.size = w.heap.size := by
  obtain ⟨cur, hh, hn, hm, hs, hx, hg⟩ := h.open
  obtain ⟨ti, hi0, hzz⟩ := Option.map_eq_some_iff.1 hinfo
  simp only [Prod.mk.injEq] at hzz
  obtain ⟨hz, hsz, hby⟩ := hzz
  subst hsz
  have hfl := flat_length hk l
  have hfd : ((l.drop (i + 1)).flatMap enc).length = (l.length - (i + 1)) * ti.size := by rw [flat_length hk, List.length_drop]
  have hmul : (i + 1) * ti.size + (l.length - (i + 1)) * ti.size = l.length * ti.size := by rw [← Nat.add_mul]; congr 1; omega
  have hmul2 : (i + 1) * ti.size = i * ti.size + ti.size := Nat.succ_mul _ _
  have hcl : l.length * ti.size ≤ c * ti.size := Nat.mul_le_mul_right _ hn
  have hcells : ∀ j u, ((l.drop (i + 1)).flatMap enc)[j]? = some u → w.cell? (A2.add j) = some u := by
    intro j u hu
    have hj := (List.getElem?_eq_some_iff.1 hu).1
    rw [hfd] at hj
    rcases hA with rfl | he
    · rw [add_plain, cell_of_row w g _ _ _ _ hh]
      rw [← flat_drop hk, List.getElem?_drop, ← hx, List.getElem?_take_of_lt (by omega)] at hu
      rw [← Array.getElem?_toList]
      exact hu
    · rw [he, Nat.sub_self, Nat.zero_mul] at hj; omega
  have hone : ∀ u ∈ (l.drop (i + 1)).flatMap enc, u.oneCell' = true := by intro v hv; obtain ⟨x, _, hx⟩ := List.mem_flatMap.1 hv; exact h1 x v hx
  have hr := run_append_room (P := P) w ST ty T ti ht hi0 g i c cur hh A2 (l.length - (i + 1)) cc ((l.drop (i + 1)).flatMap enc) hfd hcells hone (by omega) (by rw [hfd, hs]; omega)
  rw [show i + (l.length - (i + 1)) = l.length - 1 by omega] at hr
  refine ⟨_, hr, ?_, ⟨rfl, rfl, rfl, by simp [World.setRow], fun k' hk' hne => setRow_other w g k' _ (fun e => hne (by rw [e]))⟩, by simp [World.setRow]⟩
  have hel : (l.eraseIdx i).length = l.length - 1 := by rw [List.length_eraseIdx]; simp [hi]
  refine AccR.make hk (setRow_heap w g _ _ T _ hh) (by omega) hm ?_ ?_ hg
  · simp only [List.size_toArray, List.length_append, List.length_take, List.length_drop, hfd, Array.length_toList, hs]
    omega
  · rw [hel, erase_split, List.flatMap_append, ← flat_take hk, ← hx]
    simp only [List.append_assoc]
    have hm1 : (l.length - 1) * ti.size = l.length * ti.size - ti.size := by rw [Nat.sub_mul, Nat.one_mul]
    have hm2 : (l.length - 1) * ti.size - i * ti.size = ((l.drop (i + 1)).flatMap enc).length := by rw [hfd, ← Nat.sub_mul]; congr 1; omega
    have e1 : (List.take (i * ti.size) cur.toList).length = i * ti.size := by
      rw [List.length_take, Array.length_toList, hs]; omega
    rw [List.take_append, e1, hm2, List.take_take, List.take_take, List.take_left, Nat.min_eq_right (a := (l.length - 1) * ti.size) (by omega), Nat.min_eq_left (a := i * ti.size) (by omega)]
/-- What lies behind the values is made zero. -/
theorem accr_clear {P : Program} (hk : ∀ x, (enc x).length = k) (h : AccR enc k w base T (some ⟨g, 0, none⟩) c l) (hc : l.length + 1 ≤ c)
    {ST : TypeId} {z : Value} (ht : P.underlying ST = some (.slice T)) (hz : ∀ w, (zeroValue T).run P w = .ok z w) (hzs : (Builtin.zeroCells z.cells 1).toList.length = k) (h1 : ∀ u ∈ (Builtin.zeroCells z.cells 1).toList, u.oneCell' = true) {cc : Nat} :
    ∃ w', (∀ ty, (Builtin.clear_ #[ST] ty #[.slice (some ⟨g, l.length * k, none⟩) 1 cc]).run P w = .ok (.tuple #[]) w') ∧ AccR enc k w' base T (some ⟨g, 0, none⟩) c l ∧ w.grownBy w' (some g) ∧ w'.heap.size = w.heap.size := by
  obtain ⟨cur, hh, hn, hm, hs, hx, hg⟩ := h.open
  obtain ⟨zs, hzz⟩ : ∃ zs, (Builtin.zeroCells z.cells 1).toList = zs := ⟨_, rfl⟩
  rw [hzz] at hzs h1
  have hck : (l.length + 1) * k ≤ c * k := Nat.mul_le_mul_right _ hc
  rw [Nat.succ_mul] at hck
  have hst := run_storeCells_at P g (l.length * k) T zs 0 cur w hh (by rw [hs, hzs]; omega) h1
  simp only [Nat.add_zero] at hst
  refine ⟨w.setRow g (cur.toList.take (l.length * k) ++ zs ++ cur.toList.drop (l.length * k + zs.length)).toArray, ?_, ?_, ⟨rfl, rfl, rfl, by simp [World.setRow], fun k' hk' hne => setRow_other w g k' _ (fun e => hne (by rw [e]))⟩, by simp [World.setRow]⟩
  · intro ty
    simp [Builtin.clear_, run_underlying ht, hz, hzz, hst]
  · refine AccR.make hk (setRow_heap w g _ _ T _ hh) hn hm ?_ ?_ hg
    · simp only [List.size_toArray, List.length_append, List.length_take, List.length_drop, Array.length_toList, hs, hzs]
      omega
    · show (cur.toList.take (l.length * k) ++ zs ++ cur.toList.drop (l.length * k + zs.length)).take (l.length * k) = _
      rw [List.append_assoc, List.take_append, List.take_take, Nat.min_self]
      have e0 : cur.toList.length = c * k := by rw [Array.length_toList, hs]
      have e1 : (List.take (l.length * k) cur.toList).length = l.length * k := by rw [List.length_take, e0]; omega
      rw [e1, Nat.sub_self, List.take_zero, List.append_nil, hx]
/-- A slice of no values, made with room in a new block. -/
theorem accr_made (w : World) {b : Nat} (hb : b ≤ w.heap.size) {cur : Array Value} {n : Nat} (hn : n ≤ maxLen) (hs : cur.size = n * k) : AccR enc k (w.alloc (.cells cur T)) b T (some ⟨w.heap.size, 0, none⟩) n ([] : List α) :=
  ⟨by simp, .inr ⟨w.heap.size, n, cur, rfl, hb, heap_alloc_new w _, Nat.zero_le _, hn, hs, by simp⟩⟩
end
end Go.Proofs.Ytogijfebfffobaa

namespace Go.Proofs.Ytogijfebfffobaa
set_option maxRecDepth 100000
set_option linter.unusedVariables false
open Go.RowKit

/-- The first of some numbers that is not nought. -/
def orL : List Int → Int
  | [] => 0
  | a :: l => if a = 0 then orL l else a
theorem orl_calls (l : List Int) (g n : Nat) (w : World) (hn : l.length = n) (hn8 : n ≤ 1024) (h : ∀ i (hi : i < l.length), w.cell? ⟨g, i, none⟩ = some (.int .i64 l[i])) :
    Calls Try.prog 64 #[.slice (some ⟨g, 0, none⟩) n n] w fun e w' => e = .returned (.int .i64 (orL l)) ∧ w' = w := by
  have HH := Lib.hid h
  clear h
  go_enter Try.func64, Try.ntmps64
  go_wp2_with fail
  go_loopw [8] (fun t wr => ∃ i : Nat, i ≤ n ∧ t = .int .i64 (i : Int) ∧ wr = w ∧ orL (l.drop i) = orL l) (fun t wr => n - (intOf t).toNat)
  case atStart => exact ⟨0, by omega, rfl, rfl, rfl⟩
  case round =>
    obtain ⟨i, hi, rfl, rfl, ho⟩ := hrel
    have HO := Lib.hid ho
    clear ho
    by_cases hlt : i < n
    · have hil : i < l.length := by omega
      have hc := HH.out i hil
      have hd : l.drop i = l[i] :: l.drop (i + 1) := List.drop_eq_getElem_cons hil
      obtain ⟨a, ha⟩ : ∃ a, l[i] = a := ⟨_, rfl⟩
      rw [ha] at hc hd
      rw [hd] at HO
      clear hd ha
      have i1 : (i : Int) < (n : Int) := by omega
      by_cases h0 : a = 0
      · subst h0
        have O2 := Lib.hid (show orL (l.drop (i + 1)) = orL l from HO.out)
        clear HO
        go_wp2_with fail
        go_roundw
        case rel => exact ⟨i + 1, by omega, by first | rfl | (simp; omega), trivial, O2.out⟩
        case measure => simp [intOf]; omega
      · have g1 : (a != 0) = true := bne_iff_ne.2 h0
        have g2 : (a == 0) = false := by simpa using h0
        have e : orL l = a := by rw [← HO.out]; unfold orL; rw [if_neg h0]
        have HE := Lib.hid e
        clear e HO h0
        go_wp2_with fail
        go_ret
        exact ⟨by rw [HE.out]; rfl, rfl⟩
    · have hin : i = n := by omega
      have e : orL l = 0 := by rw [← HO.out, List.drop_eq_nil_of_le (by omega)]; rfl
      have HE := Lib.hid e
      have i1 : ¬ (i : Int) < (n : Int) := by omega
      clear e HO hin hlt hi
      go_wp2_with fail
      go_ret
      exact ⟨by rw [HE.out]; rfl, rfl⟩

theorem cmpI_cases14 (a b : Int) : (a < b ∧ cmpI a b = -1) ∨ (b < a ∧ cmpI a b = 1) ∨ (a = b ∧ cmpI a b = 0) := by
  unfold cmpI
  split
  · exact .inl ⟨by assumption, rfl⟩
  · split
    · exact .inr (.inl ⟨by assumption, rfl⟩)
    · exact .inr (.inr ⟨by omega, rfl⟩)
/-- What order answers. -/
def ordK (a b : Ky) : Int := orL [cmpI a.head b.head, cmpI a.tun b.tun, cmpI a.tail b.tail, cmpI a.lsp b.lsp]
theorem ordK_cases (a b : Ky) : (kBef a b = true ∧ ordK a b = -1) ∨ (kBef b a = true ∧ ordK a b = 1) ∨ (a = b ∧ ordK a b = 0) := by
  unfold ordK
  rw [kBef_iff, kBef_iff]
  rcases cmpI_cases14 a.head b.head with ⟨h1, e1⟩ | ⟨h1, e1⟩ | ⟨h1, e1⟩ <;> rw [e1]
  · exact .inl ⟨.inl h1, rfl⟩
  · exact .inr (.inl ⟨.inl h1, rfl⟩)
  rcases cmpI_cases14 a.tun b.tun with ⟨h2, e2⟩ | ⟨h2, e2⟩ | ⟨h2, e2⟩ <;> rw [e2]
  · exact .inl ⟨.inr ⟨h1, .inl h2⟩, rfl⟩
  · exact .inr (.inl ⟨.inr ⟨h1.symm, .inl h2⟩, rfl⟩)
  rcases cmpI_cases14 a.tail b.tail with ⟨h3, e3⟩ | ⟨h3, e3⟩ | ⟨h3, e3⟩ <;> rw [e3]
  · exact .inl ⟨.inr ⟨h1, .inr ⟨h2, .inl h3⟩⟩, rfl⟩
  · exact .inr (.inl ⟨.inr ⟨h1.symm, .inr ⟨h2.symm, .inl h3⟩⟩, rfl⟩)
  rcases cmpI_cases14 a.lsp b.lsp with ⟨h4, e4⟩ | ⟨h4, e4⟩ | ⟨h4, e4⟩ <;> rw [e4]
  · exact .inl ⟨.inr ⟨h1, .inr ⟨h2, .inr ⟨h3, h4⟩⟩⟩, rfl⟩
  · exact .inr (.inl ⟨.inr ⟨h1.symm, .inr ⟨h2.symm, .inr ⟨h3.symm, h4⟩⟩⟩, rfl⟩)
  · exact .inr (.inr ⟨Ky.ext h3 h2 h1 h4, rfl⟩)
theorem ordK_lt (a b : Ky) : decide (ordK a b < 0) = kBef a b := by
  rcases ordK_cases a b with ⟨h, e⟩ | ⟨h, e⟩ | ⟨h, e⟩ <;> rw [e]
  · rw [h]; rfl
  · rw [kBef_asymm h]; rfl
  · rw [h, kBef_irrefl]; rfl
theorem ordK_gt (a b : Ky) : decide (0 < ordK a b) = kBef b a := by
  rcases ordK_cases a b with ⟨h, e⟩ | ⟨h, e⟩ | ⟨h, e⟩ <;> rw [e]
  · rw [kBef_asymm h]; rfl
  · rw [h]; rfl
  · rw [h, kBef_irrefl]; rfl
theorem order14_worlds (x y : Ky) (w : World) : Calls Try.prog 61 #[.agg #[.int .i64 x.tail, .int .i64 x.tun, .int .i64 x.head, .int .i64 x.lsp], .agg #[.int .i64 y.tail, .int .i64 y.tun, .int .i64 y.head, .int .i64 y.lsp]] w fun e w' => e = .returned (.int .i64 (ordK x y)) ∧ ∃ a b c : Obj, w' = (((w.alloc a).alloc b).alloc c).drew := by
  unfold ordK
  obtain ⟨x0, x1, x2, x3⟩ := x
  obtain ⟨y0, y1, y2, y3⟩ := y
  have c0 := fun w => compare_calls x2 y2 w
  have c1 := fun w => compare_calls x1 y1 w
  have c2 := fun w => compare_calls x0 y0 w
  have c3 := fun w => compare_calls x3 y3 w
  simp only
  generalize cmpI x2 y2 = k0 at *
  generalize cmpI x1 y1 = k1 at *
  generalize cmpI x0 y0 = k2 at *
  generalize cmpI x3 y3 = k3 at *
  obtain ⟨r, hr⟩ : ∃ r, orL [k0, k1, k2, k3] = r := ⟨_, rfl⟩
  rw [hr]
  have HR := Lib.hid hr
  have H0 := Lib.hid c0
  have H1 := Lib.hid c1
  have H2 := Lib.hid c2
  have H3 := Lib.hid c3
  clear c0 c1 c2 c3 hr
  go_enter Try.func61, Try.ntmps61
  go_wp2_with fail
  have bl : Below w.heap.size w ((w.alloc (.cells #[.int .i64 x0, .int .i64 x1, .int .i64 x2, .int .i64 x3] 30)).alloc (.cells #[.int .i64 y0, .int .i64 y1, .int .i64 y2, .int .i64 y3] 30)) := bel_new (bel_new (Below.refl _ _) _) _
  have b1 : Blk ((w.alloc (.cells #[.int .i64 x0, .int .i64 x1, .int .i64 x2, .int .i64 x3] 30)).alloc (.cells #[.int .i64 y0, .int .i64 y1, .int .i64 y2, .int .i64 y3] 30)) w.heap.size 30 [.int .i64 x0, .int .i64 x1, .int .i64 x2, .int .i64 x3] := (Blk.new w _ _).alloc _
  have b2 : Blk ((w.alloc (.cells #[.int .i64 x0, .int .i64 x1, .int .i64 x2, .int .i64 x3] 30)).alloc (.cells #[.int .i64 y0, .int .i64 y1, .int .i64 y2, .int .i64 y3] 30)) (w.heap.size + 1) 30 [.int .i64 y0, .int .i64 y1, .int .i64 y2, .int .i64 y3] := by
    have := Blk.new (w.alloc (.cells #[.int .i64 x0, .int .i64 x1, .int .i64 x2, .int .i64 x3] 30)) 30 [.int .i64 y0, .int .i64 y1, .int .i64 y2, .int .i64 y3]
    simpa using this
  have HW1 := Lib.hid (show ∃ a b : Obj, ((w.alloc (.cells #[.int .i64 x0, .int .i64 x1, .int .i64 x2, .int .i64 x3] 30)).alloc (.cells #[.int .i64 y0, .int .i64 y1, .int .i64 y2, .int .i64 y3] 30)) = (w.alloc a).alloc b from ⟨_, _, rfl⟩)
  generalize ((w.alloc (.cells #[.int .i64 x0, .int .i64 x1, .int .i64 x2, .int .i64 x3] 30)).alloc (.cells #[.int .i64 y0, .int .i64 y1, .int .i64 y2, .int .i64 y3] 30)) = w1 at *
  have HL := Lib.hid bl
  have HB := Lib.hid (And.intro b1 b2)
  clear bl b1 b2
  refine region_seq (fun W => Blk W w.heap.size 30 [.int .i64 x0, .int .i64 x1, .int .i64 x2, .int .i64 x3] ∧ Blk W (w.heap.size + 1) 30 [.int .i64 y0, .int .i64 y1, .int .i64 y2, .int .i64 y3]) [(0, true), (1, true), (2, true), (3, true), (5, true), (6, true), (7, true), (8, true), (10, true), (11, true), (12, true), (13, true), (15, true), (16, true), (17, true), (18, true), (4, false), (9, false), (14, false), (19, false), (20, false), (21, false), (22, true)]
    (by kernel_rfl) (by kernel_rfl) (by kernel_rfl) (by kernel_rfl) (fun _ _ _ _ _ h => h) HB.out ?_
  repeat
    refine seq_pure (v := ?_) rfl (by rfl) (fun W hW => ?_) ?_
    rotate_left
    · have t0 := hW.1.cell 0
      have t1 := hW.1.cell 1
      have t2 := hW.1.cell 2
      have t3 := hW.1.cell 3
      have s0 := hW.2.cell 0
      have s1 := hW.2.cell 1
      have s2 := hW.2.cell 2
      have s3 := hW.2.cell 3
      clear hW
      go_simp
      try with_reducible rfl
    simp only [Act.put, List.setIfInBounds_toArray, List.set_cons_zero, List.set_cons_succ]
  refine seq_make rfl (by rfl) (fun K hK => ?_)
  go_simp
  ((with_reducible refine (H0.out _).mono ?_))
  rintro e w2 ⟨rfl, rfl⟩
  go_simp
  refine hK _ _ (fun W => Blk W w.heap.size 30 [.int .i64 x0, .int .i64 x1, .int .i64 x2, .int .i64 x3] ∧ Blk W (w.heap.size + 1) 30 [.int .i64 y0, .int .i64 y1, .int .i64 y2, .int .i64 y3]) (fun W h => h) HB.out ?_
  clear hK K
  refine seq_make rfl (by rfl) (fun K hK => ?_)
  go_simp
  ((with_reducible refine (H1.out _).mono ?_))
  rintro e w2 ⟨rfl, rfl⟩
  go_simp
  refine hK _ _ (fun W => Blk W w.heap.size 30 [.int .i64 x0, .int .i64 x1, .int .i64 x2, .int .i64 x3] ∧ Blk W (w.heap.size + 1) 30 [.int .i64 y0, .int .i64 y1, .int .i64 y2, .int .i64 y3]) (fun W h => h) HB.out ?_
  clear hK K
  refine seq_make rfl (by rfl) (fun K hK => ?_)
  go_simp
  ((with_reducible refine (H2.out _).mono ?_))
  rintro e w2 ⟨rfl, rfl⟩
  go_simp
  refine hK _ _ (fun W => Blk W w.heap.size 30 [.int .i64 x0, .int .i64 x1, .int .i64 x2, .int .i64 x3] ∧ Blk W (w.heap.size + 1) 30 [.int .i64 y0, .int .i64 y1, .int .i64 y2, .int .i64 y3]) (fun W h => h) HB.out ?_
  clear hK K
  refine seq_make rfl (by rfl) (fun K hK => ?_)
  go_simp
  ((with_reducible refine (H3.out _).mono ?_))
  rintro e w2 ⟨rfl, rfl⟩
  go_simp
  refine hK _ _ (fun W => Blk W w.heap.size 30 [.int .i64 x0, .int .i64 x1, .int .i64 x2, .int .i64 x3] ∧ Blk W (w.heap.size + 1) 30 [.int .i64 y0, .int .i64 y1, .int .i64 y2, .int .i64 y3]) (fun W h => h) HB.out ?_
  clear hK K
  refine seq_make rfl (by rfl) (fun K hK => ?_)
  go_simp
  have b3 : Blk (w1.alloc (.cells #[.int .i64 k0, .int .i64 k1, .int .i64 k2, .int .i64 k3] 3)).drew w1.heap.size 3 [.int .i64 k0, .int .i64 k1, .int .i64 k2, .int .i64 k3] := (Blk.new w1 _ [.int .i64 k0, .int .i64 k1, .int .i64 k2, .int .i64 k3]).drew
  have l3 : Below w.heap.size w (w1.alloc (.cells #[.int .i64 k0, .int .i64 k1, .int .i64 k2, .int .i64 k3] 3)).drew := (bel_new HL.out _).drew
  have h3 : Blk (w1.alloc (.cells #[.int .i64 k0, .int .i64 k1, .int .i64 k2, .int .i64 k3] 3)).drew w.heap.size 30 [.int .i64 x0, .int .i64 x1, .int .i64 x2, .int .i64 x3] ∧ Blk (w1.alloc (.cells #[.int .i64 k0, .int .i64 k1, .int .i64 k2, .int .i64 k3] 3)).drew (w.heap.size + 1) 30 [.int .i64 y0, .int .i64 y1, .int .i64 y2, .int .i64 y3] := ⟨HB.out.1.alloc _, HB.out.2.alloc _⟩
  have H9 := Lib.hid (show ∃ a b c : Obj, (w1.alloc (.cells #[.int .i64 k0, .int .i64 k1, .int .i64 k2, .int .i64 k3] 3)).drew = (((w.alloc a).alloc b).alloc c).drew from by obtain ⟨a, b, e⟩ := HW1.out; exact ⟨a, b, _, by rw [e]⟩)
  generalize (w1.alloc (.cells #[.int .i64 k0, .int .i64 k1, .int .i64 k2, .int .i64 k3] 3)).drew = w3 at *
  refine hK _ _ (fun W => Blk W w.heap.size 30 [.int .i64 x0, .int .i64 x1, .int .i64 x2, .int .i64 x3] ∧ Blk W (w.heap.size + 1) 30 [.int .i64 y0, .int .i64 y1, .int .i64 y2, .int .i64 y3]) (fun W h => h) h3 ?_
  have H3' := Lib.hid h3
  have hk := (orl_calls [k0, k1, k2, k3] w1.heap.size 4 w3 rfl (by decide) (fun i hi => by
    have hi4 : i < 4 := hi
    rw [b3.cell i]
    rcases i with _ | _ | _ | _ | i
    · rfl
    · rfl
    · rfl
    · rfl
    · omega))
  rw [HR.out] at hk
  have HK := Lib.hid hk
  clear hk
  have L3 := Lib.hid l3
  clear hK K h3 b3 l3
  refine seq_make rfl (by rfl) (fun K hK => ?_)
  go_simp
  ((with_reducible refine HK.out.mono ?_))
  rintro e w4 ⟨rfl, rfl⟩
  go_simp
  refine hK _ _ (fun W => Blk W w.heap.size 30 [.int .i64 x0, .int .i64 x1, .int .i64 x2, .int .i64 x3] ∧ Blk W (w.heap.size + 1) 30 [.int .i64 y0, .int .i64 y1, .int .i64 y2, .int .i64 y3]) (fun W h => h) H3'.out ?_
  clear hK K
  repeat
    refine seq_pure (v := ?_) rfl (by rfl) (fun W hW => ?_) ?_
    rotate_left
    · clear hW
      go_simp
      try with_reducible rfl
    simp only [Act.put, List.setIfInBounds_toArray, List.set_cons_zero, List.set_cons_succ]
  refine seq_done ?_
  go_wp2_with fail
  go_ret
  exact ⟨rfl, H9.out⟩
theorem order14_calls (x y : Ky) (w : World) : Calls Try.prog 61 #[.agg #[.int .i64 x.tail, .int .i64 x.tun, .int .i64 x.head, .int .i64 x.lsp], .agg #[.int .i64 y.tail, .int .i64 y.tun, .int .i64 y.head, .int .i64 y.lsp]] w fun e w' => e = .returned (.int .i64 (ordK x y)) ∧ Below w.heap.size w w' :=
  (order14_worlds x y w).mono fun e w' ⟨h1, a, b, c, h2⟩ => ⟨h1, by rw [h2]; exact (bel_new (bel_new (bel_new (Below.refl _ _) _) _) _).drew⟩

theorem before14_calls (a b : Ky) (w : World) : Calls Try.prog 53 #[.agg #[.int .i64 a.tail, .int .i64 a.tun, .int .i64 a.head, .int .i64 a.lsp], .agg #[.int .i64 b.tail, .int .i64 b.tun, .int .i64 b.head, .int .i64 b.lsp]] w (Yes14 (kBef a b) w) := by
  have ho := fun W => order14_calls a b W
  have hd := ordK_lt a b
  generalize ordK a b = r at ho hd
  unfold Yes14
  rw [← hd]
  obtain ⟨a0, a1, a2, a3⟩ := a
  obtain ⟨b0, b1, b2, b3⟩ := b
  simp only at ho
  have HO := Lib.hid ho
  have HL := Lib.hid (bel_new (bel_new (Below.refl w.heap.size w) (.cells #[.int .i64 a0, .int .i64 a1, .int .i64 a2, .int .i64 a3] 30)) (.cells #[.int .i64 b0, .int .i64 b1, .int .i64 b2, .int .i64 b3] 30))
  clear ho hd
  go_enter Try.func53, Try.ntmps53
  go_wp2_with fail
  ((with_reducible refine (HO.out _).mono ?_))
  rintro e w2 ⟨rfl, hb⟩
  have L2 := Lib.hid (HL.out.trans (hb.mono HL.out.size))
  clear hb
  go_wp2_with fail
  go_ret
  exact ⟨rfl, L2.out⟩

end Go.Proofs.Ytogijfebfffobaa

namespace Go.Proofs.Ytogijfebfffobaa
set_option maxRecDepth 100000
set_option linter.unusedVariables false
open Go.RowKit

/-- Where the first entry lies of which a test is true. -/
def idxF (p : Et → Bool) (l : List Et) : Int := match l.findIdx? p with | some i => (i : Int) | none => -1
theorem idxF_hit {p : Et → Bool} {l : List Et} {i : Nat} (hi : i < l.length) (hb : ∀ k (hk : k < l.length), k < i → p l[k] = false) (h : p l[i] = true) : idxF p l = (i : Int) := by
  unfold idxF
  rw [List.findIdx?_eq_some_iff_getElem.2 ⟨hi, h, fun j hj => by have := hb j (by omega) hj; simp [this]⟩]
theorem idxF_none {p : Et → Bool} {l : List Et} (h : ∀ k (hk : k < l.length), p l[k] = false) : idxF p l = -1 := by
  unfold idxF
  rw [List.findIdx?_eq_none_iff.2 (fun x hx => by obtain ⟨k, hk, rfl⟩ := List.mem_iff_getElem.1 hx; exact h k hk)]
theorem idxF_cases (p : Et → Bool) (l : List Et) : (idxF p l = -1 ∧ ∀ x ∈ l, p x = false) ∨ ∃ i : Nat, ∃ hi : i < l.length, idxF p l = (i : Int) ∧ p l[i] = true ∧ ∀ k (hk : k < l.length), k < i → p l[k] = false := by
  unfold idxF
  cases h : l.findIdx? p with
  | none => exact .inl ⟨rfl, List.findIdx?_eq_none_iff.1 h⟩
  | some i =>
    obtain ⟨hi, h1, h2⟩ := List.findIdx?_eq_some_iff_getElem.1 h
    exact .inr ⟨i, hi, rfl, h1, fun k hk hki => by simpa using h2 k hki⟩
/-- The cells of one entry of a slice. -/
theorem row_ent {w : World} {B n : Nat} {a : Option Addr} {l : List Et} (h : Row ent w B a n l) (hn : 0 < n) : ∃ b o, a = some ⟨b, o, none⟩ ∧ b < B ∧ ∀ (i : Nat) (hi : i < l.length) (W : World), W.heap[b]? = w.heap[b]? → W.rangeAt b (o + i * 10) (ent l[i]) := by
  obtain ⟨b, o, e, hb, hc⟩ := h.cells ent_length hn
  refine ⟨b, o, e, hb, fun i hi W hW j v hv => ?_⟩
  have hj : j < 10 := by
    have := (List.getElem?_eq_some_iff.1 hv).1
    rwa [ent_length] at this
  rw [World.cell?_of_block (w := w) (a := ⟨b, o + i * 10 + j, none⟩) hW, hc i hi j hj, hv]
end Go.Proofs.Ytogijfebfffobaa

namespace Go.Proofs.Ytogijfebfffobaa
set_option maxRecDepth 100000
set_option linter.unusedVariables false
open Go.RowKit

/-- A whole struct out of the midst of a row, read in a region whose order is drawn. -/
theorem seq_load_at14 {P : Program} {ops : Array Oper} {Q : Exit → Act → World → Prop} {S : World → Prop} {i : Nat} {r : List (Nat × Bool)} {a : Act} {w : World} {o : Oper} {x : Operand} {ty : TypeId} {g k : Nat} {vs : List Value} {d : TypeDesc}
    (ho : ops.toList[i]? = some o) (hw : Region.wanted o (yielded ops a.tmps) = true) (hop : o.op = .load ty x) (hx : a.eval x = .pointer (some ⟨g, k, none⟩)) (hb : ∀ W, S W → W.rangeAt g k vs) (hu : P.underlying ty = some d) (hd : d.isRow = true) (hi : (P.info? ty).map (·.size) = some vs.length)
    (h : wpSeq P ops Q S r (a.put o.dst (.agg vs.toArray)) w) : wpSeq P ops Q S ((i, true) :: r) a w :=
  ⟨o, _, by rw [← Array.getElem?_toList]; exact ho, yieldsIf_load_mid hw ty x hop g k hx vs d hb hu hd hi, h⟩
theorem blk_kept14 {w w' : World} {q r : Nat} {T : TypeId} {vs : List Value} (h : Blk w q T vs) (hg : w.grownBy w' (some r)) (hne : q ≠ r) : Blk w' q T vs := h.same (hg.block q h.lt (fun e => hne (by injection e)))
theorem rangeAt_same {w w' : World} {b k : Nat} {vs : List Value} (h : w.rangeAt b k vs) (hb : w'.heap[b]? = w.heap[b]?) : w'.rangeAt b k vs := fun j v hv => (World.cell?_of_block (w := w) (a := ⟨b, k + j, none⟩) hb).trans (h j v hv)
/-- What it answers. -/
def MinP14 (l : List Et) (w : World) (e : Ending) (w' : World) : Prop := ∃ m ∈ l, (∀ y ∈ l, m.w.ho ≤ y.w.ho) ∧ e = .returned (.agg (ent m).toArray) ∧ Below w.heap.size w w'
/-- What it answers. -/
def MaxP14 (l : List Et) (w : World) (e : Ending) (w' : World) : Prop := ∃ m ∈ l, (∀ y ∈ l, y.w.bw ≤ m.w.bw) ∧ e = .returned (.agg (ent m).toArray) ∧ Below w.heap.size w w'
end Go.Proofs.Ytogijfebfffobaa

namespace Go.Proofs.Ytogijfebfffobaa
set_option maxRecDepth 100000
set_option linter.unusedVariables false
open Go.RowKit

/-- The first path's key, in memory. -/
theorem row_key0 {w : World} {B n : Nat} {a : Option Addr} {g : List Et} (h : Row ent w B a n g) (h0 : 0 < n) : ∃ b o, a = some ⟨b, o, none⟩ ∧ b < B ∧ ∀ W : World, W.heap[b]? = w.heap[b]? → W.cell? ⟨b, o, none⟩ = some (.int .i64 (gF g).k.tail) ∧ W.cell? ⟨b, o + 1, none⟩ = some (.int .i64 (gF g).k.tun) ∧ W.cell? ⟨b, o + 2, none⟩ = some (.int .i64 (gF g).k.head) ∧ W.cell? ⟨b, o + 3, none⟩ = some (.int .i64 (gF g).k.lsp) := by
  obtain ⟨b, o, e, hb, hc⟩ := row_ent h h0
  have hl : 0 < g.length := by rw [h.1]; exact h0
  obtain ⟨x, t, rfl⟩ := List.exists_cons_of_ne_nil (List.ne_nil_of_length_pos hl)
  refine ⟨b, o, e, hb, fun W hW => ?_⟩
  have h1 := hc 0 hl W hW
  rw [Nat.zero_mul, Nat.add_zero] at h1
  rw [gF_key]
  exact ⟨h1 0 _ rfl, h1 1 _ rfl, h1 2 _ rfl, h1 3 _ rfl⟩
/-- Which family goes sooner. -/
def soonF (f h : Fam) : Int := orL [cmpI f.ho h.ho, cmpI (f.bw : Int) (h.bw : Int), ordK f.k h.k]
theorem soonF_gt (f h : Fam) : decide (0 < soonF f h) = worse14 f h := by
  unfold soonF worse14
  rcases cmpI_cases14 f.ho h.ho with ⟨h1, e1⟩ | ⟨h1, e1⟩ | ⟨h1, e1⟩ <;> rw [e1]
  · rw [if_pos (show f.ho ≠ h.ho by omega), decide_eq_false (show ¬ h.ho < f.ho by omega)]; rfl
  · rw [if_pos (show f.ho ≠ h.ho by omega), decide_eq_true h1]; rfl
  rw [if_neg (show ¬ f.ho ≠ h.ho by omega)]
  rcases cmpI_cases14 (f.bw : Int) (h.bw : Int) with ⟨h2, e2⟩ | ⟨h2, e2⟩ | ⟨h2, e2⟩ <;> rw [e2]
  · rw [if_pos (show f.bw ≠ h.bw by omega), decide_eq_false (show ¬ h.bw < f.bw by omega)]; rfl
  · rw [if_pos (show f.bw ≠ h.bw by omega), decide_eq_true (show h.bw < f.bw by omega)]; rfl
  rw [if_neg (show ¬ f.bw ≠ h.bw by omega), ← ordK_gt f.k h.k]
  rcases ordK_cases f.k h.k with ⟨_, e⟩ | ⟨_, e⟩ | ⟨_, e⟩ <;> rw [e] <;> rfl
end Go.Proofs.Ytogijfebfffobaa
