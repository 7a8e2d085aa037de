/-
  A slice in a block of its own, out of which one value is struck (what slices.Delete does); the same slice shorter; copies of it. No condition: laws over any encoding.
  Contracts of package admit: keys. cmp.Or of whole numbers, cmp.Compare of words, order, Before, Kin. No condition.
  Contracts of package admit: slices.IndexFunc of entries, whatever the test; the three tests that it is used with. Condition: at most 2^40 entries.
  Contracts of package admit: slices.MinFunc, slices.MaxFunc of a family; what its paths share, and its priority. Condition: at most 2^40 entries, one at least.
  Contracts of package admit: what a family's paths share, its priority, may it be driven out, which one is driven out sooner. Condition: at most 2^40 entries, one at least.
-/
import Derived.Test.YtjflbfianncpfaaGreatBase
import Derived.Test.YtjflbfianncpfaaGreatAdcMN
import Derived.Test.YtjflbfianncpfaaGreatAdmAH
import Derived.Test.YtjflbfianncpfaaGreatCmpI
import Derived.WalkSmall
import Derived.Shelf.Abstract
import Derived.Laws.EntriesVeiled
import Derived.Test.YtjflbfianncpfaaGreatGroupMC
namespace Go.Proofs.YtjflbfianncpfaaGreat
set_option maxRecDepth 100000
set_option linter.unusedVariables false
open Go.RowKit

section
variable {α : Type} {enc : α → List Value} {k base c g : Nat} {w w' : World} {T : TypeId} {A : Option Addr} {l : List α}
theorem AccR.keepB (h : AccR enc k w base T A c l) (hb : ∀ x, blk A = some x → w'.heap[x]? = w.heap[x]?) : AccR enc k w' base T A c l := by
  obtain ⟨h1, h2⟩ := h
  refine ⟨h1, ?_⟩
  rcases h2 with h2 | ⟨g, cap, cur, hv, hg, hh, r⟩
  · exact .inl h2
  · refine .inr ⟨g, cap, cur, hv, hg, ?_, r⟩
    injection hv with e _ _
    rw [hb g (by rw [e]; rfl)]
    exact hh
theorem AccR.at0 (h : AccR enc k w base T A c l) (h0 : 0 < l.length) : ∃ g, A = some ⟨g, 0, none⟩ := by
  rcases h.2 with ⟨_, hn⟩ | ⟨g, cap, cur, hv, _⟩
  · omega
  · injection hv with e _ _
    exact ⟨g, e⟩
/-- Such a slice in its block. -/
theorem AccR.open (h : AccR enc k w base T (some ⟨g, 0, none⟩) c l) : ∃ cur : Array Value, w.heap[g]? = some (.cells cur T (0, 0)) ∧ l.length ≤ c ∧ c ≤ maxLen ∧ cur.size = c * k ∧ cur.toList.take (l.length * k) = l.flatMap enc ∧ base ≤ g := by
  rcases h.2 with ⟨hv, _⟩ | ⟨g', cap, cur, hv, hg, hh, hnc, hm, hcs, hx⟩
  · injection hv with e _ _; cases e
  · injection hv with e _ e3
    injection e with e
    injection e with e _ _
    subst e; subst e3
    exact ⟨cur, hh, hnc, hm, hcs, hx, hg⟩
theorem AccR.make (hk : ∀ x, (enc x).length = k) {cur : Array Value} (hh : w.heap[g]? = some (.cells cur T (0, 0))) (hn : l.length ≤ c) (hm : c ≤ maxLen) (hs : cur.size = c * k) (hx : cur.toList.take (l.length * k) = l.flatMap enc) (hg : base ≤ g) : AccR enc k w base T (some ⟨g, 0, none⟩) c l :=
  ⟨flat_length hk l, .inr ⟨g, c, cur, rfl, hg, hh, hn, hm, hs, hx⟩⟩
theorem flat_take (hk : ∀ x, (enc x).length = k) : ∀ (l : List α) (i : Nat), (l.flatMap enc).take (i * k) = (l.take i).flatMap enc
  | [], i => by simp
  | x :: l, 0 => by simp
  | x :: l, i + 1 => by
    rw [List.take_succ_cons, List.flatMap_cons, List.flatMap_cons, List.take_append, hk, List.take_of_length_le (by rw [hk, Nat.succ_mul]; omega), show (i + 1) * k - k = i * k by rw [Nat.succ_mul]; omega, flat_take hk l i]
theorem flat_drop (hk : ∀ x, (enc x).length = k) : ∀ (l : List α) (i : Nat), (l.flatMap enc).drop (i * k) = (l.drop i).flatMap enc
  | [], i => by simp
  | x :: l, 0 => by simp
  | x :: l, i + 1 => by
    rw [List.drop_succ_cons, List.flatMap_cons, List.drop_append, hk, List.drop_of_length_le (by rw [hk, Nat.succ_mul]; omega), show (i + 1) * k - k = i * k by rw [Nat.succ_mul]; omega, flat_drop hk l i]; rfl
theorem erase_split (l : List α) (i : Nat) : l.eraseIdx i = l.take i ++ l.drop (i + 1) := List.eraseIdx_eq_take_drop_succ l i
theorem blkg : blk (some (⟨g, 0, none⟩ : Addr)) = some g := rfl
/-- The values behind one are moved one to the front. -/
theorem accr_cut {P : Program} (hk : ∀ x, (enc x).length = k) (h1 : ∀ x, ∀ u ∈ enc x, u.oneCell' = true) (h : AccR enc k w base T (some ⟨g, 0, none⟩) c l) {i : Nat} (hi : i < l.length)
    {ST ty : TypeId} {z : Value} {bytes : Nat} (ht : P.underlying ST = some (.slice T)) (hinfo : (P.info? T).map (fun i => (i.zero, i.size, i.bytes)) = some (some z, k, bytes))
    {A2 : Addr} {cc : Nat} (hA : A2 = ⟨g, (i + 1) * k, none⟩ ∨ i + 1 = l.length) :
    ∃ w', (Builtin.append_ #[ST, ST] ty #[.slice (some ⟨g, 0, none⟩) i c, .slice (some A2) (l.length - (i + 1)) cc]).run P w = .ok (.slice (some ⟨g, 0, none⟩) (l.length - 1) c) w' ∧ AccR enc k w' base T (some ⟨g, 0, none⟩) c (l.eraseIdx i) ∧ w.grownBy w' (some g) ∧ w'.heap.size = w.heap.size := by
  obtain ⟨cur, hh, hn, hm, hs, hx, hg⟩ := h.open
  obtain ⟨ti, hi0, hzz⟩ := Option.map_eq_some_iff.1 hinfo
  simp only [Prod.mk.injEq] at hzz
  obtain ⟨hz, hsz, hby⟩ := hzz
  subst hsz
  have hfl := flat_length hk l
  have hfd : ((l.drop (i + 1)).flatMap enc).length = (l.length - (i + 1)) * ti.size := by rw [flat_length hk, List.length_drop]
  have hmul : (i + 1) * ti.size + (l.length - (i + 1)) * ti.size = l.length * ti.size := by rw [← Nat.add_mul]; congr 1; omega
  have hmul2 : (i + 1) * ti.size = i * ti.size + ti.size := Nat.succ_mul _ _
  have hcl : l.length * ti.size ≤ c * ti.size := Nat.mul_le_mul_right _ hn
  have hcells : ∀ j u, ((l.drop (i + 1)).flatMap enc)[j]? = some u → w.cell? (A2.add j) = some u := by
    intro j u hu
    have hj := (List.getElem?_eq_some_iff.1 hu).1
    rw [hfd] at hj
    rcases hA with rfl | he
    · rw [add_plain, cell_of_row w g _ _ _ _ hh]
      rw [← flat_drop hk, List.getElem?_drop, ← hx, List.getElem?_take_of_lt (by omega)] at hu
      rw [← Array.getElem?_toList]
      exact hu
    · rw [he, Nat.sub_self, Nat.zero_mul] at hj; omega
  have hone : ∀ u ∈ (l.drop (i + 1)).flatMap enc, u.oneCell' = true := by intro v hv; obtain ⟨x, _, hx⟩ := List.mem_flatMap.1 hv; exact h1 x v hx
  have hr := run_append_room (P := P) w ST ty T ti ht hi0 g i c cur hh A2 (l.length - (i + 1)) cc ((l.drop (i + 1)).flatMap enc) hfd hcells hone (by omega) (by rw [hfd, hs]; omega)
  rw [show i + (l.length - (i + 1)) = l.length - 1 by omega] at hr
  refine ⟨_, hr, ?_, ⟨rfl, rfl, rfl, by simp [World.setRow], fun k' hk' hne => setRow_other w g k' _ (fun e => hne (by rw [e]))⟩, by simp [World.setRow]⟩
  have hel : (l.eraseIdx i).length = l.length - 1 := by rw [List.length_eraseIdx]; simp [hi]
  refine AccR.make hk (setRow_heap w g _ _ T _ hh) (by omega) hm ?_ ?_ hg
  · simp only [List.size_toArray, List.length_append, List.length_take, List.length_drop, hfd, Array.length_toList, hs]
    omega
  · rw [hel, erase_split, List.flatMap_append, ← flat_take hk, ← hx]
    simp only [List.append_assoc]
    have hm1 : (l.length - 1) * ti.size = l.length * ti.size - ti.size := by rw [Nat.sub_mul, Nat.one_mul]
    have hm2 : (l.length - 1) * ti.size - i * ti.size = ((l.drop (i + 1)).flatMap enc).length := by rw [hfd, ← Nat.sub_mul]; congr 1; omega
    have e1 : (List.take (i * ti.size) cur.toList).length = i * ti.size := by
      rw [List.length_take, Array.length_toList, hs]; omega
    rw [List.take_append, e1, hm2, List.take_take, List.take_take, List.take_left, Nat.min_eq_right (a := (l.length - 1) * ti.size) (by omega), Nat.min_eq_left (a := i * ti.size) (by omega)]
/-- What lies behind the values is made zero. -/
theorem accr_clear {P : Program} (hk : ∀ x, (enc x).length = k) (h : AccR enc k w base T (some ⟨g, 0, none⟩) c l) (hc : l.length + 1 ≤ c)
    {ST : TypeId} {z : Value} (ht : P.underlying ST = some (.slice T)) (hz : ∀ w, (zeroValue T).run P w = .ok z w) (hzs : (Builtin.zeroCells z.cells 1).toList.length = k) (h1 : ∀ u ∈ (Builtin.zeroCells z.cells 1).toList, u.oneCell' = true) {cc : Nat} :
    ∃ w', (∀ ty, (Builtin.clear_ #[ST] ty #[.slice (some ⟨g, l.length * k, none⟩) 1 cc]).run P w = .ok (.tuple #[]) w') ∧ AccR enc k w' base T (some ⟨g, 0, none⟩) c l ∧ w.grownBy w' (some g) ∧ w'.heap.size = w.heap.size := by
  obtain ⟨cur, hh, hn, hm, hs, hx, hg⟩ := h.open
  obtain ⟨zs, hzz⟩ : ∃ zs, (Builtin.zeroCells z.cells 1).toList = zs := ⟨_, rfl⟩
  rw [hzz] at hzs h1
  have hck : (l.length + 1) * k ≤ c * k := Nat.mul_le_mul_right _ hc
  rw [Nat.succ_mul] at hck
  have hst := run_storeCells_at P g (l.length * k) T zs 0 cur w hh (by rw [hs, hzs]; omega) h1
  simp only [Nat.add_zero] at hst
  refine ⟨w.setRow g (cur.toList.take (l.length * k) ++ zs ++ cur.toList.drop (l.length * k + zs.length)).toArray, ?_, ?_, ⟨rfl, rfl, rfl, by simp [World.setRow], fun k' hk' hne => setRow_other w g k' _ (fun e => hne (by rw [e]))⟩, by simp [World.setRow]⟩
  · intro ty
    simp [Builtin.clear_, run_underlying ht, hz, hzz, hst]
  · refine AccR.make hk (setRow_heap w g _ _ T _ hh) hn hm ?_ ?_ hg
    · simp only [List.size_toArray, List.length_append, List.length_take, List.length_drop, Array.length_toList, hs, hzs]
      omega
    · show (cur.toList.take (l.length * k) ++ zs ++ cur.toList.drop (l.length * k + zs.length)).take (l.length * k) = _
      rw [List.append_assoc, List.take_append, List.take_take, Nat.min_self]
      have e0 : cur.toList.length = c * k := by rw [Array.length_toList, hs]
      have e1 : (List.take (l.length * k) cur.toList).length = l.length * k := by rw [List.length_take, e0]; omega
      rw [e1, Nat.sub_self, List.take_zero, List.append_nil, hx]
/-- A slice of no values, made with room in a new block. -/
theorem accr_made (w : World) {b : Nat} (hb : b ≤ w.heap.size) {cur : Array Value} {n : Nat} (hn : n ≤ maxLen) (hs : cur.size = n * k) : AccR enc k (w.alloc (.cells cur T)) b T (some ⟨w.heap.size, 0, none⟩) n ([] : List α) :=
  ⟨by simp, .inr ⟨w.heap.size, n, cur, rfl, hb, heap_alloc_new w _, Nat.zero_le _, hn, hs, by simp⟩⟩
end
end Go.Proofs.YtjflbfianncpfaaGreat

namespace Go.Proofs.YtjflbfianncpfaaGreat
set_option maxRecDepth 100000
set_option linter.unusedVariables false
open Go.RowKit

/-- The first of some numbers that is not nought. -/
def orL : List Int → Int
  | [] => 0
  | a :: l => if a = 0 then orL l else a
theorem orl_calls (l : List Int) (g n : Nat) (w : World) (hn : l.length = n) (hn8 : n ≤ 1024) (h : ∀ i (hi : i < l.length), w.cell? ⟨g, i, none⟩ = some (.int .i64 l[i])) :
    Calls Tryz.prog 76 #[.slice (some ⟨g, 0, none⟩) n n] w fun e w' => e = .returned (.int .i64 (orL l)) ∧ w' = w := by
  have HH := Lib.hid h
  clear h
  go_enter Tryz.func76, Tryz.ntmps76
  go_wp2_with fail
  go_loopw [8] (fun t wr => ∃ i : Nat, i ≤ n ∧ t = .int .i64 (i : Int) ∧ wr = w ∧ orL (l.drop i) = orL l) (fun t wr => n - (intOf t).toNat)
  case atStart => exact ⟨0, by omega, rfl, rfl, rfl⟩
  case round =>
    obtain ⟨i, hi, rfl, rfl, ho⟩ := hrel
    have HO := Lib.hid ho
    clear ho
    by_cases hlt : i < n
    · have hil : i < l.length := by omega
      have hc := HH.out i hil
      have hd : l.drop i = l[i] :: l.drop (i + 1) := List.drop_eq_getElem_cons hil
      obtain ⟨a, ha⟩ : ∃ a, l[i] = a := ⟨_, rfl⟩
      rw [ha] at hc hd
      rw [hd] at HO
      clear hd ha
      have i1 : (i : Int) < (n : Int) := by omega
      by_cases h0 : a = 0
      · subst h0
        have O2 := Lib.hid (show orL (l.drop (i + 1)) = orL l from HO.out)
        clear HO
        go_wp2_with fail
        go_roundw
        case rel => exact ⟨i + 1, by omega, by first | rfl | (simp; omega), trivial, O2.out⟩
        case measure => simp [intOf]; omega
      · have g1 : (a != 0) = true := bne_iff_ne.2 h0
        have g2 : (a == 0) = false := by simpa using h0
        have e : orL l = a := by rw [← HO.out]; unfold orL; rw [if_neg h0]
        have HE := Lib.hid e
        clear e HO h0
        go_wp2_with fail
        go_ret
        exact ⟨by rw [HE.out]; rfl, rfl⟩
    · have hin : i = n := by omega
      have e : orL l = 0 := by rw [← HO.out, List.drop_eq_nil_of_le (by omega)]; rfl
      have HE := Lib.hid e
      have i1 : ¬ (i : Int) < (n : Int) := by omega
      clear e HO hin hlt hi
      go_wp2_with fail
      go_ret
      exact ⟨by rw [HE.out]; rfl, rfl⟩

theorem isnanu_calls (x : Int) (w : World) : Calls Tryz.prog 85 #[.int .u64 x] w fun e w' => e = .returned (.bool false) ∧ w' = w := by
  have hb : (x != x) = false := by simp
  go_enter Tryz.func85, Tryz.ntmps85
  go_wp2
  go_ret
  exact ⟨rfl, rfl⟩
theorem compareu_calls (x y : Int) (w : World) : Calls Tryz.prog 60 #[.int .u64 x, .int .u64 y] w fun e w' => e = .returned (.int .i64 (cmpI x y)) ∧ w' = w := by
  have h1 := isnanu_calls x
  have h2 := isnanu_calls y
  have hcases : (x < y ∧ cmpI x y = -1) ∨ (¬ x < y ∧ y < x ∧ cmpI x y = 1) ∨ (¬ x < y ∧ ¬ y < x ∧ cmpI x y = 0) := by
    unfold cmpI
    split
    · exact .inl ⟨by assumption, rfl⟩
    · split
      · exact .inr (.inl ⟨by assumption, by assumption, rfl⟩)
      · exact .inr (.inr ⟨by assumption, by assumption, rfl⟩)
  rcases hcases with ⟨h3, hc⟩ | ⟨h3, h4, hc⟩ | ⟨h3, h4, hc⟩ <;> rw [hc] <;> clear hc
  all_goals
    go_enter Tryz.func60, Tryz.ntmps60
    go_wp2_with fail
    ((with_reducible refine (h1 _).mono ?_))
    rintro e w' ⟨rfl, rfl⟩
    go_wp2_with fail
    ((with_reducible refine (h2 _).mono ?_))
    rintro e w' ⟨rfl, rfl⟩
    go_wp2_with fail
    go_ret
    exact ⟨rfl, rfl⟩

theorem cmpI_cases14 (a b : Int) : (a < b ∧ cmpI a b = -1) ∨ (b < a ∧ cmpI a b = 1) ∨ (a = b ∧ cmpI a b = 0) := by
  unfold cmpI
  split
  · exact .inl ⟨by assumption, rfl⟩
  · split
    · exact .inr (.inl ⟨by assumption, rfl⟩)
    · exact .inr (.inr ⟨by omega, rfl⟩)
/-- What order answers. -/
def ordK (a b : Ky) : Int := orL [cmpI a.head b.head, cmpI a.tun b.tun, cmpI a.tail b.tail, cmpI a.lsp b.lsp]
theorem ordK_cases (a b : Ky) : (kBef a b = true ∧ ordK a b = -1) ∨ (kBef b a = true ∧ ordK a b = 1) ∨ (a = b ∧ ordK a b = 0) := by
  unfold ordK
  rw [kBef_iff, kBef_iff]
  rcases cmpI_cases14 a.head b.head with ⟨h1, e1⟩ | ⟨h1, e1⟩ | ⟨h1, e1⟩ <;> rw [e1]
  · exact .inl ⟨.inl h1, rfl⟩
  · exact .inr (.inl ⟨.inl h1, rfl⟩)
  rcases cmpI_cases14 a.tun b.tun with ⟨h2, e2⟩ | ⟨h2, e2⟩ | ⟨h2, e2⟩ <;> rw [e2]
  · exact .inl ⟨.inr ⟨h1, .inl h2⟩, rfl⟩
  · exact .inr (.inl ⟨.inr ⟨h1.symm, .inl h2⟩, rfl⟩)
  rcases cmpI_cases14 a.tail b.tail with ⟨h3, e3⟩ | ⟨h3, e3⟩ | ⟨h3, e3⟩ <;> rw [e3]
  · exact .inl ⟨.inr ⟨h1, .inr ⟨h2, .inl h3⟩⟩, rfl⟩
  · exact .inr (.inl ⟨.inr ⟨h1.symm, .inr ⟨h2.symm, .inl h3⟩⟩, rfl⟩)
  rcases cmpI_cases14 a.lsp b.lsp with ⟨h4, e4⟩ | ⟨h4, e4⟩ | ⟨h4, e4⟩ <;> rw [e4]
  · exact .inl ⟨.inr ⟨h1, .inr ⟨h2, .inr ⟨h3, h4⟩⟩⟩, rfl⟩
  · exact .inr (.inl ⟨.inr ⟨h1.symm, .inr ⟨h2.symm, .inr ⟨h3.symm, h4⟩⟩⟩, rfl⟩)
  · exact .inr (.inr ⟨Ky.ext h3 h2 h1 h4, rfl⟩)
theorem ordK_lt (a b : Ky) : decide (ordK a b < 0) = kBef a b := by
  rcases ordK_cases a b with ⟨h, e⟩ | ⟨h, e⟩ | ⟨h, e⟩ <;> rw [e]
  · rw [h]; rfl
  · rw [kBef_asymm h]; rfl
  · rw [h, kBef_irrefl]; rfl
theorem ordK_gt (a b : Ky) : decide (0 < ordK a b) = kBef b a := by
  rcases ordK_cases a b with ⟨h, e⟩ | ⟨h, e⟩ | ⟨h, e⟩ <;> rw [e]
  · rw [kBef_asymm h]; rfl
  · rw [h]; rfl
  · rw [h, kBef_irrefl]; rfl
theorem order14_worlds (x y : Ky) (w : World) : Calls Tryz.prog 68 #[.agg #[.int .i64 x.tail, .int .i64 x.tun, .int .i64 x.head, .int .i64 x.lsp], .agg #[.int .i64 y.tail, .int .i64 y.tun, .int .i64 y.head, .int .i64 y.lsp]] w fun e w' => e = .returned (.int .i64 (ordK x y)) ∧ ∃ a b c : Obj, w' = (((w.alloc a).alloc b).alloc c).drew := by
  unfold ordK
  obtain ⟨x0, x1, x2, x3⟩ := x
  obtain ⟨y0, y1, y2, y3⟩ := y
  have c0 := fun w => compare_calls x2 y2 w
  have c1 := fun w => compare_calls x1 y1 w
  have c2 := fun w => compare_calls x0 y0 w
  have c3 := fun w => compare_calls x3 y3 w
  simp only
  generalize cmpI x2 y2 = k0 at *
  generalize cmpI x1 y1 = k1 at *
  generalize cmpI x0 y0 = k2 at *
  generalize cmpI x3 y3 = k3 at *
  obtain ⟨r, hr⟩ : ∃ r, orL [k0, k1, k2, k3] = r := ⟨_, rfl⟩
  rw [hr]
  have HR := Lib.hid hr
  have H0 := Lib.hid c0
  have H1 := Lib.hid c1
  have H2 := Lib.hid c2
  have H3 := Lib.hid c3
  clear c0 c1 c2 c3 hr
  go_enter Tryz.func68, Tryz.ntmps68
  go_wp2_with fail
  have bl : Below w.heap.size w ((w.alloc (.cells #[.int .i64 x0, .int .i64 x1, .int .i64 x2, .int .i64 x3] 25)).alloc (.cells #[.int .i64 y0, .int .i64 y1, .int .i64 y2, .int .i64 y3] 25)) := bel_new (bel_new (Below.refl _ _) _) _
  have b1 : Blk ((w.alloc (.cells #[.int .i64 x0, .int .i64 x1, .int .i64 x2, .int .i64 x3] 25)).alloc (.cells #[.int .i64 y0, .int .i64 y1, .int .i64 y2, .int .i64 y3] 25)) w.heap.size 25 [.int .i64 x0, .int .i64 x1, .int .i64 x2, .int .i64 x3] := (Blk.new w _ _).alloc _
  have b2 : Blk ((w.alloc (.cells #[.int .i64 x0, .int .i64 x1, .int .i64 x2, .int .i64 x3] 25)).alloc (.cells #[.int .i64 y0, .int .i64 y1, .int .i64 y2, .int .i64 y3] 25)) (w.heap.size + 1) 25 [.int .i64 y0, .int .i64 y1, .int .i64 y2, .int .i64 y3] := by
    have := Blk.new (w.alloc (.cells #[.int .i64 x0, .int .i64 x1, .int .i64 x2, .int .i64 x3] 25)) 25 [.int .i64 y0, .int .i64 y1, .int .i64 y2, .int .i64 y3]
    simpa using this
  have HW1 := Lib.hid (show ∃ a b : Obj, ((w.alloc (.cells #[.int .i64 x0, .int .i64 x1, .int .i64 x2, .int .i64 x3] 25)).alloc (.cells #[.int .i64 y0, .int .i64 y1, .int .i64 y2, .int .i64 y3] 25)) = (w.alloc a).alloc b from ⟨_, _, rfl⟩)
  generalize ((w.alloc (.cells #[.int .i64 x0, .int .i64 x1, .int .i64 x2, .int .i64 x3] 25)).alloc (.cells #[.int .i64 y0, .int .i64 y1, .int .i64 y2, .int .i64 y3] 25)) = w1 at *
  have HL := Lib.hid bl
  have HB := Lib.hid (And.intro b1 b2)
  clear bl b1 b2
  refine region_seq (fun W => Blk W w.heap.size 25 [.int .i64 x0, .int .i64 x1, .int .i64 x2, .int .i64 x3] ∧ Blk W (w.heap.size + 1) 25 [.int .i64 y0, .int .i64 y1, .int .i64 y2, .int .i64 y3]) [(0, true), (1, true), (2, true), (3, true), (5, true), (6, true), (7, true), (8, true), (10, true), (11, true), (12, true), (13, true), (15, true), (16, true), (17, true), (18, true), (4, false), (9, false), (14, false), (19, false), (20, false), (21, false), (22, true)]
    (by kernel_rfl) (by kernel_rfl) (by kernel_rfl) (by kernel_rfl) (fun _ _ _ _ _ h => h) HB.out ?_
  repeat
    refine seq_pure (v := ?_) rfl (by rfl) (fun W hW => ?_) ?_
    rotate_left
    · have t0 := hW.1.cell 0
      have t1 := hW.1.cell 1
      have t2 := hW.1.cell 2
      have t3 := hW.1.cell 3
      have s0 := hW.2.cell 0
      have s1 := hW.2.cell 1
      have s2 := hW.2.cell 2
      have s3 := hW.2.cell 3
      clear hW
      go_simp
      try with_reducible rfl
    simp only [Act.put, List.setIfInBounds_toArray, List.set_cons_zero, List.set_cons_succ]
  refine seq_make rfl (by rfl) (fun K hK => ?_)
  go_simp
  ((with_reducible refine (H0.out _).mono ?_))
  rintro e w2 ⟨rfl, rfl⟩
  go_simp
  refine hK _ _ (fun W => Blk W w.heap.size 25 [.int .i64 x0, .int .i64 x1, .int .i64 x2, .int .i64 x3] ∧ Blk W (w.heap.size + 1) 25 [.int .i64 y0, .int .i64 y1, .int .i64 y2, .int .i64 y3]) (fun W h => h) HB.out ?_
  clear hK K
  refine seq_make rfl (by rfl) (fun K hK => ?_)
  go_simp
  ((with_reducible refine (H1.out _).mono ?_))
  rintro e w2 ⟨rfl, rfl⟩
  go_simp
  refine hK _ _ (fun W => Blk W w.heap.size 25 [.int .i64 x0, .int .i64 x1, .int .i64 x2, .int .i64 x3] ∧ Blk W (w.heap.size + 1) 25 [.int .i64 y0, .int .i64 y1, .int .i64 y2, .int .i64 y3]) (fun W h => h) HB.out ?_
  clear hK K
  refine seq_make rfl (by rfl) (fun K hK => ?_)
  go_simp
  ((with_reducible refine (H2.out _).mono ?_))
  rintro e w2 ⟨rfl, rfl⟩
  go_simp
  refine hK _ _ (fun W => Blk W w.heap.size 25 [.int .i64 x0, .int .i64 x1, .int .i64 x2, .int .i64 x3] ∧ Blk W (w.heap.size + 1) 25 [.int .i64 y0, .int .i64 y1, .int .i64 y2, .int .i64 y3]) (fun W h => h) HB.out ?_
  clear hK K
  refine seq_make rfl (by rfl) (fun K hK => ?_)
  go_simp
  ((with_reducible refine (H3.out _).mono ?_))
  rintro e w2 ⟨rfl, rfl⟩
  go_simp
  refine hK _ _ (fun W => Blk W w.heap.size 25 [.int .i64 x0, .int .i64 x1, .int .i64 x2, .int .i64 x3] ∧ Blk W (w.heap.size + 1) 25 [.int .i64 y0, .int .i64 y1, .int .i64 y2, .int .i64 y3]) (fun W h => h) HB.out ?_
  clear hK K
  refine seq_make rfl (by rfl) (fun K hK => ?_)
  go_simp
  have b3 : Blk (w1.alloc (.cells #[.int .i64 k0, .int .i64 k1, .int .i64 k2, .int .i64 k3] 3)).drew w1.heap.size 3 [.int .i64 k0, .int .i64 k1, .int .i64 k2, .int .i64 k3] := (Blk.new w1 _ [.int .i64 k0, .int .i64 k1, .int .i64 k2, .int .i64 k3]).drew
  have l3 : Below w.heap.size w (w1.alloc (.cells #[.int .i64 k0, .int .i64 k1, .int .i64 k2, .int .i64 k3] 3)).drew := (bel_new HL.out _).drew
  have h3 : Blk (w1.alloc (.cells #[.int .i64 k0, .int .i64 k1, .int .i64 k2, .int .i64 k3] 3)).drew w.heap.size 25 [.int .i64 x0, .int .i64 x1, .int .i64 x2, .int .i64 x3] ∧ Blk (w1.alloc (.cells #[.int .i64 k0, .int .i64 k1, .int .i64 k2, .int .i64 k3] 3)).drew (w.heap.size + 1) 25 [.int .i64 y0, .int .i64 y1, .int .i64 y2, .int .i64 y3] := ⟨HB.out.1.alloc _, HB.out.2.alloc _⟩
  have H9 := Lib.hid (show ∃ a b c : Obj, (w1.alloc (.cells #[.int .i64 k0, .int .i64 k1, .int .i64 k2, .int .i64 k3] 3)).drew = (((w.alloc a).alloc b).alloc c).drew from by obtain ⟨a, b, e⟩ := HW1.out; exact ⟨a, b, _, by rw [e]⟩)
  generalize (w1.alloc (.cells #[.int .i64 k0, .int .i64 k1, .int .i64 k2, .int .i64 k3] 3)).drew = w3 at *
  refine hK _ _ (fun W => Blk W w.heap.size 25 [.int .i64 x0, .int .i64 x1, .int .i64 x2, .int .i64 x3] ∧ Blk W (w.heap.size + 1) 25 [.int .i64 y0, .int .i64 y1, .int .i64 y2, .int .i64 y3]) (fun W h => h) h3 ?_
  have H3' := Lib.hid h3
  have hk := (orl_calls [k0, k1, k2, k3] w1.heap.size 4 w3 rfl (by decide) (fun i hi => by
    have hi4 : i < 4 := hi
    rw [b3.cell i]
    rcases i with _ | _ | _ | _ | i
    · rfl
    · rfl
    · rfl
    · rfl
    · omega))
  rw [HR.out] at hk
  have HK := Lib.hid hk
  clear hk
  have L3 := Lib.hid l3
  clear hK K h3 b3 l3
  refine seq_make rfl (by rfl) (fun K hK => ?_)
  go_simp
  ((with_reducible refine HK.out.mono ?_))
  rintro e w4 ⟨rfl, rfl⟩
  go_simp
  refine hK _ _ (fun W => Blk W w.heap.size 25 [.int .i64 x0, .int .i64 x1, .int .i64 x2, .int .i64 x3] ∧ Blk W (w.heap.size + 1) 25 [.int .i64 y0, .int .i64 y1, .int .i64 y2, .int .i64 y3]) (fun W h => h) H3'.out ?_
  clear hK K
  repeat
    refine seq_pure (v := ?_) rfl (by rfl) (fun W hW => ?_) ?_
    rotate_left
    · clear hW
      go_simp
      try with_reducible rfl
    simp only [Act.put, List.setIfInBounds_toArray, List.set_cons_zero, List.set_cons_succ]
  refine seq_done ?_
  go_wp2_with fail
  go_ret
  exact ⟨rfl, H9.out⟩
theorem order14_calls (x y : Ky) (w : World) : Calls Tryz.prog 68 #[.agg #[.int .i64 x.tail, .int .i64 x.tun, .int .i64 x.head, .int .i64 x.lsp], .agg #[.int .i64 y.tail, .int .i64 y.tun, .int .i64 y.head, .int .i64 y.lsp]] w fun e w' => e = .returned (.int .i64 (ordK x y)) ∧ Below w.heap.size w w' :=
  (order14_worlds x y w).mono fun e w' ⟨h1, a, b, c, h2⟩ => ⟨h1, by rw [h2]; exact (bel_new (bel_new (bel_new (Below.refl _ _) _) _) _).drew⟩

theorem before14_calls (a b : Ky) (w : World) : Calls Tryz.prog 62 #[.agg #[.int .i64 a.tail, .int .i64 a.tun, .int .i64 a.head, .int .i64 a.lsp], .agg #[.int .i64 b.tail, .int .i64 b.tun, .int .i64 b.head, .int .i64 b.lsp]] w (Yes14 (kBef a b) w) := by
  have ho := fun W => order14_calls a b W
  have hd := ordK_lt a b
  generalize ordK a b = r at ho hd
  unfold Yes14
  rw [← hd]
  obtain ⟨a0, a1, a2, a3⟩ := a
  obtain ⟨b0, b1, b2, b3⟩ := b
  simp only at ho
  have HO := Lib.hid ho
  have HL := Lib.hid (bel_new (bel_new (Below.refl w.heap.size w) (.cells #[.int .i64 a0, .int .i64 a1, .int .i64 a2, .int .i64 a3] 25)) (.cells #[.int .i64 b0, .int .i64 b1, .int .i64 b2, .int .i64 b3] 25))
  clear ho hd
  go_enter Tryz.func62, Tryz.ntmps62
  go_wp2_with fail
  ((with_reducible refine (HO.out _).mono ?_))
  rintro e w2 ⟨rfl, hb⟩
  have L2 := Lib.hid (HL.out.trans (hb.mono HL.out.size))
  clear hb
  go_wp2_with fail
  go_ret
  exact ⟨rfl, L2.out⟩

theorem kin14_calls (a b : Ky) (w : World) : Calls Tryz.prog 9 #[.agg #[.int .i64 a.tail, .int .i64 a.tun, .int .i64 a.head, .int .i64 a.lsp], .agg #[.int .i64 b.tail, .int .i64 b.tun, .int .i64 b.head, .int .i64 b.lsp]] w (Yes14 (kKin a b) w) := by
  have he := fun W => (eq_ky ⟨a.tail, a.tun, a.head, b.lsp⟩ b W).1
  have hd : decide ((⟨a.tail, a.tun, a.head, b.lsp⟩ : Ky) = b) = kKin a b := by
    cases hk : kKin a b with
    | true =>
      rw [kKin_iff] at hk
      simp only [kap, Prod.mk.injEq] at hk
      exact decide_eq_true (Ky.ext hk.2.2 hk.2.1 hk.1 rfl)
    | false =>
      rw [kKin_false] at hk
      refine decide_eq_false (fun e => hk ?_)
      simp only [kap]
      rw [← e]
  rw [hd] at he
  unfold Yes14
  generalize kKin a b = r at he
  obtain ⟨a0, a1, a2, a3⟩ := a
  obtain ⟨b0, b1, b2, b3⟩ := b
  simp only at he
  have HE := Lib.hid he
  clear he hd
  have HL := Lib.hid (bel_new (bel_new (Below.refl w.heap.size w) (.cells #[.int .i64 a0, .int .i64 a1, .int .i64 a2, .int .i64 b3] 25)) (.cells #[.int .i64 b0, .int .i64 b1, .int .i64 b2, .int .i64 b3] 25))
  have hb1 : Blk ((w.alloc (.cells #[.int .i64 a0, .int .i64 a1, .int .i64 a2, .int .i64 b3] 25)).alloc (.cells #[.int .i64 b0, .int .i64 b1, .int .i64 b2, .int .i64 b3] 25)) w.heap.size 25 [.int .i64 a0, .int .i64 a1, .int .i64 a2, .int .i64 b3] := (Blk.new w _ _).alloc _
  have hb2 : Blk ((w.alloc (.cells #[.int .i64 a0, .int .i64 a1, .int .i64 a2, .int .i64 b3] 25)).alloc (.cells #[.int .i64 b0, .int .i64 b1, .int .i64 b2, .int .i64 b3] 25)) (w.heap.size + 1) 25 [.int .i64 b0, .int .i64 b1, .int .i64 b2, .int .i64 b3] := by
    have := Blk.new (w.alloc (.cells #[.int .i64 a0, .int .i64 a1, .int .i64 a2, .int .i64 b3] 25)) 25 [.int .i64 b0, .int .i64 b1, .int .i64 b2, .int .i64 b3]
    simpa using this
  have B1 := Lib.hid hb1
  have B2 := Lib.hid hb2
  clear hb1 hb2
  go_enter Tryz.func9, Tryz.ntmps9
  go_upto_region 2 with fail
  generalize ((w.alloc (.cells #[.int .i64 a0, .int .i64 a1, .int .i64 a2, .int .i64 b3] 25)).alloc (.cells #[.int .i64 b0, .int .i64 b1, .int .i64 b2, .int .i64 b3] 25)) = w1 at *
  have y0 : w1.cell? ⟨w.heap.size, 0, none⟩ = some (.int .i64 a0) := B1.out.cell 0
  have y1 : w1.cell? ⟨w.heap.size, 1, none⟩ = some (.int .i64 a1) := B1.out.cell 1
  have y2 : w1.cell? ⟨w.heap.size, 2, none⟩ = some (.int .i64 a2) := B1.out.cell 2
  have y3 : w1.cell? ⟨w.heap.size, 3, none⟩ = some (.int .i64 b3) := B1.out.cell 3
  have z0 : w1.cell? ⟨w.heap.size + 1, 0, none⟩ = some (.int .i64 b0) := B2.out.cell 0
  have z1 : w1.cell? ⟨w.heap.size + 1, 1, none⟩ = some (.int .i64 b1) := B2.out.cell 1
  have z2 : w1.cell? ⟨w.heap.size + 1, 2, none⟩ = some (.int .i64 b2) := B2.out.cell 2
  have z3 : w1.cell? ⟨w.heap.size + 1, 3, none⟩ = some (.int .i64 b3) := B2.out.cell 3
  have hne := HE.out
  clear HE
  cases r
  all_goals
    go_wp2_with fail
    go_ret
    exact ⟨rfl, HL.out⟩
end Go.Proofs.YtjflbfianncpfaaGreat

namespace Go.Proofs.YtjflbfianncpfaaGreat
set_option maxRecDepth 100000
set_option linter.unusedVariables false
open Go.RowKit

theorem infoEntC14 : (Tryz.prog.info? 77).map (·.size) = some 10 := by kernel_rfl
/-- Where the first entry lies of which a test is true. -/
def idxF (p : Et → Bool) (l : List Et) : Int := match l.findIdx? p with | some i => (i : Int) | none => -1
theorem idxF_hit {p : Et → Bool} {l : List Et} {i : Nat} (hi : i < l.length) (hb : ∀ k (hk : k < l.length), k < i → p l[k] = false) (h : p l[i] = true) : idxF p l = (i : Int) := by
  unfold idxF
  rw [List.findIdx?_eq_some_iff_getElem.2 ⟨hi, h, fun j hj => by have := hb j (by omega) hj; simp [this]⟩]
theorem idxF_none {p : Et → Bool} {l : List Et} (h : ∀ k (hk : k < l.length), p l[k] = false) : idxF p l = -1 := by
  unfold idxF
  rw [List.findIdx?_eq_none_iff.2 (fun x hx => by obtain ⟨k, hk, rfl⟩ := List.mem_iff_getElem.1 hx; exact h k hk)]
theorem idxF_cases (p : Et → Bool) (l : List Et) : (idxF p l = -1 ∧ ∀ x ∈ l, p x = false) ∨ ∃ i : Nat, ∃ hi : i < l.length, idxF p l = (i : Int) ∧ p l[i] = true ∧ ∀ k (hk : k < l.length), k < i → p l[k] = false := by
  unfold idxF
  cases h : l.findIdx? p with
  | none => exact .inl ⟨rfl, List.findIdx?_eq_none_iff.1 h⟩
  | some i =>
    obtain ⟨hi, h1, h2⟩ := List.findIdx?_eq_some_iff_getElem.1 h
    exact .inr ⟨i, hi, rfl, h1, fun k hk hki => by simpa using h2 k hki⟩
/-- The cells of one entry of a slice. -/
theorem row_ent {w : World} {B n : Nat} {a : Option Addr} {l : List Et} (h : Row ent w B a n l) (hn : 0 < n) : ∃ b o, a = some ⟨b, o, none⟩ ∧ b < B ∧ ∀ (i : Nat) (hi : i < l.length) (W : World), W.heap[b]? = w.heap[b]? → W.rangeAt b (o + i * 10) (ent l[i]) := by
  obtain ⟨b, o, e, hb, hc⟩ := h.cells ent_length hn
  refine ⟨b, o, e, hb, fun i hi W hW j v hv => ?_⟩
  have hj : j < 10 := by
    have := (List.getElem?_eq_some_iff.1 hv).1
    rwa [ent_length] at this
  rw [World.cell?_of_block (w := w) (a := ⟨b, o + i * 10 + j, none⟩) hW, hc i hi j hj, hv]
set_option maxHeartbeats 1600000 in
theorem indexf14_calls (F : Nat) (q : Nat) (p : Et → Bool) (a : Option Addr) (n c : Nat) (l : List Et) (w : World) (h : Row ent w w.heap.size a n l) (hn : n ≤ 1099511627776)
    (he : ∀ (args : Array Value) (w : World), (callFunc F args).run Tryz.prog w = .ok (.enter F args) w)
    (hcon : ∀ x ∈ l, ∀ W, Below w.heap.size w W → Calls Tryz.prog F #[.agg (ent x).toArray, .pointer (some ⟨q, 0, none⟩)] W fun e w' => e = .returned (.bool (p x)) ∧ Below W.heap.size W w') :
    Calls Tryz.prog 31 #[.slice a n c, .func (.func F) #[] #[.pointer (some ⟨q, 0, none⟩)]] w fun e w' => e = .returned (.int .i64 (idxF p l)) ∧ Below w.heap.size w w' := by
  have HLEN := Lib.hid h.1
  have HR := Lib.hid h
  have HC := Lib.hid hcon
  clear h hcon
  go_enter Tryz.func31, Tryz.ntmps31
  go_wp2_with fail
  go_loopw [8] (fun t' wr => ∃ i : Nat, i ≤ n ∧ t' = .int .i64 (i : Int) ∧ (∀ k (hk : k < l.length), k < i → p l[k] = false) ∧ Below w.heap.size w wr) (fun t' wr => n - (intOf t').toNat)
  case atStart => exact ⟨0, Nat.zero_le _, rfl, fun k _ hk => by omega, Below.refl _ _⟩
  case round =>
    obtain ⟨i, hi, rfl, hF, hB⟩ := hrel
    have HF := Lib.hid hF
    have HB := Lib.hid hB
    clear hF hB
    by_cases hlt : i < n
    · obtain ⟨b, o, rfl, hbw, hcell⟩ := row_ent HR.out (by omega)
      have hil : i < l.length := by have := HLEN.out; omega
      have HX := Lib.hid (hcell i hil wr (HB.out.block b hbw))
      have HIN := Lib.hid (show (Tryz.prog.info? 77).map (·.size) = some (ent l[i]).length from infoEntC14)
      clear hcell
      go_wp2_with (refine step_load_at (o := ⟨some 15, _, _, _, _, _⟩) rfl rfl rfl HX.out Tryz.underlying77 rfl HIN.out ?_)
      refine (HC.out l[i] (List.getElem_mem hil) wr HB.out).mono ?_
      rintro e w2 ⟨rfl, b2⟩
      have B2 := Lib.hid (bel_more HB.out (Nat.le_refl _) b2)
      clear b2
      cases hs : p l[i] with
      | true =>
        have hr := idxF_hit hil HF.out hs
        go_wp2_with fail
        go_ret
        exact ⟨by rw [hr]; rfl, B2.out⟩
      | false =>
        have F2 : ∀ k (hk : k < l.length), k < i + 1 → p l[k] = false := fun k hk hlt => by
          rcases Nat.lt_or_ge k i with h | h
          · exact HF.out k hk h
          · obtain rfl : k = i := by omega
            exact hs
        have F3 := Lib.hid F2
        clear F2
        go_wp2_with fail
        go_roundw
        case rel => exact ⟨i + 1, by omega, rfl, F3.out, B2.out⟩
        case measure => simp [intOf]; omega
    · have hr : idxF p l = -1 := idxF_none (fun k hk => HF.out k hk (by have := HLEN.out; omega))
      have HRR := Lib.hid hr
      clear hr
      go_wp2_with fail
      go_ret
      exact ⟨by rw [HRR.out]; rfl, HB.out⟩

theorem findc14_calls (x : Et) (k : Ky) (q : Nat) (w : World) (hq : Blk w q 25 (kyc k)) : Calls Tryz.prog 34 #[.agg (ent x).toArray, .pointer (some ⟨q, 0, none⟩)] w fun e w' => e = .returned (.bool (decide (x.k = k))) ∧ Below w.heap.size w w' := by
  have he := fun W => (eq_ky x.k k W).1
  have HL := Lib.hid (bel_new (Below.refl w.heap.size w) (.cells (ent x).toArray 77))
  have HB := Lib.hid (Blk.new w 77 (ent x))
  have HQ := Lib.hid (hq.alloc (.cells (ent x).toArray 77))
  obtain ⟨r, hr⟩ : ∃ r, decide (x.k = k) = r := ⟨_, rfl⟩
  rw [hr] at he ⊢
  clear hr hq
  go_enter Tryz.func34, Tryz.ntmps34
  go_upto_region 1 with fail
  have HB2 := Lib.hid (show Blk (w.alloc (.cells (ent x).toArray 77)) w.heap.size 77 (ent x) from HB.out)
  clear HB
  generalize w.alloc (.cells (ent x).toArray 77) = w1 at *
  have y0 : w1.cell? ⟨w.heap.size, 0, none⟩ = some (.int .i64 x.k.tail) := HB2.out.cell 0
  have y1 : w1.cell? ⟨w.heap.size, 1, none⟩ = some (.int .i64 x.k.tun) := HB2.out.cell 1
  have y2 : w1.cell? ⟨w.heap.size, 2, none⟩ = some (.int .i64 x.k.head) := HB2.out.cell 2
  have y3 : w1.cell? ⟨w.heap.size, 3, none⟩ = some (.int .i64 x.k.lsp) := HB2.out.cell 3
  have z0 : w1.cell? ⟨q, 0, none⟩ = some (.int .i64 k.tail) := HQ.out.cell 0
  have z1 : w1.cell? ⟨q, 1, none⟩ = some (.int .i64 k.tun) := HQ.out.cell 1
  have z2 : w1.cell? ⟨q, 2, none⟩ = some (.int .i64 k.head) := HQ.out.cell 2
  have z3 : w1.cell? ⟨q, 3, none⟩ = some (.int .i64 k.lsp) := HQ.out.cell 3
  cases r
  all_goals
    go_wp2_with fail
    go_ret
    exact ⟨rfl, HL.out⟩
theorem famc14_calls (x : Et) (k : Ky) (q : Nat) (w : World) (hq : Blk w q 25 (kyc k)) : Calls Tryz.prog 32 #[.agg (ent x).toArray, .pointer (some ⟨q, 0, none⟩)] w fun e w' => e = .returned (.bool (!kKin x.k k)) ∧ Below w.heap.size w w' := by
  have he := fun W => kin14_calls x.k k W
  unfold Yes14 at he
  have HL := Lib.hid (bel_new (Below.refl w.heap.size w) (.cells (ent x).toArray 77))
  have HB := Lib.hid (Blk.new w 77 (ent x))
  have HQ := Lib.hid (hq.alloc (.cells (ent x).toArray 77))
  obtain ⟨r, hr⟩ : ∃ r, kKin x.k k = r := ⟨_, rfl⟩
  rw [hr] at he ⊢
  have HE := Lib.hid he
  clear hr hq he
  go_enter Tryz.func32, Tryz.ntmps32
  go_upto_region 1 with fail
  have HB2 := Lib.hid (show Blk (w.alloc (.cells (ent x).toArray 77)) w.heap.size 77 (ent x) from HB.out)
  clear HB
  generalize w.alloc (.cells (ent x).toArray 77) = w1 at *
  have y0 : w1.cell? ⟨w.heap.size, 0, none⟩ = some (.int .i64 x.k.tail) := HB2.out.cell 0
  have y1 : w1.cell? ⟨w.heap.size, 1, none⟩ = some (.int .i64 x.k.tun) := HB2.out.cell 1
  have y2 : w1.cell? ⟨w.heap.size, 2, none⟩ = some (.int .i64 x.k.head) := HB2.out.cell 2
  have y3 : w1.cell? ⟨w.heap.size, 3, none⟩ = some (.int .i64 x.k.lsp) := HB2.out.cell 3
  have z0 : w1.cell? ⟨q, 0, none⟩ = some (.int .i64 k.tail) := HQ.out.cell 0
  have z1 : w1.cell? ⟨q, 1, none⟩ = some (.int .i64 k.tun) := HQ.out.cell 1
  have z2 : w1.cell? ⟨q, 2, none⟩ = some (.int .i64 k.head) := HQ.out.cell 2
  have z3 : w1.cell? ⟨q, 3, none⟩ = some (.int .i64 k.lsp) := HQ.out.cell 3
  go_wp2_with fail
  ((with_reducible refine (HE.out _).mono ?_))
  rintro e w2 ⟨rfl, hb⟩
  have L2 := Lib.hid (HL.out.trans (hb.mono HL.out.size))
  clear hb
  go_wp2_with fail
  go_ret
  exact ⟨rfl, L2.out⟩
theorem withc14_calls (x z : Et) (q : Nat) (w : World) (hq : Blk w q 77 (ent z)) : Calls Tryz.prog 61 #[.agg (ent x).toArray, .pointer (some ⟨q, 0, none⟩)] w fun e w' => e = .returned (.bool (kBef z.k x.k)) ∧ Below w.heap.size w w' := by
  have he := fun W => before14_calls z.k x.k W
  unfold Yes14 at he
  have HL := Lib.hid (bel_new (Below.refl w.heap.size w) (.cells (ent x).toArray 77))
  have HB := Lib.hid (Blk.new w 77 (ent x))
  have HQ := Lib.hid (hq.alloc (.cells (ent x).toArray 77))
  obtain ⟨r, hr⟩ : ∃ r, kBef z.k x.k = r := ⟨_, rfl⟩
  rw [hr] at he ⊢
  have HE := Lib.hid he
  clear hr hq he
  go_enter Tryz.func61, Tryz.ntmps61
  go_upto_region 1 with fail
  have HB2 := Lib.hid (show Blk (w.alloc (.cells (ent x).toArray 77)) w.heap.size 77 (ent x) from HB.out)
  clear HB
  generalize w.alloc (.cells (ent x).toArray 77) = w1 at *
  have y0 : w1.cell? ⟨w.heap.size, 0, none⟩ = some (.int .i64 x.k.tail) := HB2.out.cell 0
  have y1 : w1.cell? ⟨w.heap.size, 1, none⟩ = some (.int .i64 x.k.tun) := HB2.out.cell 1
  have y2 : w1.cell? ⟨w.heap.size, 2, none⟩ = some (.int .i64 x.k.head) := HB2.out.cell 2
  have y3 : w1.cell? ⟨w.heap.size, 3, none⟩ = some (.int .i64 x.k.lsp) := HB2.out.cell 3
  have z0 : w1.cell? ⟨q, 0, none⟩ = some (.int .i64 z.k.tail) := HQ.out.cell 0
  have z1 : w1.cell? ⟨q, 1, none⟩ = some (.int .i64 z.k.tun) := HQ.out.cell 1
  have z2 : w1.cell? ⟨q, 2, none⟩ = some (.int .i64 z.k.head) := HQ.out.cell 2
  have z3 : w1.cell? ⟨q, 3, none⟩ = some (.int .i64 z.k.lsp) := HQ.out.cell 3
  go_wp2_with fail
  ((with_reducible refine (HE.out _).mono ?_))
  rintro e w2 ⟨rfl, hb⟩
  have L2 := Lib.hid (HL.out.trans (hb.mono HL.out.size))
  clear hb
  go_wp2_with fail
  go_ret
  exact ⟨rfl, L2.out⟩
end Go.Proofs.YtjflbfianncpfaaGreat

namespace Go.Proofs.YtjflbfianncpfaaGreat
set_option maxRecDepth 100000
set_option linter.unusedVariables false
open Go.RowKit

/-- A whole struct out of the midst of a row, read in a region whose order is drawn. -/
theorem seq_load_at14 {P : Program} {ops : Array Oper} {Q : Exit → Act → World → Prop} {S : World → Prop} {i : Nat} {r : List (Nat × Bool)} {a : Act} {w : World} {o : Oper} {x : Operand} {ty : TypeId} {g k : Nat} {vs : List Value} {d : TypeDesc}
    (ho : ops.toList[i]? = some o) (hw : Region.wanted o (yielded ops a.tmps) = true) (hop : o.op = .load ty x) (hx : a.eval x = .pointer (some ⟨g, k, none⟩)) (hb : ∀ W, S W → W.rangeAt g k vs) (hu : P.underlying ty = some d) (hd : d.isRow = true) (hi : (P.info? ty).map (·.size) = some vs.length)
    (h : wpSeq P ops Q S r (a.put o.dst (.agg vs.toArray)) w) : wpSeq P ops Q S ((i, true) :: r) a w :=
  ⟨o, _, by rw [← Array.getElem?_toList]; exact ho, yieldsIf_load_mid hw ty x hop g k hx vs d hb hu hd hi, h⟩
theorem blk_kept14 {w w' : World} {q r : Nat} {T : TypeId} {vs : List Value} (h : Blk w q T vs) (hg : w.grownBy w' (some r)) (hne : q ≠ r) : Blk w' q T vs := h.same (hg.block q h.lt (fun e => hne (by injection e)))
theorem rangeAt_same {w w' : World} {b k : Nat} {vs : List Value} (h : w.rangeAt b k vs) (hb : w'.heap[b]? = w.heap[b]?) : w'.rangeAt b k vs := fun j v hv => (World.cell?_of_block (w := w) (a := ⟨b, k + j, none⟩) hb).trans (h j v hv)
theorem pric14_calls (x y : Et) (w : World) : Calls Tryz.prog 56 #[.agg (ent x).toArray, .agg (ent y).toArray] w fun e w' => e = .returned (.int .i64 (cmpI (x.w.ho : Int) (y.w.ho : Int))) ∧ Below w.heap.size w w' := by
  have HC := Lib.hid (fun W => compare_calls (x.w.ho : Int) (y.w.ho : Int) W)
  have HL := Lib.hid (bel_new (bel_new (Below.refl w.heap.size w) (.cells (ent x).toArray 77)) (.cells (ent y).toArray 77))
  have b1 := Lib.hid ((Blk.new w 77 (ent x)).alloc (.cells (ent y).toArray 77))
  have hb2 := Blk.new (w.alloc (.cells (ent x).toArray 77)) 77 (ent y)
  have hs : (w.alloc (.cells (ent x).toArray 77)).heap.size = w.heap.size + 1 := by simp
  rw [hs] at hb2
  have b2 := Lib.hid hb2
  clear hb2 hs
  go_enter Tryz.func56, Tryz.ntmps56
  go_upto_region 1 with fail
  generalize (w.alloc (.cells (ent x).toArray 77)).alloc (.cells (ent y).toArray 77) = w1 at *
  have y0 : w1.cell? ⟨w.heap.size, 6, none⟩ = some (.int .i64 (x.w.ho : Int)) := b1.out.cell 6
  have y1 : w1.cell? ⟨w.heap.size + 1, 6, none⟩ = some (.int .i64 (y.w.ho : Int)) := b2.out.cell 6
  go_wp2_with fail
  ((with_reducible refine (HC.out _).mono ?_))
  rintro e w2 ⟨rfl, rfl⟩
  go_wp2_with fail
  go_ret
  exact ⟨rfl, HL.out⟩
theorem banc14_calls (x y : Et) (w : World) : Calls Tryz.prog 59 #[.agg (ent x).toArray, .agg (ent y).toArray] w fun e w' => e = .returned (.int .i64 (cmpI (x.w.bw : Int) (y.w.bw : Int))) ∧ Below w.heap.size w w' := by
  have HC := Lib.hid (fun W => compareu_calls (x.w.bw : Int) (y.w.bw : Int) W)
  have HL := Lib.hid (bel_new (bel_new (Below.refl w.heap.size w) (.cells (ent x).toArray 77)) (.cells (ent y).toArray 77))
  have b1 := Lib.hid ((Blk.new w 77 (ent x)).alloc (.cells (ent y).toArray 77))
  have hb2 := Blk.new (w.alloc (.cells (ent x).toArray 77)) 77 (ent y)
  have hs : (w.alloc (.cells (ent x).toArray 77)).heap.size = w.heap.size + 1 := by simp
  rw [hs] at hb2
  have b2 := Lib.hid hb2
  clear hb2 hs
  go_enter Tryz.func59, Tryz.ntmps59
  go_upto_region 1 with fail
  generalize (w.alloc (.cells (ent x).toArray 77)).alloc (.cells (ent y).toArray 77) = w1 at *
  have y0 : w1.cell? ⟨w.heap.size, 4, none⟩ = some (.int .u64 (x.w.bw : Int)) := b1.out.cell 4
  have y1 : w1.cell? ⟨w.heap.size + 1, 4, none⟩ = some (.int .u64 (y.w.bw : Int)) := b2.out.cell 4
  go_wp2_with fail
  ((with_reducible refine (HC.out _).mono ?_))
  rintro e w2 ⟨rfl, rfl⟩
  go_wp2_with fail
  go_ret
  exact ⟨rfl, HL.out⟩
/-- What it answers. -/
def MinP14 (l : List Et) (w : World) (e : Ending) (w' : World) : Prop := ∃ m ∈ l, (∀ y ∈ l, m.w.ho ≤ y.w.ho) ∧ e = .returned (.agg (ent m).toArray) ∧ Below w.heap.size w w'
set_option maxHeartbeats 3200000 in
theorem minf14_calls (a : Option Addr) (n c : Nat) (l : List Et) (w : World) (h : Row ent w w.heap.size a n l) (hn : n ≤ 1099511627776) (h0 : 0 < n) :
    Calls Tryz.prog 55 #[.slice a n c, .func (.func 56) #[] #[]] w (MinP14 l w) := by
  have he : ∀ (args : Array Value) (w : World), (callFunc 56 args).run Tryz.prog w = .ok (.enter 56 args) w := enters_of Tryz.func56 (by kernel_rfl) rfl
  have HLEN := Lib.hid h.1
  obtain ⟨b, o, rfl, hbw, hcell⟩ := row_ent h h0
  have HC := Lib.hid hcell
  have HBW := Lib.hid hbw
  have hl0 : 0 < l.length := by rw [h.1]; exact h0
  have hn1 : decide ((n : Int) < 1) = false := decide_eq_false (by omega)
  have hn2 : (0 : Int) < (n : Int) := by omega
  have hin : ∀ x, (Tryz.prog.info? 77).map (·.size) = some (ent x).length := fun x => infoEntC14
  have HIN := Lib.hid hin
  have HONE := Lib.hid ent_one
  have HZL := Lib.hid (show ∀ x, ([.int .i64 0, .int .i64 0, .int .i64 0, .int .i64 0, .int .u64 0, .int .i64 0, .int .i64 0, .int .u32 0, .int .u32 0, .int .u32 0] : List Value).length = (ent x).length from fun x => rfl)
  have hb1 := Blk.new w 77 [.int .i64 0, .int .i64 0, .int .i64 0, .int .i64 0, .int .u64 0, .int .i64 0, .int .i64 0, .int .u32 0, .int .u32 0, .int .u32 0]
  have hl1 : Below w.heap.size w (w.alloc (.cells #[.int .i64 0, .int .i64 0, .int .i64 0, .int .i64 0, .int .u64 0, .int .i64 0, .int .i64 0, .int .u32 0, .int .u32 0, .int .u32 0] 77)) := bel_new (Below.refl _ _) _
  have hs1 : (w.alloc (.cells #[.int .i64 0, .int .i64 0, .int .i64 0, .int .i64 0, .int .u64 0, .int .i64 0, .int .i64 0, .int .u32 0, .int .u32 0, .int .u32 0] 77)).heap.size = w.heap.size + 1 := by simp
  have B1 := Lib.hid (show Blk (w.alloc (.cells #[.int .i64 0, .int .i64 0, .int .i64 0, .int .i64 0, .int .u64 0, .int .i64 0, .int .i64 0, .int .u32 0, .int .u32 0, .int .u32 0] 77)) w.heap.size 77 [.int .i64 0, .int .i64 0, .int .i64 0, .int .i64 0, .int .u64 0, .int .i64 0, .int .i64 0, .int .u32 0, .int .u32 0, .int .u32 0] from hb1)
  have L1 := Lib.hid hl1
  have S1 := Lib.hid hs1
  unfold MinP14
  clear h hcell hbw hin hb1 hl1 hs1
  go_enter Tryz.func55, Tryz.ntmps55
  go_upto_region 1 with fail
  generalize w.alloc (.cells #[.int .i64 0, .int .i64 0, .int .i64 0, .int .i64 0, .int .u64 0, .int .i64 0, .int .i64 0, .int .u32 0, .int .u32 0, .int .u32 0] 77) = w1 at *
  have x0 := HC.out 0 hl0 w1 (L1.out.block b HBW.out)
  rw [Nat.zero_mul, Nat.add_zero] at x0
  have X0 := Lib.hid x0
  have hb5 := Blk.new w1 77 [.int .i64 0, .int .i64 0, .int .i64 0, .int .i64 0, .int .u64 0, .int .i64 0, .int .i64 0, .int .u32 0, .int .u32 0, .int .u32 0]
  have B5 := Lib.hid (show Blk (w1.alloc (.cells #[.int .i64 0, .int .i64 0, .int .i64 0, .int .i64 0, .int .u64 0, .int .i64 0, .int .i64 0, .int .u32 0, .int .u32 0, .int .u32 0] 77)) w1.heap.size 77 [.int .i64 0, .int .i64 0, .int .i64 0, .int .i64 0, .int .u64 0, .int .i64 0, .int .i64 0, .int .u32 0, .int .u32 0, .int .u32 0] from hb5)
  have B1' := Lib.hid (B1.out.alloc (.cells #[.int .i64 0, .int .i64 0, .int .i64 0, .int .i64 0, .int .u64 0, .int .i64 0, .int .i64 0, .int .u32 0, .int .u32 0, .int .u32 0] 77))
  have L1' := Lib.hid (bel_new L1.out (.cells #[.int .i64 0, .int .i64 0, .int .i64 0, .int .i64 0, .int .u64 0, .int .i64 0, .int .i64 0, .int .u32 0, .int .u32 0, .int .u32 0] 77))
  have S1' := Lib.hid (show (w1.alloc (.cells #[.int .i64 0, .int .i64 0, .int .i64 0, .int .i64 0, .int .u64 0, .int .i64 0, .int .i64 0, .int .u32 0, .int .u32 0, .int .u32 0] 77)).heap.size = w1.heap.size + 1 by simp)
  clear x0 hb5
  go_wp2_with (first | (refine step_load_at (o := ⟨some 13, _, _, _, _, _⟩) rfl rfl rfl X0.out Tryz.underlying77 rfl (HIN.out _) ?_) | ((with_reducible refine step_store (o := ⟨none, _, _, _, _, _⟩) (vs := ent l[0]) (ty := 77) (x := .tmp 5) (y := .tmp 13) ?_ ?_ ?_ ?_ B5.out (HIN.out _) (HZL.out _) (HONE.out _) ?_); (rfl); (rfl); (rfl); (rfl); intro w2 hb2 hg2 hs2))
  have SZ := Lib.hid S1.out
  rw [S1.out] at hb2 hg2
  have B2 := Lib.hid hb2
  have B4 := Lib.hid (blk_kept14 B1'.out hg2 (by omega))
  have L2 := Lib.hid (bel_upd L1'.out hg2 (Nat.le_refl _) (by omega))
  have S2 := Lib.hid (show w2.heap.size = w.heap.size + 2 by rw [hs2, S1'.out, S1.out])
  rw [S1.out]
  clear hb2 hg2 hs2 B1' B1 L1 L1' B5 S1' X0
  go_wp2_with fail
  go_loopw [6] (fun t wr => ∃ i : Nat, 1 ≤ i ∧ i ≤ n ∧ t = .int .i64 (i : Int) ∧ ∃ m ∈ l, (∀ y ∈ l.take i, m.w.ho ≤ y.w.ho) ∧ Blk wr (w.heap.size + 1) 77 (ent m) ∧ Blk wr w.heap.size 77 [.int .i64 0, .int .i64 0, .int .i64 0, .int .i64 0, .int .u64 0, .int .i64 0, .int .i64 0, .int .u32 0, .int .u32 0, .int .u32 0] ∧ Below w.heap.size w wr) (fun t wr => n - (intOf t).toNat)
  case atStart => exact ⟨1, by omega, by omega, rfl, l[0], List.getElem_mem hl0, fun y hy => (by
    obtain ⟨x, t, e⟩ := List.exists_cons_of_ne_nil (List.ne_nil_of_length_pos hl0)
    subst e
    simp at hy
    subst hy
    exact Int.le_refl _), B2.out, B4.out, L2.out⟩
  case round =>
    clear B2 B4 L2
    obtain ⟨i, hi1, hin, rfl, m, hm, hmin, hbm, hb4, hbl⟩ := hrel
    have HM := Lib.hid hm
    have HMI := Lib.hid hmin
    have BM := Lib.hid hbm
    have B4 := Lib.hid hb4
    have HB := Lib.hid hbl
    clear hm hmin hbm hb4 hbl
    by_cases hlt : i < n
    · have hil : i < l.length := by have := HLEN.out; omega
      have HX := Lib.hid (HC.out i hil wr (HB.out.block b HBW.out))
      obtain ⟨x, hx⟩ : ∃ x, l[i] = x := ⟨_, rfl⟩
      rw [hx] at HX
      have HXM := Lib.hid (show x ∈ l by rw [← hx]; exact List.getElem_mem hil)
      have HT := Lib.hid (show l.take (i + 1) = l.take i ++ [x] by rw [← hx]; exact List.take_succ_eq_append_getElem hil)
      have hcl := fun W => pric14_calls x m W
      have hcs := cmpI_cases14 (x.w.ho : Int) (m.w.ho : Int)
      obtain ⟨r, hr⟩ : ∃ r, cmpI (x.w.ho : Int) (m.w.ho : Int) = r := ⟨_, rfl⟩
      rw [hr] at hcl hcs
      have HCL := Lib.hid hcl
      have HCS := Lib.hid hcs
      have i1 : (i : Int) < (n : Int) := by omega
      have i2 : IntKind.i64.wrap ((i : Int) + 1) = ((i + 1 : Nat) : Int) := by rw [IntWalk.i64_in _ (by omega)]; omega
      have HI := Lib.hid (And.intro hi1 hlt)
      clear hx hr hcl hcs hi1 hin hil
      obtain ⟨d, hd⟩ : ∃ d, decide (r < 0) = d := ⟨_, rfl⟩
      have S0 : Blk wr (w.heap.size + 1) 77 (ent m) ∧ wr.rangeAt b (o + i * 10) (ent x) := ⟨BM.out, HX.out⟩
      go_wp2_with fail
      refine region_seq (fun W => Blk W (w.heap.size + 1) 77 (ent m) ∧ W.rangeAt b (o + i * 10) (ent x)) [(0, true), (1, true), (2, true), (3, true), (4, true), (5, true), (6, false), (7, true)]
        (by kernel_rfl) (by kernel_rfl) (by kernel_rfl) (by kernel_rfl) (fun _ _ _ _ _ h => h) S0 ?_
      have S0' := Lib.hid S0
      clear S0
      repeat first
        | refine seq_load_at14 rfl (by rfl) rfl rfl (fun W hW => hW.2) Tryz.underlying77 rfl (HIN.out _) ?_
          simp only [Act.put, List.setIfInBounds_toArray, List.set_cons_zero, List.set_cons_succ]
        | refine seq_load8 rfl (by rfl) rfl rfl (fun W hW => hW.1) Tryz.underlying77 rfl (HIN.out _) ?_
          simp only [Act.put, List.setIfInBounds_toArray, List.set_cons_zero, List.set_cons_succ]
        | refine seq_pure (v := ?_) rfl (by rfl) (fun W hW => ?_) ?_
          rotate_left
          · clear hW
            go_simp
            with_reducible rfl
          simp only [Act.put, List.setIfInBounds_toArray, List.set_cons_zero, List.set_cons_succ]
      refine seq_make rfl (by rfl) (fun K hK => ?_)
      go_simp
      ((with_reducible refine (HCL.out _).mono ?_))
      rintro e w3 ⟨rfl, b3⟩
      have S3 := Lib.hid (show Blk w3 (w.heap.size + 1) 77 (ent m) ∧ w3.rangeAt b (o + i * 10) (ent x) from ⟨BM.out.below (below_of_drew b3), rangeAt_same HX.out ((below_of_drew b3).block b (Nat.lt_of_lt_of_le HBW.out HB.out.size))⟩)
      have B43 := Lib.hid (B4.out.below (below_of_drew b3))
      have HB3 := Lib.hid (HB.out.trans ((below_of_drew b3).mono HB.out.size))
      clear b3
      go_simp
      refine hK _ _ (fun W => Blk W (w.heap.size + 1) 77 (ent m) ∧ W.rangeAt b (o + i * 10) (ent x)) (fun W h => h) S3.out ?_
      clear hK K HCL S0' BM B4 HB HX
      cases d with
      | true =>
        have HD := Lib.hid hd
        refine seq_pure (v := .bool true) rfl (by rfl) (fun W hW => ?_) ?_
        · clear hW
          have hd2 : r < 0 := of_decide_eq_true HD.out
          clear hd
          go_simp
          try simp [hd2]
        simp only [Act.put, List.setIfInBounds_toArray, List.set_cons_zero, List.set_cons_succ]
        refine seq_done ?_
        clear hd
        have R3 := Lib.hid S3.out.2
        have BB3 := Lib.hid S3.out.1
        go_wp2_with (first | (refine step_load_at (o := ⟨some 31, _, _, _, _, _⟩) rfl rfl rfl R3.out Tryz.underlying77 rfl (HIN.out _) ?_) | ((with_reducible refine step_store (o := ⟨none, _, _, _, _, _⟩) (vs := ent x) (ty := 77) (x := .tmp 5) (y := .tmp 31) ?_ ?_ ?_ ?_ BB3.out (HIN.out _) rfl (HONE.out _) ?_); (rfl); (rfl); (rfl); (rfl); intro w4 hb5 hg5 hs5))
        have E1 := Lib.hid hb5
        have E2 := Lib.hid (blk_kept14 B43.out hg5 (by omega))
        have E3 := Lib.hid (bel_upd HB3.out hg5 (Nat.le_refl _) (by omega))
        clear hb5 hg5 hs5
        go_wp2_with fail
        go_roundw
        case rel =>
          refine ⟨i + 1, by omega, by have := HI.out; omega, by first | rfl | (simp; omega), x, HXM.out, ?_, E1.out, E2.out, E3.out⟩
          have hd2 : r < 0 := of_decide_eq_true HD.out
          intro y hy
          rw [HT.out, List.mem_append, List.mem_singleton] at hy
          rcases hy with hy | hy
          · have := HMI.out y hy
            rcases HCS.out with ⟨e1, e2⟩ | ⟨e1, e2⟩ | ⟨e1, e2⟩ <;> omega
          · rw [hy]; exact Int.le_refl _
        case measure => have := HI.out; simp [intOf]; omega
      | false =>
        have HD := Lib.hid hd
        refine seq_pure (v := .bool false) rfl (by rfl) (fun W hW => ?_) ?_
        · clear hW
          have hd2 : ¬ (r < 0) := of_decide_eq_false HD.out
          clear hd
          go_simp
          try simp [hd2]
        simp only [Act.put, List.setIfInBounds_toArray, List.set_cons_zero, List.set_cons_succ]
        refine seq_done ?_
        clear hd
        go_wp2_with fail
        go_roundw
        case rel =>
          refine ⟨i + 1, by omega, by have := HI.out; omega, by first | rfl | (simp; omega), m, HM.out, ?_, S3.out.1, B43.out, HB3.out⟩
          have hd2 : ¬ (r < 0) := of_decide_eq_false HD.out
          intro y hy
          rw [HT.out, List.mem_append, List.mem_singleton] at hy
          rcases hy with hy | hy
          · exact HMI.out y hy
          · rw [hy]
            rcases HCS.out with ⟨e1, e2⟩ | ⟨e1, e2⟩ | ⟨e1, e2⟩ <;> omega
        case measure => have := HI.out; simp [intOf]; omega
    · have i1 : ¬ (i : Int) < (n : Int) := by omega
      have hie : i = n := by omega
      have HT := Lib.hid (show l.take i = l by rw [hie, ← HLEN.out]; exact List.take_length)
      clear hi1 hin hlt hie
      go_wp2_with (first | ((with_reducible refine step_load (o := ⟨some 32, _, _, _, _, _⟩) (x := .tmp 5) ?_ ?_ ?_ BM.out Tryz.underlying77 ?_ (HIN.out _) ?_); (rfl); (rfl); (rfl); (rfl)) | ((with_reducible refine step_store (o := ⟨none, _, _, _, _, _⟩) (vs := ent m) (ty := 77) (x := .tmp 4) (y := .tmp 32) ?_ ?_ ?_ ?_ B4.out (HIN.out _) (HZL.out _) (HONE.out _) ?_); (rfl); (rfl); (rfl); (rfl); intro w4 hb5 hg5 hs5))
      refine bodyPost_ret (v := .agg (ent m).toArray) (results_one8 rfl _ rfl hb5 Tryz.underlying77 rfl (HIN.out _)) rfl ?_
      exact ⟨m, HM.out, fun y hy => HMI.out y (by rw [HT.out]; exact hy), rfl, bel_upd HB.out hg5 (Nat.le_refl _) (by omega)⟩
/-- What it answers. -/
def MaxP14 (l : List Et) (w : World) (e : Ending) (w' : World) : Prop := ∃ m ∈ l, (∀ y ∈ l, y.w.bw ≤ m.w.bw) ∧ e = .returned (.agg (ent m).toArray) ∧ Below w.heap.size w w'
set_option maxHeartbeats 3200000 in
theorem maxf14_calls (a : Option Addr) (n c : Nat) (l : List Et) (w : World) (h : Row ent w w.heap.size a n l) (hn : n ≤ 1099511627776) (h0 : 0 < n) :
    Calls Tryz.prog 58 #[.slice a n c, .func (.func 59) #[] #[]] w (MaxP14 l w) := by
  have he : ∀ (args : Array Value) (w : World), (callFunc 59 args).run Tryz.prog w = .ok (.enter 59 args) w := enters_of Tryz.func59 (by kernel_rfl) rfl
  have HLEN := Lib.hid h.1
  obtain ⟨b, o, rfl, hbw, hcell⟩ := row_ent h h0
  have HC := Lib.hid hcell
  have HBW := Lib.hid hbw
  have hl0 : 0 < l.length := by rw [h.1]; exact h0
  have hn1 : decide ((n : Int) < 1) = false := decide_eq_false (by omega)
  have hn2 : (0 : Int) < (n : Int) := by omega
  have hin : ∀ x, (Tryz.prog.info? 77).map (·.size) = some (ent x).length := fun x => infoEntC14
  have HIN := Lib.hid hin
  have HONE := Lib.hid ent_one
  have HZL := Lib.hid (show ∀ x, ([.int .i64 0, .int .i64 0, .int .i64 0, .int .i64 0, .int .u64 0, .int .i64 0, .int .i64 0, .int .u32 0, .int .u32 0, .int .u32 0] : List Value).length = (ent x).length from fun x => rfl)
  have hb1 := Blk.new w 77 [.int .i64 0, .int .i64 0, .int .i64 0, .int .i64 0, .int .u64 0, .int .i64 0, .int .i64 0, .int .u32 0, .int .u32 0, .int .u32 0]
  have hl1 : Below w.heap.size w (w.alloc (.cells #[.int .i64 0, .int .i64 0, .int .i64 0, .int .i64 0, .int .u64 0, .int .i64 0, .int .i64 0, .int .u32 0, .int .u32 0, .int .u32 0] 77)) := bel_new (Below.refl _ _) _
  have hs1 : (w.alloc (.cells #[.int .i64 0, .int .i64 0, .int .i64 0, .int .i64 0, .int .u64 0, .int .i64 0, .int .i64 0, .int .u32 0, .int .u32 0, .int .u32 0] 77)).heap.size = w.heap.size + 1 := by simp
  have B1 := Lib.hid (show Blk (w.alloc (.cells #[.int .i64 0, .int .i64 0, .int .i64 0, .int .i64 0, .int .u64 0, .int .i64 0, .int .i64 0, .int .u32 0, .int .u32 0, .int .u32 0] 77)) w.heap.size 77 [.int .i64 0, .int .i64 0, .int .i64 0, .int .i64 0, .int .u64 0, .int .i64 0, .int .i64 0, .int .u32 0, .int .u32 0, .int .u32 0] from hb1)
  have L1 := Lib.hid hl1
  have S1 := Lib.hid hs1
  unfold MaxP14
  clear h hcell hbw hin hb1 hl1 hs1
  go_enter Tryz.func58, Tryz.ntmps58
  go_upto_region 1 with fail
  generalize w.alloc (.cells #[.int .i64 0, .int .i64 0, .int .i64 0, .int .i64 0, .int .u64 0, .int .i64 0, .int .i64 0, .int .u32 0, .int .u32 0, .int .u32 0] 77) = w1 at *
  have x0 := HC.out 0 hl0 w1 (L1.out.block b HBW.out)
  rw [Nat.zero_mul, Nat.add_zero] at x0
  have X0 := Lib.hid x0
  have hb5 := Blk.new w1 77 [.int .i64 0, .int .i64 0, .int .i64 0, .int .i64 0, .int .u64 0, .int .i64 0, .int .i64 0, .int .u32 0, .int .u32 0, .int .u32 0]
  have B5 := Lib.hid (show Blk (w1.alloc (.cells #[.int .i64 0, .int .i64 0, .int .i64 0, .int .i64 0, .int .u64 0, .int .i64 0, .int .i64 0, .int .u32 0, .int .u32 0, .int .u32 0] 77)) w1.heap.size 77 [.int .i64 0, .int .i64 0, .int .i64 0, .int .i64 0, .int .u64 0, .int .i64 0, .int .i64 0, .int .u32 0, .int .u32 0, .int .u32 0] from hb5)
  have B1' := Lib.hid (B1.out.alloc (.cells #[.int .i64 0, .int .i64 0, .int .i64 0, .int .i64 0, .int .u64 0, .int .i64 0, .int .i64 0, .int .u32 0, .int .u32 0, .int .u32 0] 77))
  have L1' := Lib.hid (bel_new L1.out (.cells #[.int .i64 0, .int .i64 0, .int .i64 0, .int .i64 0, .int .u64 0, .int .i64 0, .int .i64 0, .int .u32 0, .int .u32 0, .int .u32 0] 77))
  have S1' := Lib.hid (show (w1.alloc (.cells #[.int .i64 0, .int .i64 0, .int .i64 0, .int .i64 0, .int .u64 0, .int .i64 0, .int .i64 0, .int .u32 0, .int .u32 0, .int .u32 0] 77)).heap.size = w1.heap.size + 1 by simp)
  clear x0 hb5
  go_wp2_with (first | (refine step_load_at (o := ⟨some 13, _, _, _, _, _⟩) rfl rfl rfl X0.out Tryz.underlying77 rfl (HIN.out _) ?_) | ((with_reducible refine step_store (o := ⟨none, _, _, _, _, _⟩) (vs := ent l[0]) (ty := 77) (x := .tmp 5) (y := .tmp 13) ?_ ?_ ?_ ?_ B5.out (HIN.out _) (HZL.out _) (HONE.out _) ?_); (rfl); (rfl); (rfl); (rfl); intro w2 hb2 hg2 hs2))
  have SZ := Lib.hid S1.out
  rw [S1.out] at hb2 hg2
  have B2 := Lib.hid hb2
  have B4 := Lib.hid (blk_kept14 B1'.out hg2 (by omega))
  have L2 := Lib.hid (bel_upd L1'.out hg2 (Nat.le_refl _) (by omega))
  have S2 := Lib.hid (show w2.heap.size = w.heap.size + 2 by rw [hs2, S1'.out, S1.out])
  rw [S1.out]
  clear hb2 hg2 hs2 B1' B1 L1 L1' B5 S1' X0
  go_wp2_with fail
  go_loopw [6] (fun t wr => ∃ i : Nat, 1 ≤ i ∧ i ≤ n ∧ t = .int .i64 (i : Int) ∧ ∃ m ∈ l, (∀ y ∈ l.take i, y.w.bw ≤ m.w.bw) ∧ Blk wr (w.heap.size + 1) 77 (ent m) ∧ Blk wr w.heap.size 77 [.int .i64 0, .int .i64 0, .int .i64 0, .int .i64 0, .int .u64 0, .int .i64 0, .int .i64 0, .int .u32 0, .int .u32 0, .int .u32 0] ∧ Below w.heap.size w wr) (fun t wr => n - (intOf t).toNat)
  case atStart => exact ⟨1, by omega, by omega, rfl, l[0], List.getElem_mem hl0, fun y hy => (by
    obtain ⟨x, t, e⟩ := List.exists_cons_of_ne_nil (List.ne_nil_of_length_pos hl0)
    subst e
    simp at hy
    subst hy
    exact Nat.le_refl _), B2.out, B4.out, L2.out⟩
  case round =>
    clear B2 B4 L2
    obtain ⟨i, hi1, hin, rfl, m, hm, hmin, hbm, hb4, hbl⟩ := hrel
    have HM := Lib.hid hm
    have HMI := Lib.hid hmin
    have BM := Lib.hid hbm
    have B4 := Lib.hid hb4
    have HB := Lib.hid hbl
    clear hm hmin hbm hb4 hbl
    by_cases hlt : i < n
    · have hil : i < l.length := by have := HLEN.out; omega
      have HX := Lib.hid (HC.out i hil wr (HB.out.block b HBW.out))
      obtain ⟨x, hx⟩ : ∃ x, l[i] = x := ⟨_, rfl⟩
      rw [hx] at HX
      have HXM := Lib.hid (show x ∈ l by rw [← hx]; exact List.getElem_mem hil)
      have HT := Lib.hid (show l.take (i + 1) = l.take i ++ [x] by rw [← hx]; exact List.take_succ_eq_append_getElem hil)
      have hcl := fun W => banc14_calls x m W
      have hcs := cmpI_cases14 (x.w.bw : Int) (m.w.bw : Int)
      obtain ⟨r, hr⟩ : ∃ r, cmpI (x.w.bw : Int) (m.w.bw : Int) = r := ⟨_, rfl⟩
      rw [hr] at hcl hcs
      have HCL := Lib.hid hcl
      have HCS := Lib.hid hcs
      have i1 : (i : Int) < (n : Int) := by omega
      have i2 : IntKind.i64.wrap ((i : Int) + 1) = ((i + 1 : Nat) : Int) := by rw [IntWalk.i64_in _ (by omega)]; omega
      have HI := Lib.hid (And.intro hi1 hlt)
      clear hx hr hcl hcs hi1 hin hil
      obtain ⟨d, hd⟩ : ∃ d, decide (0 < r) = d := ⟨_, rfl⟩
      have S0 : Blk wr (w.heap.size + 1) 77 (ent m) ∧ wr.rangeAt b (o + i * 10) (ent x) := ⟨BM.out, HX.out⟩
      go_wp2_with fail
      refine region_seq (fun W => Blk W (w.heap.size + 1) 77 (ent m) ∧ W.rangeAt b (o + i * 10) (ent x)) [(0, true), (1, true), (2, true), (3, true), (4, true), (5, true), (6, false), (7, true)]
        (by kernel_rfl) (by kernel_rfl) (by kernel_rfl) (by kernel_rfl) (fun _ _ _ _ _ h => h) S0 ?_
      have S0' := Lib.hid S0
      clear S0
      repeat first
        | refine seq_load_at14 rfl (by rfl) rfl rfl (fun W hW => hW.2) Tryz.underlying77 rfl (HIN.out _) ?_
          simp only [Act.put, List.setIfInBounds_toArray, List.set_cons_zero, List.set_cons_succ]
        | refine seq_load8 rfl (by rfl) rfl rfl (fun W hW => hW.1) Tryz.underlying77 rfl (HIN.out _) ?_
          simp only [Act.put, List.setIfInBounds_toArray, List.set_cons_zero, List.set_cons_succ]
        | refine seq_pure (v := ?_) rfl (by rfl) (fun W hW => ?_) ?_
          rotate_left
          · clear hW
            go_simp
            with_reducible rfl
          simp only [Act.put, List.setIfInBounds_toArray, List.set_cons_zero, List.set_cons_succ]
      refine seq_make rfl (by rfl) (fun K hK => ?_)
      go_simp
      ((with_reducible refine (HCL.out _).mono ?_))
      rintro e w3 ⟨rfl, b3⟩
      have S3 := Lib.hid (show Blk w3 (w.heap.size + 1) 77 (ent m) ∧ w3.rangeAt b (o + i * 10) (ent x) from ⟨BM.out.below (below_of_drew b3), rangeAt_same HX.out ((below_of_drew b3).block b (Nat.lt_of_lt_of_le HBW.out HB.out.size))⟩)
      have B43 := Lib.hid (B4.out.below (below_of_drew b3))
      have HB3 := Lib.hid (HB.out.trans ((below_of_drew b3).mono HB.out.size))
      clear b3
      go_simp
      refine hK _ _ (fun W => Blk W (w.heap.size + 1) 77 (ent m) ∧ W.rangeAt b (o + i * 10) (ent x)) (fun W h => h) S3.out ?_
      clear hK K HCL S0' BM B4 HB HX
      cases d with
      | true =>
        have HD := Lib.hid hd
        refine seq_pure (v := .bool true) rfl (by rfl) (fun W hW => ?_) ?_
        · clear hW
          have hd2 : 0 < r := of_decide_eq_true HD.out
          clear hd
          go_simp
          try simp [hd2]
        simp only [Act.put, List.setIfInBounds_toArray, List.set_cons_zero, List.set_cons_succ]
        refine seq_done ?_
        clear hd
        have R3 := Lib.hid S3.out.2
        have BB3 := Lib.hid S3.out.1
        go_wp2_with (first | (refine step_load_at (o := ⟨some 31, _, _, _, _, _⟩) rfl rfl rfl R3.out Tryz.underlying77 rfl (HIN.out _) ?_) | ((with_reducible refine step_store (o := ⟨none, _, _, _, _, _⟩) (vs := ent x) (ty := 77) (x := .tmp 5) (y := .tmp 31) ?_ ?_ ?_ ?_ BB3.out (HIN.out _) rfl (HONE.out _) ?_); (rfl); (rfl); (rfl); (rfl); intro w4 hb5 hg5 hs5))
        have E1 := Lib.hid hb5
        have E2 := Lib.hid (blk_kept14 B43.out hg5 (by omega))
        have E3 := Lib.hid (bel_upd HB3.out hg5 (Nat.le_refl _) (by omega))
        clear hb5 hg5 hs5
        go_wp2_with fail
        go_roundw
        case rel =>
          refine ⟨i + 1, by omega, by have := HI.out; omega, by first | rfl | (simp; omega), x, HXM.out, ?_, E1.out, E2.out, E3.out⟩
          have hd2 : 0 < r := of_decide_eq_true HD.out
          intro y hy
          rw [HT.out, List.mem_append, List.mem_singleton] at hy
          rcases hy with hy | hy
          · have := HMI.out y hy
            rcases HCS.out with ⟨e1, e2⟩ | ⟨e1, e2⟩ | ⟨e1, e2⟩ <;> omega
          · rw [hy]; exact Nat.le_refl _
        case measure => have := HI.out; simp [intOf]; omega
      | false =>
        have HD := Lib.hid hd
        refine seq_pure (v := .bool false) rfl (by rfl) (fun W hW => ?_) ?_
        · clear hW
          have hd2 : ¬ (0 < r) := of_decide_eq_false HD.out
          clear hd
          go_simp
          try simp [hd2]
        simp only [Act.put, List.setIfInBounds_toArray, List.set_cons_zero, List.set_cons_succ]
        refine seq_done ?_
        clear hd
        go_wp2_with fail
        go_roundw
        case rel =>
          refine ⟨i + 1, by omega, by have := HI.out; omega, by first | rfl | (simp; omega), m, HM.out, ?_, S3.out.1, B43.out, HB3.out⟩
          have hd2 : ¬ (0 < r) := of_decide_eq_false HD.out
          intro y hy
          rw [HT.out, List.mem_append, List.mem_singleton] at hy
          rcases hy with hy | hy
          · exact HMI.out y hy
          · rw [hy]
            rcases HCS.out with ⟨e1, e2⟩ | ⟨e1, e2⟩ | ⟨e1, e2⟩ <;> omega
        case measure => have := HI.out; simp [intOf]; omega
    · have i1 : ¬ (i : Int) < (n : Int) := by omega
      have hie : i = n := by omega
      have HT := Lib.hid (show l.take i = l by rw [hie, ← HLEN.out]; exact List.take_length)
      clear hi1 hin hlt hie
      go_wp2_with (first | ((with_reducible refine step_load (o := ⟨some 32, _, _, _, _, _⟩) (x := .tmp 5) ?_ ?_ ?_ BM.out Tryz.underlying77 ?_ (HIN.out _) ?_); (rfl); (rfl); (rfl); (rfl)) | ((with_reducible refine step_store (o := ⟨none, _, _, _, _, _⟩) (vs := ent m) (ty := 77) (x := .tmp 4) (y := .tmp 32) ?_ ?_ ?_ ?_ B4.out (HIN.out _) (HZL.out _) (HONE.out _) ?_); (rfl); (rfl); (rfl); (rfl); intro w4 hb5 hg5 hs5))
      refine bodyPost_ret (v := .agg (ent m).toArray) (results_one8 rfl _ rfl hb5 Tryz.underlying77 rfl (HIN.out _)) rfl ?_
      exact ⟨m, HM.out, fun y hy => HMI.out y (by rw [HT.out]; exact hy), rfl, bel_upd HB.out hg5 (Nat.le_refl _) (by omega)⟩
end Go.Proofs.YtjflbfianncpfaaGreat

namespace Go.Proofs.YtjflbfianncpfaaGreat
set_option maxRecDepth 100000
set_option linter.unusedVariables false
open Go.RowKit

theorem pri14_calls (a : Option Addr) (n c : Nat) (g : List Et) (w : World) (h : Row ent w w.heap.size a n g) (hn : n ≤ 1099511627776) (h0 : 0 < n) :
    Calls Tryz.prog 29 #[.slice a n c] w fun e w' => e = .returned (.int .i64 (gF g).ho) ∧ Below w.heap.size w w' := by
  have hc := minf14_calls a n c g w h hn h0
  have hg : g ≠ [] := by intro e; subst e; have := h.1; simp at this; omega
  have HG := Lib.hid hg
  have f1 : ∀ (m : Et) (v : World), (Instr.field 77 (.agg (ent m).toArray) 1).run Tryz.prog v = .ok (.agg (wnc m.w).toArray) v := fun m v => by kernel_rfl
  have f2 : ∀ (m : Wn) (v : World), (Instr.field 29 (.agg (wnc m).toArray) 2).run Tryz.prog v = .ok (.int .i64 m.ho) v := fun m v => by kernel_rfl
  clear h hg
  go_enter Tryz.func29, Tryz.ntmps29
  go_wp2_with fail
  ((with_reducible refine hc.mono ?_))
  rintro e w2 ⟨m, hm, hmin, rfl, hb⟩
  have HE := Lib.hid (gF_ho HG.out hm hmin)
  have HB := Lib.hid hb
  clear hm hmin hb hc
  have g1 := f1 m w2
  have g2 := f2 m.w w2
  clear f1 f2
  go_wp2_with fail
  go_ret
  exact ⟨by rw [HE.out]; rfl, HB.out⟩
theorem ban14_calls (a : Option Addr) (n c : Nat) (g : List Et) (w : World) (h : Row ent w w.heap.size a n g) (hn : n ≤ 1099511627776) (h0 : 0 < n) :
    Calls Tryz.prog 30 #[.slice a n c] w fun e w' => e = .returned (.int .u64 ((gF g).bw : Int)) ∧ Below w.heap.size w w' := by
  have hc := maxf14_calls a n c g w h hn h0
  have hg : g ≠ [] := by intro e; subst e; have := h.1; simp at this; omega
  have HG := Lib.hid hg
  have f1 : ∀ (m : Et) (v : World), (Instr.field 77 (.agg (ent m).toArray) 1).run Tryz.prog v = .ok (.agg (wnc m.w).toArray) v := fun m v => by kernel_rfl
  have f2 : ∀ (m : Wn) (v : World), (Instr.field 29 (.agg (wnc m).toArray) 0).run Tryz.prog v = .ok (.int .u64 (m.bw : Int)) v := fun m v => by kernel_rfl
  clear h hg
  go_enter Tryz.func30, Tryz.ntmps30
  go_wp2_with fail
  ((with_reducible refine hc.mono ?_))
  rintro e w2 ⟨m, hm, hmin, rfl, hb⟩
  have HE := Lib.hid (gF_bw HG.out hm hmin)
  have HB := Lib.hid hb
  clear hm hmin hb hc
  have g1 := f1 m w2
  have g2 := f2 m.w w2
  clear f1 f2
  go_wp2_with fail
  go_ret
  exact ⟨by rw [HE.out]; rfl, HB.out⟩
/-- The first path's key, in memory. -/
theorem row_key0 {w : World} {B n : Nat} {a : Option Addr} {g : List Et} (h : Row ent w B a n g) (h0 : 0 < n) : ∃ b o, a = some ⟨b, o, none⟩ ∧ b < B ∧ ∀ W : World, W.heap[b]? = w.heap[b]? → W.cell? ⟨b, o, none⟩ = some (.int .i64 (gF g).k.tail) ∧ W.cell? ⟨b, o + 1, none⟩ = some (.int .i64 (gF g).k.tun) ∧ W.cell? ⟨b, o + 2, none⟩ = some (.int .i64 (gF g).k.head) ∧ W.cell? ⟨b, o + 3, none⟩ = some (.int .i64 (gF g).k.lsp) := by
  obtain ⟨b, o, e, hb, hc⟩ := row_ent h h0
  have hl : 0 < g.length := by rw [h.1]; exact h0
  obtain ⟨x, t, rfl⟩ := List.exists_cons_of_ne_nil (List.ne_nil_of_length_pos hl)
  refine ⟨b, o, e, hb, fun W hW => ?_⟩
  have h1 := hc 0 hl W hW
  rw [Nat.zero_mul, Nat.add_zero] at h1
  rw [gF_key]
  exact ⟨h1 0 _ rfl, h1 1 _ rfl, h1 2 _ rfl, h1 3 _ rfl⟩
set_option maxHeartbeats 1600000 in
theorem preempt14_calls (a : Option Addr) (n c : Nat) (g : List Et) (x : Et) (w : World) (h : Row ent w w.heap.size a n g) (hn : n ≤ 1099511627776) (h0 : 0 < n) :
    Calls Tryz.prog 64 #[.slice a n c, .agg (ent x).toArray] w (Yes14 (gives14 x.k x.w.su (gF g)) w) := by
  obtain ⟨b, o, rfl, hbw, hcell⟩ := row_key0 h h0
  have hn2 : (0 : Int) < (n : Int) := by omega
  have HL := Lib.hid (bel_new (Below.refl w.heap.size w) (.cells (ent x).toArray 77))
  have HB := Lib.hid (Blk.new w 77 (ent x))
  have HKN := Lib.hid (fun W => kin14_calls (gF g).k x.k W)
  have HPR := Lib.hid (fun (W : World) (hW : Below w.heap.size w W) => pri14_calls (some ⟨b, o, none⟩) n c g W ((h.below hW).more hW.size) hn h0)
  have hgv : gives14 x.k x.w.su (gF g) = (!kKin (gF g).k x.k && decide (x.w.su < (gF g).ho)) := rfl
  obtain ⟨p, hp⟩ : ∃ p, (gF g).ho = p := ⟨_, rfl⟩
  obtain ⟨f, hf⟩ : ∃ f, (gF g).k = f := ⟨_, rfl⟩
  obtain ⟨r, hr⟩ : ∃ r, kKin f x.k = r := ⟨_, rfl⟩
  rw [hf, hp, hr] at hgv
  rw [hf] at hcell HKN
  rw [hr] at HKN
  rw [hp] at HPR
  unfold Yes14 at HKN ⊢
  rw [hgv]
  have hcs : ∀ W, Below (w.alloc (.cells (ent x).toArray 77)).heap.size (w.alloc (.cells (ent x).toArray 77)) W → (W.cell? ⟨b, o, none⟩ = some (.int .i64 f.tail) ∧ W.cell? ⟨b, o + 1, none⟩ = some (.int .i64 f.tun) ∧ W.cell? ⟨b, o + 2, none⟩ = some (.int .i64 f.head) ∧ W.cell? ⟨b, o + 3, none⟩ = some (.int .i64 f.lsp)) ∧ Blk W w.heap.size 77 (ent x) := fun W hW =>
    ⟨hcell W ((HL.out.trans (hW.mono HL.out.size)).block b hbw), HB.out.below hW⟩
  have HCS := Lib.hid hcs
  clear h hbw hcell hf hp hr hgv hcs HB
  go_enter Tryz.func64, Tryz.ntmps64
  go_upto_region 1 with fail
  generalize w.alloc (.cells (ent x).toArray 77) = w1 at *
  go_wp2_with fail
  refine region_seq (fun W => Below w1.heap.size w1 W) [(0, true), (1, true), (2, true), (3, true), (4, true), (5, true), (6, false), (7, true), (8, true), (9, true), (11, true), (12, true), (13, true), (10, false), (14, true), (15, true), (16, true)]
    (by kernel_rfl) (by kernel_rfl) (by kernel_rfl) (by kernel_rfl) (fun _ _ _ _ _ h => h) (Below.refl _ _).drew ?_
  repeat
    refine seq_pure (v := ?_) rfl (by rfl) (fun W hW => ?_) ?_
    rotate_left
    · obtain ⟨⟨c0, c1, c2, c3⟩, hb⟩ := HCS.out W hW
      have k0 : W.cell? ⟨w.heap.size, 0, none⟩ = some (.int .i64 x.k.tail) := hb.cell 0
      have k1 : W.cell? ⟨w.heap.size, 1, none⟩ = some (.int .i64 x.k.tun) := hb.cell 1
      have k2 : W.cell? ⟨w.heap.size, 2, none⟩ = some (.int .i64 x.k.head) := hb.cell 2
      have k3 : W.cell? ⟨w.heap.size, 3, none⟩ = some (.int .i64 x.k.lsp) := hb.cell 3
      clear hW hb
      go_simp
      try with_reducible rfl
    simp only [Act.put, List.setIfInBounds_toArray, List.set_cons_zero, List.set_cons_succ]
  refine seq_make rfl (by rfl) (fun K hK => ?_)
  go_simp
  ((with_reducible refine (HKN.out _).mono ?_))
  rintro e w2 ⟨rfl, hb⟩
  have B2 := Lib.hid (show Below w1.heap.size w1 w2 from below_of_drew hb)
  clear hb
  go_simp
  refine hK _ _ (fun W => Below w1.heap.size w1 W) (fun W h => h) B2.out ?_
  clear hK K
  cases r with
  | true =>
    repeat first
      | refine seq_pure (v := ?_) rfl (by rfl) (fun W hW => ?_) ?_
        rotate_left
        · clear hW
          go_simp
          try with_reducible rfl
        simp only [Act.put, List.setIfInBounds_toArray, List.set_cons_zero, List.set_cons_succ]
      | refine seq_skip rfl (by rfl) ?_
        simp only [Act.put, undef, List.setIfInBounds_toArray, List.set_cons_zero, List.set_cons_succ]
      | refine seq_unmake14 rfl (by rfl) B2.out ?_
        simp only [Act.put, undef, List.setIfInBounds_toArray, List.set_cons_zero, List.set_cons_succ]
    refine seq_done ?_
    go_wp2_with fail
    go_ret
    exact ⟨rfl, HL.out.trans (B2.out.mono HL.out.size)⟩
  | false =>
    repeat
      refine seq_pure (v := ?_) rfl (by rfl) (fun W hW => ?_) ?_
      rotate_left
      · obtain ⟨_, hb⟩ := HCS.out W hW
        have k5 : W.cell? ⟨w.heap.size, 5, none⟩ = some (.int .i64 x.w.su) := hb.cell 5
        clear hW hb
        go_simp
        try with_reducible rfl
      simp only [Act.put, List.setIfInBounds_toArray, List.set_cons_zero, List.set_cons_succ]
    refine seq_make rfl (by rfl) (fun K hK => ?_)
    go_simp
    ((with_reducible refine (HPR.out w2 (HL.out.trans (B2.out.mono HL.out.size))).mono ?_))
    rintro e w3 ⟨rfl, hb⟩
    have B3 := Lib.hid (B2.out.trans (hb.mono B2.out.size))
    clear hb
    go_simp
    refine hK _ _ (fun W => Below w1.heap.size w1 W) (fun W h => h) B3.out ?_
    clear hK K
    repeat
      refine seq_pure (v := ?_) rfl (by rfl) (fun W hW => ?_) ?_
      rotate_left
      · clear hW
        go_simp
        try with_reducible rfl
      simp only [Act.put, List.setIfInBounds_toArray, List.set_cons_zero, List.set_cons_succ]
    refine seq_done ?_
    go_wp2_with fail
    go_ret
    exact ⟨rfl, HL.out.trans (B3.out.mono HL.out.size)⟩

/-- Which family goes sooner. -/
def soonF (f h : Fam) : Int := orL [cmpI f.ho h.ho, cmpI (f.bw : Int) (h.bw : Int), ordK f.k h.k]
theorem soonF_gt (f h : Fam) : decide (0 < soonF f h) = worse14 f h := by
  unfold soonF worse14
  rcases cmpI_cases14 f.ho h.ho with ⟨h1, e1⟩ | ⟨h1, e1⟩ | ⟨h1, e1⟩ <;> rw [e1]
  · rw [if_pos (show f.ho ≠ h.ho by omega), decide_eq_false (show ¬ h.ho < f.ho by omega)]; rfl
  · rw [if_pos (show f.ho ≠ h.ho by omega), decide_eq_true h1]; rfl
  rw [if_neg (show ¬ f.ho ≠ h.ho by omega)]
  rcases cmpI_cases14 (f.bw : Int) (h.bw : Int) with ⟨h2, e2⟩ | ⟨h2, e2⟩ | ⟨h2, e2⟩ <;> rw [e2]
  · rw [if_pos (show f.bw ≠ h.bw by omega), decide_eq_false (show ¬ h.bw < f.bw by omega)]; rfl
  · rw [if_pos (show f.bw ≠ h.bw by omega), decide_eq_true (show h.bw < f.bw by omega)]; rfl
  rw [if_neg (show ¬ f.bw ≠ h.bw by omega), ← ordK_gt f.k h.k]
  rcases ordK_cases f.k h.k with ⟨_, e⟩ | ⟨_, e⟩ | ⟨_, e⟩ <;> rw [e] <;> rfl
set_option maxHeartbeats 3200000 in
theorem sooner14_calls (a1 a2 : Option Addr) (n1 c1 n2 c2 : Nat) (g1 g2 : List Et) (w : World) (h1 : Row ent w w.heap.size a1 n1 g1) (h2 : Row ent w w.heap.size a2 n2 g2) (hn1 : n1 ≤ 1099511627776) (hn2 : n2 ≤ 1099511627776) (h01 : 0 < n1) (h02 : 0 < n2) :
    Calls Tryz.prog 65 #[.slice a1 n1 c1, .slice a2 n2 c2] w fun e w' => e = .returned (.int .i64 (soonF (gF g1) (gF g2))) ∧ Below w.heap.size w w' := by
  obtain ⟨b1, o1, rfl, hbw1, hcell1⟩ := row_key0 h1 h01
  obtain ⟨b2, o2, rfl, hbw2, hcell2⟩ := row_key0 h2 h02
  have i1 : (0 : Int) < (n1 : Int) := by omega
  have i2 : (0 : Int) < (n2 : Int) := by omega
  have hp1 := fun (W : World) (hW : Below w.heap.size w W) => pri14_calls (some ⟨b1, o1, none⟩) n1 c1 g1 W ((h1.below hW).more hW.size) hn1 h01
  have hp2 := fun (W : World) (hW : Below w.heap.size w W) => pri14_calls (some ⟨b2, o2, none⟩) n2 c2 g2 W ((h2.below hW).more hW.size) hn2 h02
  have hb1 := fun (W : World) (hW : Below w.heap.size w W) => ban14_calls (some ⟨b1, o1, none⟩) n1 c1 g1 W ((h1.below hW).more hW.size) hn1 h01
  have hb2 := fun (W : World) (hW : Below w.heap.size w W) => ban14_calls (some ⟨b2, o2, none⟩) n2 c2 g2 W ((h2.below hW).more hW.size) hn2 h02
  unfold soonF
  obtain ⟨f1, hf1⟩ : ∃ f, gF g1 = f := ⟨_, rfl⟩
  obtain ⟨f2, hf2⟩ : ∃ f, gF g2 = f := ⟨_, rfl⟩
  simp only [hf1] at hcell1 hp1 hb1 ⊢
  simp only [hf2] at hcell2 hp2 hb2 ⊢
  have c0 := fun W => compare_calls f1.ho f2.ho W
  have c1' := fun W => compareu_calls (f1.bw : Int) (f2.bw : Int) W
  have c2' := fun W => order14_calls f1.k f2.k W
  obtain ⟨k0, hk0⟩ : ∃ k, cmpI f1.ho f2.ho = k := ⟨_, rfl⟩
  obtain ⟨k1, hk1⟩ : ∃ k, cmpI (f1.bw : Int) (f2.bw : Int) = k := ⟨_, rfl⟩
  obtain ⟨k2, hk2⟩ : ∃ k, ordK f1.k f2.k = k := ⟨_, rfl⟩
  rw [hk0] at c0 ⊢
  rw [hk1] at c1' ⊢
  rw [hk2] at c2' ⊢
  obtain ⟨r, hr⟩ : ∃ r, orL [k0, k1, k2] = r := ⟨_, rfl⟩
  rw [hr]
  have HR := Lib.hid hr
  have C0 := Lib.hid c0
  have C1 := Lib.hid c1'
  have C2 := Lib.hid c2'
  have P1 := Lib.hid hp1
  have P2 := Lib.hid hp2
  have Q1 := Lib.hid hb1
  have Q2 := Lib.hid hb2
  have HCS : Hid (∀ W, Below w.heap.size w W → (W.cell? ⟨b1, o1, none⟩ = some (.int .i64 f1.k.tail) ∧ W.cell? ⟨b1, o1 + 1, none⟩ = some (.int .i64 f1.k.tun) ∧ W.cell? ⟨b1, o1 + 2, none⟩ = some (.int .i64 f1.k.head) ∧ W.cell? ⟨b1, o1 + 3, none⟩ = some (.int .i64 f1.k.lsp)) ∧ W.cell? ⟨b2, o2, none⟩ = some (.int .i64 f2.k.tail) ∧ W.cell? ⟨b2, o2 + 1, none⟩ = some (.int .i64 f2.k.tun) ∧ W.cell? ⟨b2, o2 + 2, none⟩ = some (.int .i64 f2.k.head) ∧ W.cell? ⟨b2, o2 + 3, none⟩ = some (.int .i64 f2.k.lsp)) := fun W hW => ⟨hcell1 W (hW.block b1 hbw1), hcell2 W (hW.block b2 hbw2)⟩
  clear h1 h2 hcell1 hcell2 hp1 hp2 hb1 hb2 hf1 hf2 hk0 hk1 hk2 hr c0 c1' c2' hbw1 hbw2
  go_enter Tryz.func65, Tryz.ntmps65
  go_wp2_with fail
  refine region_seq (fun W => Below w.heap.size w W) [(0, true), (2, true), (5, true), (7, true), (10, true), (11, true), (12, true), (13, true), (14, true), (15, true), (16, true), (17, true), (1, false), (3, false), (4, false), (6, false), (8, false), (9, false), (18, false), (19, false), (20, false), (21, true)]
    (by kernel_rfl) (by kernel_rfl) (by kernel_rfl) (by kernel_rfl) (fun _ _ _ _ _ h => h) (Below.refl _ _).drew ?_
  repeat
    refine seq_pure (v := ?_) rfl (by rfl) (fun W hW => ?_) ?_
    rotate_left
    · obtain ⟨⟨s0, s1, s2, s3⟩, t0, t1, t2, t3⟩ := HCS.out W hW
      clear hW
      go_simp
      try with_reducible rfl
    simp only [Act.put, List.setIfInBounds_toArray, List.set_cons_zero, List.set_cons_succ]
  refine seq_make rfl (by rfl) (fun K hK => ?_)
  go_simp
  ((with_reducible refine (P1.out w.drew (Below.refl _ _).drew).mono ?_))
  rintro e w2 ⟨rfl, hb⟩
  have B2 := Lib.hid (show Below w.heap.size w w2 from below_of_drew hb)
  clear hb
  go_simp
  refine hK _ _ (fun W => Below w.heap.size w W) (fun W h => h) B2.out ?_
  clear hK K
  refine seq_make rfl (by rfl) (fun K hK => ?_)
  go_simp
  ((with_reducible refine (P2.out w2 B2.out).mono ?_))
  rintro e w3 ⟨rfl, hb⟩
  have B3 := Lib.hid (B2.out.trans (hb.mono B2.out.size))
  clear hb
  go_simp
  refine hK _ _ (fun W => Below w.heap.size w W) (fun W h => h) B3.out ?_
  clear hK K
  refine seq_make rfl (by rfl) (fun K hK => ?_)
  go_simp
  ((with_reducible refine (C0.out _).mono ?_))
  rintro e wz ⟨rfl, h9⟩
  rw [h9]
  clear h9 wz
  go_simp
  refine hK _ _ (fun W => Below w.heap.size w W) (fun W h => h) B3.out ?_
  clear hK K
  refine seq_make rfl (by rfl) (fun K hK => ?_)
  go_simp
  ((with_reducible refine (Q1.out w3 B3.out).mono ?_))
  rintro e w4 ⟨rfl, hb⟩
  have B4 := Lib.hid (B3.out.trans (hb.mono B3.out.size))
  clear hb
  go_simp
  refine hK _ _ (fun W => Below w.heap.size w W) (fun W h => h) B4.out ?_
  clear hK K
  refine seq_make rfl (by rfl) (fun K hK => ?_)
  go_simp
  ((with_reducible refine (Q2.out w4 B4.out).mono ?_))
  rintro e w5 ⟨rfl, hb⟩
  have B5 := Lib.hid (B4.out.trans (hb.mono B4.out.size))
  clear hb
  go_simp
  refine hK _ _ (fun W => Below w.heap.size w W) (fun W h => h) B5.out ?_
  clear hK K
  refine seq_make rfl (by rfl) (fun K hK => ?_)
  go_simp
  ((with_reducible refine (C1.out _).mono ?_))
  rintro e wz ⟨rfl, h9⟩
  rw [h9]
  clear h9 wz
  go_simp
  refine hK _ _ (fun W => Below w.heap.size w W) (fun W h => h) B5.out ?_
  clear hK K
  refine seq_make rfl (by rfl) (fun K hK => ?_)
  go_simp
  ((with_reducible refine (C2.out w5).mono ?_))
  rintro e w7 ⟨rfl, hb⟩
  have B7 := Lib.hid (B5.out.trans (hb.mono B5.out.size))
  clear hb
  go_simp
  refine hK _ _ (fun W => Below w.heap.size w W) (fun W h => h) B7.out ?_
  clear hK K
  refine seq_make rfl (by rfl) (fun K hK => ?_)
  go_simp
  have b3 : Blk (w7.alloc (.cells #[.int .i64 k0, .int .i64 k1, .int .i64 k2] 3)) w7.heap.size 3 [.int .i64 k0, .int .i64 k1, .int .i64 k2] := Blk.new w7 _ [.int .i64 k0, .int .i64 k1, .int .i64 k2]
  have l3 : Below w.heap.size w (w7.alloc (.cells #[.int .i64 k0, .int .i64 k1, .int .i64 k2] 3)) := bel_new B7.out _
  generalize (w7.alloc (.cells #[.int .i64 k0, .int .i64 k1, .int .i64 k2] 3)) = w8 at *
  refine hK _ _ (fun W => Below w.heap.size w W) (fun W h => h) l3 ?_
  have hk := (orl_calls [k0, k1, k2] w7.heap.size 3 w8 rfl (by decide) (fun i hi => by
    have hi4 : i < 3 := hi
    rw [b3.cell i]
    rcases i with _ | _ | _ | i
    · rfl
    · rfl
    · rfl
    · omega))
  rw [HR.out] at hk
  have HK := Lib.hid hk
  have L3 := Lib.hid l3
  clear hK K hk b3 l3
  refine seq_make rfl (by rfl) (fun K hK => ?_)
  go_simp
  ((with_reducible refine HK.out.mono ?_))
  rintro e w9 ⟨rfl, rfl⟩
  go_simp
  refine hK _ _ (fun W => Below w.heap.size w W) (fun W h => h) L3.out ?_
  clear hK K
  repeat
    refine seq_pure (v := ?_) rfl (by rfl) (fun W hW => ?_) ?_
    rotate_left
    · clear hW
      go_simp
      try with_reducible rfl
    simp only [Act.put, List.setIfInBounds_toArray, List.set_cons_zero, List.set_cons_succ]
  refine seq_done ?_
  go_wp2_with fail
  go_ret
  exact ⟨rfl, L3.out⟩
end Go.Proofs.YtjflbfianncpfaaGreat
