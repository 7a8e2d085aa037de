/-
  Plain: each link of a route that is found has room in its table. No condition beside what is said.
-/
import Derived.Test.YtjflbfianncpfaaGreatTabsM
import Derived.Test.YtjflbfianncpfaaGreatCspA
import Derived.Test.YtjflbfianncpfaaGreatSpfP
import Derived.Test.YtjflbfianncpfaaGreatTedOpen
namespace Go.Proofs.YtjflbfianncpfaaGreat
set_option maxRecDepth 100000
set_option linter.unusedVariables false

theorem Wy.link17 {L : List Lk} {a x c : Int} {r : List Int} (h : Wy L a x c r) : ∀ j, j + 1 < r.length → ∃ z ∈ L, z.f = r.getD j 0 ∧ z.t = r.getD (j + 1) 0 := by
  induction h with
  | one => intro j hj; simp at hj
  | ext z hw hz hf hn ih =>
    rename_i x0 c0 r0
    intro j hj
    simp only [List.length_append, List.length_singleton] at hj
    rcases Nat.lt_or_ge (j + 1) r0.length with h | h
    · obtain ⟨y, h1, h2, h3⟩ := ih j h
      refine ⟨y, h1, ?_, ?_⟩
      · rw [h2, List.getD_eq_getElem?_getD, List.getD_eq_getElem?_getD, List.getElem?_append_left (by omega)]
      · rw [h3, List.getD_eq_getElem?_getD, List.getD_eq_getElem?_getD, List.getElem?_append_left h]
    · have e : j = r0.length - 1 := by omega
      have hl := hw.len
      refine ⟨z, hz, ?_, ?_⟩
      · rw [List.getD_eq_getElem?_getD, List.getElem?_append_left (by omega), ← List.getD_eq_getElem?_getD, e, hw.atEnd, hf]
      · rw [List.getD_eq_getElem?_getD, List.getElem?_append_right (by omega), show j + 1 - r0.length = 0 by omega]; rfl
theorem hold_lt17 {L : List Lk} {z : Ky} {i : Nat} {ts : List Tb17} (hB : ∀ z ∈ L, LkB z) (h : Hold17 L z i ts) {k : Nat} {t : Tb17} (ht : ts[k]? = some t) : t.sz < 18446744073709551616 := by
  have h1 := h.sz k t ht
  have hk : k < L.length := by rw [← h.len]; exact (List.getElem?_eq_some_iff.1 ht).1
  rw [List.getD_eq_getElem?_getD, List.getElem?_eq_getElem hk] at h1
  have h2 := hB _ (List.getElem_mem hk)
  unfold LkB at h2
  have h3 : (t.sz : Int) = L[k].c := h1
  omega
theorem adv17_ok {L : List Lk} {z : Ky} {i : Nat} {ts : List Tb17} (hB : ∀ z ∈ L, LkB z) (h : Hold17 L z i ts) (htb : ∀ (k : Nat) (t : Tb17), ts[k]? = some t → Tbl14 t.sz t.l) : ∀ a ∈ adv17 L ts L.length, AdOk a := by
  intro a ha
  obtain ⟨k, hk, rfl⟩ := adv17_mem ha
  obtain ⟨t, ht, e⟩ := h.at_ hk
  rw [e]
  have hl := hB _ (List.getElem_mem hk)
  unfold LkB at hl
  have e2 : L.getD k default = L[k] := by rw [List.getD_eq_getElem?_getD, List.getElem?_eq_getElem hk]; rfl
  rw [e2]
  refine ⟨fr17_length t, fun n hn => ?_, hl.1, hl.2.1, hl.2.2.1, hl.2.2.2⟩
  obtain ⟨j, hj, rfl⟩ := List.mem_iff_getElem.1 hn
  have := fr17_lt (htb k t ht) (hold_lt17 hB h ht) j
  rwa [List.getD_eq_getElem?_getD, List.getElem?_eq_getElem hj] at this
theorem room17 {n : Int} {L : List Lk} {z : Ky} {i : Nat} {ts : List Tb17} (hch : chk n L = 0) (hB : ∀ z ∈ L, LkB z) (h : Hold17 L z i ts) (htb : ∀ (k : Nat) (t : Tb17), ts[k]? = some t → Tbl14 t.sz t.l) {w : Wn} {a b c : Int} {r : List Int} (hw : Wy (lks16 (adv17 L ts L.length) ⟨w, [], [], []⟩) a b c r) {j : Nat} (hj : j + 1 < r.length) :
    ∃ (m : Nat) (t : Tb17), fndL L (r.getD j 0) (r.getD (j + 1) 0) = (m : Int) ∧ (L.getD m default).f = r.getD j 0 ∧ ts[m]? = some t ∧ w.bw ≤ (fr17 t).getD w.su.toNat 0 := by
  obtain ⟨y, hy, h1, h2⟩ := hw.link17 j hj
  obtain ⟨x, hx, hfit, rfl⟩ := lks_sub hy
  obtain ⟨m, hm, rfl⟩ := adv17_mem hx
  obtain ⟨t, ht, e⟩ := h.at_ hm
  rw [e] at hfit
  have e2 : L.getD m default = L[m] := by rw [List.getD_eq_getElem?_getD, List.getElem?_eq_getElem hm]; rfl
  simp only at h1 h2
  refine ⟨m, t, ?_, h1, ht, fit17_room hfit (fr17_lt (htb m t ht) (hold_lt17 hB h ht) _)⟩
  rw [← h1, ← h2, e2]
  rcases fndL_cases L L[m].f L[m].t with ⟨_, hno⟩ | ⟨k, hk, hf, hyes⟩
  · have := hno _ (List.getElem_mem hm)
    simp [isE] at this
  · have he : sameE L[k] L[m] = true := by
      simp [isE] at hyes
      exact (sameE_iff _ _).2 hyes
    rw [hf, apart_same (apart_of_chk hch) hk hm he]
end Go.Proofs.YtjflbfianncpfaaGreat
