/-
  Contracts of what the statements of layer 5 ask with: fits, time, the document's Same (of like packets); what a step does to a packet's time. Conditions: the packet's entries read as a list.
-/
import Derived.Test.YtkbbnfinmipenaaChainP
import Derived.Test.YtkbbnfinmipenaaLfibOpen
namespace Go.Proofs.Ytkbbnfinmipenaa
open Go.RowKit Go.Maps

/-- How long a packet may still live. -/
def timeOf (es : List (Int × Int × Int)) (ttl : Int) : Int := match es with
  | [] => ttl
  | e :: _ => e.2.2

theorem fits_calls (a : Option Addr) (n c : Nat) (tun ttl : Int) (pay : ByteArray) (w : World) :
    Calls Try.prog 18 #[.agg #[.slice a n c, .int .i64 tun, .int .i64 ttl, .string pay]] w fun e w' => e = .returned (.bool (decide (n ≤ 100) && decide (pay.size ≤ 5000))) ∧ w' = w.alloc (.cells #[.slice a n c, .int .i64 tun, .int .i64 ttl, .string pay] 33) := by
  by_cases h1 : n ≤ 100
  · have e1 : decide (n ≤ 100) = true := by simpa using h1
    by_cases h2 : pay.size ≤ 5000
    · have e2 : decide (pay.size ≤ 5000) = true := by simpa using h2
      have e3 : decide ((pay.size : Int) ≤ 5000) = decide (pay.size ≤ 5000) := decide_eq_decide.2 (by omega)
      rw [e2] at e3
      rw [e1, e2]
      go_enter Try.func18, Try.ntmps18
      go_wp2
      go_ret
      exact ⟨rfl, rfl⟩
    · have e2 : decide (pay.size ≤ 5000) = false := by simpa using h2
      have e3 : decide ((pay.size : Int) ≤ 5000) = decide (pay.size ≤ 5000) := decide_eq_decide.2 (by omega)
      rw [e2] at e3
      rw [e1, e2]
      go_enter Try.func18, Try.ntmps18
      go_wp2
      go_ret
      exact ⟨rfl, rfl⟩
  · have e1 : decide (n ≤ 100) = false := by simpa using h1
    rw [e1]
    go_enter Try.func18, Try.ntmps18
    go_wp2
    go_ret
    exact ⟨rfl, rfl⟩

theorem time_calls (a : Option Addr) (n c : Nat) (es : List (Int × Int × Int)) (tun ttl : Int) (pay : ByteArray) (w : World) (h : Row ec w w.heap.size a n es) :
    Calls Try.prog 25 #[.agg #[.slice a n c, .int .i64 tun, .int .i64 ttl, .string pay]] w fun e w' => e = .returned (.int .i64 (timeOf es ttl)) ∧ Below w.heap.size w w' := by
  have K0 := Lib.hid (bel_new (Below.refl w.heap.size w) (.cells #[.slice a n c, .int .i64 tun, .int .i64 ttl, .string pay] 33))
  have HL := Lib.hid h.1
  cases es with
  | nil =>
    obtain rfl : n = 0 := HL.out.symm
    clear h
    go_enter Try.func25, Try.ntmps25
    go_wp2
    go_ret
    exact ⟨rfl, K0.out⟩
  | cons e0 rs =>
    have hn : 0 < n := by rw [← HL.out]; simp
    obtain ⟨b, o, rfl, hb, hat⟩ := row_at3 (h.below K0.out) hn
    obtain ⟨d0, d1, d2⟩ := hat 0 (by simp)
    simp only [List.getElem_cons_zero, Nat.zero_mul, Nat.add_zero] at d2
    have ht : timeOf (e0 :: rs) ttl = e0.2.2 := rfl
    rw [ht]
    generalize e0.2.2 = z at *
    clear h hat d0 d1 ht
    go_enter Try.func25, Try.ntmps25
    go_wp2
    go_ret
    exact ⟨rfl, K0.out⟩

set_option maxRecDepth 100000 in
theorem refsame5_calls (a a2 : Option Addr) (n c c2 : Nat) (es : List (Int × Int × Int)) (tun ttl : Int) (pay : ByteArray) (w : World) (h : Row ec w w.heap.size a n es) (h2 : Row ec w w.heap.size a2 n es) (hn : n ≤ 1099511627776) :
    Calls Try.prog 21 #[.agg #[.slice a n c, .int .i64 tun, .int .i64 ttl, .string pay], .agg #[.slice a2 n c2, .int .i64 tun, .int .i64 ttl, .string pay]] w fun e w' => e = .returned (.bool true) ∧ Below w.heap.size w w' := by
  have K0 := Lib.hid (bel_new (bel_new (Below.refl w.heap.size w) (.cells #[.slice a n c, .int .i64 tun, .int .i64 ttl, .string pay] 33)) (.cells #[.slice a2 n c2, .int .i64 tun, .int .i64 ttl, .string pay] 33))
  have H1 := Lib.hid (h.below K0.out)
  have H2 := Lib.hid (h2.below K0.out)
  clear h h2
  go_enter Try.func21, Try.ntmps21
  go_wp2_with fail
  ((with_reducible refine (same_calls a a2 n c c2 es _ _ _ H1.out H2.out hn).mono ?_))
  rintro e w1 ⟨rfl, m, rfl⟩
  go_wp2
  go_ret
  exact ⟨rfl, bel_drewN K0.out m⟩

theorem stepR_ne {l u es : List (Int × Int × Int)} {tun ttl er : Int} {n : Nat} (h : stepR l u es tun ttl n = .error er) : (er == 0) = false ∧ er ≠ 0 := by
  have : er ≠ 0 := by
    rintro rfl
    unfold stepR at h
    split at h
    · split at h
      · unfold beginR at h
        split at h
        · cases h
        · split at h <;> cases h
      · unfold forwardR at h
        split at h
        · cases h
        · split at h
          · cases h
          · split at h
            · split at h <;> cases h
            · cases h
    · cases h
  exact ⟨by rw [beq_eq_false_iff_ne]; exact this, this⟩

/-- What a step does to a packet. -/
theorem step_time {l u es es' : List (Int × Int × Int)} {tun ttl nx ttl' : Int} {n : Nat} (hl : ∀ r ∈ l, (16 ≤ r.1 ∧ r.1 ≤ 1048575) ∧ okOut r.2) (hu : ∀ r ∈ u, (1 ≤ r.1 ∧ r.1 ≤ 65535) ∧ okOut r.2) (h : stepR l u es tun ttl n = .ok (nx, es', ttl')) :
    timeOf es' ttl' < timeOf es ttl ∧ 0 ≤ timeOf es' ttl' ∧ timeOf es ttl ≤ 255 ∧ es'.length ≤ es.length + 1 ∧ es.length ≤ es'.length + 1 ∧ 0 ≤ nx ∧ nx ≤ 15 ∧ es.length ≤ 8 ∧ es'.length ≤ 9 := by
  unfold stepR at h
  split at h
  case isFalse => cases h
  case isTrue hok =>
    obtain ⟨h8, _, hm, t0, t1⟩ := okPkt_yes hok
    split at h
    · unfold beginR at h
      split at h
      · cases h
      · rename_i p hf
        have ho := (hu _ (fnd_mem hf)).2
        unfold okOut at ho
        split at h
        · cases h
        · rename_i hz
          injection h with h
          injection h with h1 h2
          injection h2 with h2 h3
          subst h1; subst h3
          split at h2
          · subst h2
            simp only [timeOf, List.length_nil] at *
            omega
          · subst h2
            simp only [timeOf, List.length_nil, List.length_cons] at *
            omega
    · rename_i e rs
      have hme := may_yes (x := e.1) (y := e.2.1) (z := e.2.2) (hm e (by simp))
      unfold forwardR at h
      split at h
      · cases h
      · rename_i p hf
        have ho := (hl _ (fnd_mem hf)).2
        unfold okOut at ho
        split at h
        · cases h
        · split at h
          · split at h
            · injection h with h
              injection h with h1 h2
              injection h2 with h2 h3
              subst h1; subst h2; subst h3
              simp only [timeOf, List.length_nil, List.length_cons] at *
              omega
            · rename_i r rs'
              have hmr := may_yes (x := r.1) (y := r.2.1) (z := r.2.2) (hm r (by simp))
              injection h with h
              injection h with h1 h2
              injection h2 with h2 h3
              subst h1; subst h2; subst h3
              simp only [timeOf, List.length_cons] at *
              omega
          · injection h with h
            injection h with h1 h2
            injection h2 with h2 h3
            subst h1; subst h2; subst h3
            simp only [timeOf, List.length_cons] at *
            omega

/-- A row of entries stays as it is when another block is written. -/
theorem Row.write {α : Type} {enc : α → List Value} {w : World} {B n q : Nat} {a : Option Addr} {l : List α} (h : Row enc w B a n l) (hne : ∀ b o, a = some ⟨b, o, none⟩ → 0 < n → b ≠ q) (v0 v1 v2 v3 : Value) : Row enc (write4 w q v0 v1 v2 v3) B a n l :=
  ⟨h.1, fun hn => by
    obtain ⟨b, o, e, hb, hc⟩ := h.2 hn
    exact ⟨b, o, e, hb, fun i hi => (World.cell?_of_block (w := w) (write4_block w v0 v1 v2 v3 (hne b o e hn))).trans (hc i hi)⟩⟩
end Go.Proofs.Ytkbbnfinmipenaa
