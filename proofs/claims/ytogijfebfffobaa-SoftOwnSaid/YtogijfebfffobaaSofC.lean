/-
  Contracts of package soft: sort.Search, where a key's state is, or would go (find). Condition: fewer than 2^40 states.
-/
import Derived.Test.YtogijfebfffobaaSofB
namespace Go.Proofs.Ytogijfebfffobaa
set_option maxRecDepth 100000
set_option linter.unusedVariables false
open Go.RowKit

theorem wrap64_in18 {x : Int} (h : 0 ≤ x ∧ x < 4611686018427387904) : wrap64 x = x := by unfold wrap64; omega
set_option maxHeartbeats 1600000 in
theorem search18_calls (F : Nat) (t k : Nat) (p : Nat → Bool) (n : Nat) (w : World) (hn : n ≤ 1099511627776)
    (he : ∀ (args : Array Value) (w : World), (callFunc F args).run Try.prog w = .ok (.enter F args) w)
    (hcon : ∀ i : Nat, i < n → ∀ W, Below w.heap.size w W → Calls Try.prog F #[.int .i64 (i : Int), .pointer (some ⟨t, 0, none⟩), .pointer (some ⟨k, 0, none⟩)] W fun e w' => e = .returned (.bool (p i)) ∧ Below W.heap.size W w')
    (hmono : ∀ a b, a ≤ b → b < n → p a = true → p b = true) :
    Calls Try.prog 51 #[.int .i64 (n : Int), .func (.func F) #[] #[.pointer (some ⟨t, 0, none⟩), .pointer (some ⟨k, 0, none⟩)]] w fun e w' => ∃ i : Nat, e = .returned (.int .i64 (i : Int)) ∧ i ≤ n ∧ (∀ j, j < i → p j = false) ∧ (∀ j, i ≤ j → j < n → p j = true) ∧ Below w.heap.size w w' := by
  have HC := Lib.hid hcon
  have HM := Lib.hid hmono
  clear hcon hmono
  go_enter Try.func51, Try.ntmps51
  go_wp2_with fail
  go_loopw [5, 6] (fun s u W => ∃ i j : Nat, s = .int .i64 (i : Int) ∧ u = .int .i64 (j : Int) ∧ i ≤ j ∧ j ≤ n ∧ Hid (∀ x, x < i → p x = false) ∧ Hid (∀ x, j ≤ x → x < n → p x = true) ∧ Hid (Below w.heap.size w W)) (fun s u W => (intOf u).toNat - (intOf s).toNat)
  case atStart => exact ⟨0, n, rfl, rfl, Nat.zero_le _, Nat.le_refl _, Lib.hid (fun x hx => by omega), Lib.hid (fun x h1 h2 => by omega), Lib.hid (Below.refl _ _)⟩
  case round =>
    obtain ⟨i, j, rfl, rfl, hij, hjn, HL, HU, HB⟩ := hrel
    by_cases hlt : i < j
    · have i1 : (i : Int) < (j : Int) := by omega
      obtain ⟨m, hm⟩ : ∃ m, m = (i + j) / 2 := ⟨_, rfl⟩
      have e1 : IntKind.i64.wrap ((i : Int) + (j : Int)) = ((i + j : Nat) : Int) := by rw [IntWalk.i64_in _ (by omega)]; omega
      have HI := Lib.hid (show i ≤ m ∧ m < j ∧ j ≤ n by omega)
      have e2 : ((i : Int) + (j : Int)) / 2 = (m : Int) := by omega
      have HE := Lib.hid e2
      clear hij hm e2
      go_upto_region 4 with fail
      rw [HE.out]
      have hc := HC.out m (by have := HI.out; omega) wr HB.out
      have HCC := Lib.hid hc
      clear hc HE e1 hjn
      go_wp2_with fail
      ((with_reducible refine HCC.out.mono ?_))
      rintro e w2 ⟨rfl, hb⟩
      have HB2 := Lib.hid (HB.out.trans (hb.mono HB.out.size))
      clear hb HCC HB
      cases hv : p m with
      | false =>
        have HL2 := Lib.hid (show ∀ x, x < m + 1 → p x = false from fun x hx => by
          cases hpx : p x with
          | false => rfl
          | true =>
            have := HM.out x m (by omega) (by have := HI.out; omega) hpx
            rw [hv] at this; cases this)
        have e3 : IntKind.i64.wrap ((m : Int) + 1) = ((m + 1 : Nat) : Int) := by rw [IntWalk.i64_in _ (by have := HI.out; omega)]; omega
        clear hv
        go_wp2_with fail
        go_roundw
        case rel => exact ⟨m + 1, j, by first | rfl | (simp; omega), rfl, by have := HI.out; omega, by have := HI.out; omega, HL2, HU, HB2⟩
        case measure => have := HI.out; simp [intOf]; omega
      | true =>
        have HU2 := Lib.hid (show ∀ x, m ≤ x → x < n → p x = true from fun x h1 h2 => HM.out m x h1 h2 hv)
        clear hv
        go_wp2_with fail
        go_roundw
        case rel => exact ⟨i, m, rfl, rfl, by have := HI.out; omega, by have := HI.out; omega, HL, HU2, HB2⟩
        case measure => have := HI.out; simp [intOf]; omega
    · have i1 : ¬ (i : Int) < (j : Int) := by omega
      obtain rfl : i = j := by omega
      have HJ := Lib.hid hjn
      clear hlt hij hjn
      go_wp2_with fail
      go_ret
      exact ⟨i, rfl, HJ.out, HL.out, HU.out, HB.out⟩
/-- A key that lies in a row of states. -/
theorem row_key18 {w : World} {B n i : Nat} {a : Option Addr} {ls : List Ss} (h : Row ssc w B a n ls) (hi : i < n) :
    ∃ b o x, a = some ⟨b, o, none⟩ ∧ ls[i]? = some x ∧ b < B ∧ ∀ W, Below B w W → W.rangeAt b (o + i * 17) (ssc x) := by
  obtain ⟨b, o, x, rfl, hx, hb, hc⟩ := row_cells ssc_length h hi
  exact ⟨b, o, x, rfl, hx, hb, fun W hW j v hv => hc W hW j v hv⟩
set_option maxHeartbeats 1600000 in
theorem findf18_calls (i n c q bt bk : Nat) (most : Int) (A : Option Addr) (ls : List Ss) (x : Ss) (k : Ky) (w : World) (ht : Blk w bt 24 [.pointer (some ⟨q, 0, none⟩)]) (hk : Blk w bk 30 (kyc k))
    (hq : Blk w q 68 [.int .i64 most, .slice A n c]) (h : Row ssc w w.heap.size A n ls) (hx : ls[i]? = some x) :
    Calls Try.prog 52 #[.int .i64 (i : Int), .pointer (some ⟨bt, 0, none⟩), .pointer (some ⟨bk, 0, none⟩)] w fun e w' => e = .returned (.bool (!kBef x.p.k k)) ∧ Below w.heap.size w w' := by
  have hin : i < n := by rw [← h.1]; exact (List.getElem?_eq_some_iff.1 hx).1
  obtain ⟨b, o, x', rfl, hx', hb, hc⟩ := row_key18 h hin
  obtain rfl : x' = x := by rw [hx] at hx'; injection hx' with e; exact e.symm
  have HC := Lib.hid hc
  have HT := Lib.hid (fun W (hW : Below w.heap.size w W) => And.intro (ht.below hW) (And.intro (hk.below hW) (hq.below hW)))
  have hbf := fun W => before14_calls x'.p.k k W
  unfold Yes14 at hbf
  have HBF := Lib.hid hbf
  have i0 : ¬ (i : Int) < 0 := by omega
  have i1 : (i : Int) < (n : Int) := by omega
  have HS0 := Lib.hid (show Below w.heap.size w w.drew from (Below.refl _ _).drew)
  clear ht hk hq h hx hx' hb hc hbf
  go_enter Try.func52, Try.ntmps52
  go_wp2_with fail
  refine region_seq (fun W => Below w.heap.size w W) [(0, true), (1, true), (2, true), (3, true), (4, true), (5, true), (6, true), (7, true), (8, true), (9, false), (10, true), (11, true)] (by kernel_rfl) (by kernel_rfl) (by kernel_rfl) (by kernel_rfl) (fun _ _ _ _ _ h => h) HS0.out ?_
  repeat first
    | refine seq_pure (v := ?_) rfl (by rfl) (fun W hW => ?_) ?_
      rotate_left
      · obtain ⟨h1, h2, h3⟩ := HT.out W hW
        have t0 : W.cell? ⟨bt, 0, none⟩ = some (.pointer (some ⟨q, 0, none⟩)) := h1.cell 0
        have q1 : W.cell? ⟨q, 1, none⟩ = some (.slice (some ⟨b, o, none⟩) n c) := h3.cell 1
        have k0 : W.cell? ⟨bk, 0, none⟩ = some (.int .i64 k.tail) := h2.cell 0
        have k1 : W.cell? ⟨bk, 1, none⟩ = some (.int .i64 k.tun) := h2.cell 1
        have k2 : W.cell? ⟨bk, 2, none⟩ = some (.int .i64 k.head) := h2.cell 2
        have k3 : W.cell? ⟨bk, 3, none⟩ = some (.int .i64 k.lsp) := h2.cell 3
        have z0 : W.cell? ⟨b, o + i * 17, none⟩ = some (.int .i64 x'.p.k.tail) := HC.out W hW 0 _ rfl
        have z1 : W.cell? ⟨b, o + i * 17 + 1, none⟩ = some (.int .i64 x'.p.k.tun) := HC.out W hW 1 _ rfl
        have z2 : W.cell? ⟨b, o + i * 17 + 2, none⟩ = some (.int .i64 x'.p.k.head) := HC.out W hW 2 _ rfl
        have z3 : W.cell? ⟨b, o + i * 17 + 3, none⟩ = some (.int .i64 x'.p.k.lsp) := HC.out W hW 3 _ rfl
        clear h1 h2 h3
        clear hW
        go_simp
        with_reducible rfl
      simp only [Act.put, List.setIfInBounds_toArray, List.set_cons_zero, List.set_cons_succ]
    | refine seq_skip rfl (by rfl) ?_
      simp only [Act.put, List.setIfInBounds_toArray, List.set_cons_zero, List.set_cons_succ]
  refine seq_make rfl (by rfl) (fun K hK => ?_)
  go_simp
  ((with_reducible refine (HBF.out _).mono ?_))
  rintro e w2 ⟨rfl, hb⟩
  have HB := Lib.hid (show Below w.heap.size w w2 from below_of_drew hb)
  clear hb
  go_simp
  refine hK _ _ _ (fun _ h => h) HB.out ?_
  clear hK K
  repeat first
    | refine seq_pure (v := ?_) rfl (by rfl) (fun W hW => ?_) ?_
      rotate_left
      · obtain ⟨h1, h2, h3⟩ := HT.out W hW
        have t0 : W.cell? ⟨bt, 0, none⟩ = some (.pointer (some ⟨q, 0, none⟩)) := h1.cell 0
        have q1 : W.cell? ⟨q, 1, none⟩ = some (.slice (some ⟨b, o, none⟩) n c) := h3.cell 1
        have k0 : W.cell? ⟨bk, 0, none⟩ = some (.int .i64 k.tail) := h2.cell 0
        have k1 : W.cell? ⟨bk, 1, none⟩ = some (.int .i64 k.tun) := h2.cell 1
        have k2 : W.cell? ⟨bk, 2, none⟩ = some (.int .i64 k.head) := h2.cell 2
        have k3 : W.cell? ⟨bk, 3, none⟩ = some (.int .i64 k.lsp) := h2.cell 3
        have z0 : W.cell? ⟨b, o + i * 17, none⟩ = some (.int .i64 x'.p.k.tail) := HC.out W hW 0 _ rfl
        have z1 : W.cell? ⟨b, o + i * 17 + 1, none⟩ = some (.int .i64 x'.p.k.tun) := HC.out W hW 1 _ rfl
        have z2 : W.cell? ⟨b, o + i * 17 + 2, none⟩ = some (.int .i64 x'.p.k.head) := HC.out W hW 2 _ rfl
        have z3 : W.cell? ⟨b, o + i * 17 + 3, none⟩ = some (.int .i64 x'.p.k.lsp) := HC.out W hW 3 _ rfl
        clear h1 h2 h3
        clear hW
        go_simp
        with_reducible rfl
      simp only [Act.put, List.setIfInBounds_toArray, List.set_cons_zero, List.set_cons_succ]
    | refine seq_skip rfl (by rfl) ?_
      simp only [Act.put, List.setIfInBounds_toArray, List.set_cons_zero, List.set_cons_succ]
  refine seq_done ?_
  go_wp2_with fail
  go_ret
  exact ⟨rfl, HB.out⟩
set_option maxHeartbeats 1600000 in
/-- Where a key's state is, or would go. -/
theorem find18_calls (n c q : Nat) (most : Int) (A : Option Addr) (ls : List Ss) (k : Ky) (w : World) (hq : Blk w q 68 [.int .i64 most, .slice A n c]) (h : Row ssc w w.heap.size A n ls) (hs : Srt18 (fun s : Ss => s.p.k) ls) (hn : n ≤ 1099511627776) :
    Calls Try.prog 34 #[.pointer (some ⟨q, 0, none⟩), .agg #[.int .i64 k.tail, .int .i64 k.tun, .int .i64 k.head, .int .i64 k.lsp]] w fun e w' => ∃ (i : Nat) (b : Bool), e = .returned (.tuple #[.int .i64 (i : Int), .bool b]) ∧ Fnd18 (fun s : Ss => s.p.k) ls k i b ∧ Below w.heap.size w w' := by
  have he : ∀ (args : Array Value) (w : World), (callFunc 52 args).run Try.prog w = .ok (.enter 52 args) w := enters_of Try.func52 (by kernel_rfl) rfl
  have bz := bel_new (bel_new (Below.refl w.heap.size w) (.cells #[.pointer (some ⟨q, 0, none⟩)] 24)) (.cells #[.int .i64 k.tail, .int .i64 k.tun, .int .i64 k.head, .int .i64 k.lsp] 30)
  have b1 : Blk ((w.alloc (.cells #[.pointer (some ⟨q, 0, none⟩)] 24)).alloc (.cells #[.int .i64 k.tail, .int .i64 k.tun, .int .i64 k.head, .int .i64 k.lsp] 30)) w.heap.size 24 [.pointer (some ⟨q, 0, none⟩)] := (Blk.new w 24 [.pointer (some ⟨q, 0, none⟩)]).alloc _
  have b2 : Blk ((w.alloc (.cells #[.pointer (some ⟨q, 0, none⟩)] 24)).alloc (.cells #[.int .i64 k.tail, .int .i64 k.tun, .int .i64 k.head, .int .i64 k.lsp] 30)) (w.alloc (.cells #[.pointer (some ⟨q, 0, none⟩)] 24)).heap.size 30 (kyc k) := Blk.new (w.alloc (.cells #[.pointer (some ⟨q, 0, none⟩)] 24)) 30 (kyc k)
  rw [show (w.alloc (.cells #[.pointer (some ⟨q, 0, none⟩)] 24)).heap.size = w.heap.size + 1 by simp] at b2
  have hq1 := hq.below bz
  have hr1 := (h.below bz).more bz.size
  have HL := Lib.hid bz
  have hLEN := h.1
  have hsr := search18_calls 52 w.heap.size (w.heap.size + 1) (fun i => match ls[i]? with | some x => !kBef x.p.k k | none => true) n _ hn he
    (fun i hi W hW => by
      have hil : i < ls.length := by omega
      have hgx := List.getElem?_eq_getElem hil
      have := findf18_calls i n c q w.heap.size (w.heap.size + 1) most A ls ls[i] k W (b1.below hW) (b2.below hW) (hq1.below hW) ((hr1.below hW).more hW.size) hgx
      rw [hgx]
      exact this)
    (fun x y hxy hy hpx => by
      have hxl : x < ls.length := by omega
      have hyl : y < ls.length := by omega
      rw [List.getElem?_eq_getElem hxl] at hpx
      rw [List.getElem?_eq_getElem hyl]
      rcases Nat.lt_or_eq_of_le hxy with h1 | h1
      · have h2 := List.pairwise_iff_getElem.1 hs x y hxl hyl h1
        simp only at h2 hpx ⊢
        cases hk : kBef ls[y].p.k k with
        | false => rfl
        | true => rw [kBef_trans h2 hk] at hpx; cases hpx
      · subst h1; exact hpx)
  have HSR := Lib.hid hsr
  have HT := Lib.hid (And.intro b1 (And.intro b2 hq1))
  have HR := Lib.hid hr1
  have HLEN := Lib.hid hLEN
  clear hsr b1 b2 hq1 hr1 hq h hs he bz hLEN
  go_enter Try.func34, Try.ntmps34
  go_upto_region 1 with fail
  generalize ((w.alloc (.cells #[.pointer (some ⟨q, 0, none⟩)] 24)).alloc (.cells #[.int .i64 k.tail, .int .i64 k.tun, .int .i64 k.head, .int .i64 k.lsp] 30)) = w1 at *
  have t0 : w1.cell? ⟨w.heap.size, 0, none⟩ = some (.pointer (some ⟨q, 0, none⟩)) := HT.out.1.cell 0
  have q1 : w1.cell? ⟨q, 1, none⟩ = some (.slice A n c) := HT.out.2.2.cell 1
  go_wp2_with fail
  ((with_reducible refine HSR.out.mono ?_))
  rintro e w2 ⟨i, rfl, hin, hlo, hhi, hb⟩
  have HT2 := Lib.hid (And.intro (HT.out.1.below hb) (And.intro (HT.out.2.1.below hb) (HT.out.2.2.below hb)))
  have HR2 := Lib.hid ((HR.out.below hb).more hb.size)
  have HL2 := Lib.hid (HL.out.trans (hb.mono HL.out.size))
  have hF : ∀ b, (b = true → ∃ h : i < ls.length, ls[i].p.k = k) → (b = false → ∀ h : i < ls.length, ls[i].p.k ≠ k) → Fnd18 (fun s : Ss => s.p.k) ls k i b := fun b h1 h2 =>
    ⟨by rw [HLEN.out]; exact hin, fun j hj hji => by
      have := hlo j hji
      rw [List.getElem?_eq_getElem hj] at this
      simpa using this, fun j hj hij => by
      have := hhi j hij (by rw [← HLEN.out]; exact hj)
      rw [List.getElem?_eq_getElem hj] at this
      simpa using this, h1, h2⟩
  have HF := Lib.hid hF
  clear hb hlo hhi hF t0 q1 HSR HT HR HL
  have HS0 := Lib.hid (show Below w2.heap.size w2 w2.drew from (Below.refl _ _).drew)
  have HTT := Lib.hid (fun W (hW : Below w2.heap.size w2 W) => And.intro (HT2.out.1.below hW) (And.intro (HT2.out.2.1.below hW) (HT2.out.2.2.below hW)))
  by_cases hlt : i < n
  · obtain ⟨b, o, x, rfl, hx, hbb, hc⟩ := row_key18 HR2.out hlt
    have HC := Lib.hid hc
    have i0 : ¬ (i : Int) < 0 := by omega
    have i1 : (i : Int) < (n : Int) := by omega
    obtain ⟨d, hd⟩ : ∃ d, decide (x.p.k = k) = d := ⟨_, rfl⟩
    have hek := fun W => (eq_ky x.p.k k W).1
    rw [hd] at hek
    have HEK := Lib.hid hek
    have hgx : ∃ h : i < ls.length, ls[i] = x := by
      obtain ⟨h1, h2⟩ := List.getElem?_eq_some_iff.1 hx
      exact ⟨h1, h2⟩
    have HFN := Lib.hid (HF.out d (fun e => by
      obtain ⟨h1, h2⟩ := hgx
      subst e
      exact ⟨h1, by rw [h2]; exact of_decide_eq_true hd⟩) (fun e h1 => by
      obtain ⟨_, h2⟩ := hgx
      subst e
      rw [h2]; exact of_decide_eq_false hd))
    clear hx hbb hc hd hek hgx HF hlt
    go_wp2_with fail
    refine region_seq (fun W => Below w2.heap.size w2 W) [(0, true), (1, true), (2, true), (3, true), (4, true), (5, true), (6, true), (7, true), (8, true), (9, true), (10, true), (11, true), (12, true), (13, true), (14, true), (15, true), (16, true), (17, true), (18, true), (19, true), (20, true), (21, true)] (by kernel_rfl) (by kernel_rfl) (by kernel_rfl) (by kernel_rfl) (fun _ _ _ _ _ h => h) HS0.out ?_
    repeat first
      | refine seq_eqA (xs := kyc x.p.k) (ys := kyc k) (c := d) rfl (by rfl) rfl rfl rfl (by kernel_rfl) HEK.out ?_
        simp only [Act.put, List.setIfInBounds_toArray, List.set_cons_zero, List.set_cons_succ]
      | refine seq_pure (v := ?_) rfl (by rfl) (fun W hW => ?_) ?_
        rotate_left
        · obtain ⟨h1, h2, h3⟩ := HTT.out W hW
          have t0 : W.cell? ⟨w.heap.size, 0, none⟩ = some (.pointer (some ⟨q, 0, none⟩)) := h1.cell 0
          have q1 : W.cell? ⟨q, 1, none⟩ = some (.slice (some ⟨b, o, none⟩) n c) := h3.cell 1
          have k0 : W.cell? ⟨w.heap.size + 1, 0, none⟩ = some (.int .i64 k.tail) := h2.cell 0
          have k1 : W.cell? ⟨w.heap.size + 1, 1, none⟩ = some (.int .i64 k.tun) := h2.cell 1
          have k2 : W.cell? ⟨w.heap.size + 1, 2, none⟩ = some (.int .i64 k.head) := h2.cell 2
          have k3 : W.cell? ⟨w.heap.size + 1, 3, none⟩ = some (.int .i64 k.lsp) := h2.cell 3
          have z0 : W.cell? ⟨b, o + i * 17, none⟩ = some (.int .i64 x.p.k.tail) := HC.out W hW 0 _ rfl
          have z1 : W.cell? ⟨b, o + i * 17 + 1, none⟩ = some (.int .i64 x.p.k.tun) := HC.out W hW 1 _ rfl
          have z2 : W.cell? ⟨b, o + i * 17 + 2, none⟩ = some (.int .i64 x.p.k.head) := HC.out W hW 2 _ rfl
          have z3 : W.cell? ⟨b, o + i * 17 + 3, none⟩ = some (.int .i64 x.p.k.lsp) := HC.out W hW 3 _ rfl
          clear h1 h2 h3
          clear hW
          go_simp
          with_reducible rfl
        simp only [Act.put, List.setIfInBounds_toArray, List.set_cons_zero, List.set_cons_succ]
      | refine seq_skip rfl (by rfl) ?_
        simp only [Act.put, List.setIfInBounds_toArray, List.set_cons_zero, List.set_cons_succ]
    refine seq_done ?_
    go_wp2_with fail
    refine bodyPost_ret (v := .tuple #[.int .i64 (i : Int), .bool d]) (by simp [results, Try.results34, go_sem]) rfl ?_
    exact ⟨i, d, rfl, HFN.out, HL2.out.drew⟩
  · have i1 : decide ((i : Int) < (n : Int)) = false := decide_eq_false (by omega)
    have i2 : decide (i < n) = false := decide_eq_false hlt
    have HFN := Lib.hid (HF.out false (fun e => by cases e) (fun _ h1 => absurd h1 (by rw [HLEN.out]; exact hlt)))
    clear HF hlt
    go_wp2_with fail
    refine region_seq (fun W => Below w2.heap.size w2 W) [(0, true), (1, true), (2, true), (3, true), (4, true), (5, true), (6, true), (7, true), (8, true), (9, true), (10, true), (11, true), (12, true), (13, true), (14, true), (15, true), (16, true), (17, true), (18, true), (19, true), (20, true), (21, true)] (by kernel_rfl) (by kernel_rfl) (by kernel_rfl) (by kernel_rfl) (fun _ _ _ _ _ h => h) HS0.out ?_
    repeat first
      | refine seq_pure (v := ?_) rfl (by rfl) (fun W hW => ?_) ?_
        rotate_left
        · obtain ⟨h1, h2, h3⟩ := HTT.out W hW
          have t0 : W.cell? ⟨w.heap.size, 0, none⟩ = some (.pointer (some ⟨q, 0, none⟩)) := h1.cell 0
          have q1 : W.cell? ⟨q, 1, none⟩ = some (.slice A n c) := h3.cell 1
          clear h1 h2 h3
          clear hW
          go_simp
          with_reducible rfl
        simp only [Act.put, List.setIfInBounds_toArray, List.set_cons_zero, List.set_cons_succ]
      | refine seq_skip rfl (by rfl) ?_
        simp only [Act.put, List.setIfInBounds_toArray, List.set_cons_zero, List.set_cons_succ]
    refine seq_done ?_
    go_wp2_with fail
    refine bodyPost_ret (v := .tuple #[.int .i64 (i : Int), .bool false]) (by simp [results, Try.results34, go_sem]) rfl ?_
    exact ⟨i, false, rfl, HFN.out, HL2.out.drew⟩
end Go.Proofs.Ytogijfebfffobaa
