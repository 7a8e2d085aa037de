/-
  Contracts of package body's always, upTo, small, node and groups. Conditions: as of number.
-/
import Derived.Test.YtocogdcecnnnnaaBodyB
namespace Go.Proofs.Ytocogdcecnnnnaa
open Go.RowKit

theorem meth_wn (n : Nat) (a : Addr) (w : World) : (method (n + 1) 53 (.pointer (some a)) "viaduct/body.number").run Try.prog w = .ok (67, .pointer (some a)) w := by kernel_rfl
theorem meth_rn (n : Nat) (a : Addr) (w : World) : (method (n + 1) 63 (.pointer (some a)) "viaduct/body.number").run Try.prog w = .ok (71, .pointer (some a)) w := by kernel_rfl
theorem meth_wc (n : Nat) (a : Addr) (w : World) : (method (n + 1) 53 (.pointer (some a)) "viaduct/body.count").run Try.prog w = .ok (66, .pointer (some a)) w := by kernel_rfl
theorem meth_rc (n : Nat) (a : Addr) (w : World) : (method (n + 1) 63 (.pointer (some a)) "viaduct/body.count").run Try.prog w = .ok (70, .pointer (some a)) w := by kernel_rfl

section
variable {w : World} {B p : Nat} {S : List Nat} {T : TypeId} {σ : DSt}

/-- A direction as a value: an interface value that holds a pointer. -/
def dv (T : TypeId) (p : Nat) : Value := .iface T (.pointer (some ⟨p, 0, none⟩))

/-- A number that can't be another one. -/
def DSt.alw (k u : Nat) (σ : DSt) : DSt := (σ.num k u u u).2
/-- What a call hands on when it answers nothing. -/
def AlwPost (w : World) (B : Nat) (S : List Nat) (T : TypeId) (p : Nat) (σ : DSt) (k u : Nat) (e : Ending) (w' : World) : Prop :=
  e = .returned (.tuple #[]) ∧ Dir w' B S T p (σ.alw k u) ∧ Turn S w w'

set_option maxRecDepth 100000 in
theorem always_calls (h : Dir w B S T p σ) (k u : Nat) (x0 x1 : Int) (e0 : x0 = (k : Int)) (e1 : x1 = (u : Int)) (h1 : 1 ≤ k) (h8 : k ≤ 8) (hl : σ.len ≤ 1099511627776) (hB : B ≤ w.heap.size) :
    Calls Try.prog 30 #[dv T p, .int .i64 x0, .int .u64 x1] w (AlwPost w B S T p σ k u) := by
  cases σ with
  | wr b bad =>
    have hc := wnum_calls h k u u u x0 x1 x1 x1 e0 e1 e1 e1 h1 h8 hl hB
    obtain ⟨rfl, _⟩ := h
    unfold dv
    have hm := meth_wn
    clear hl e0 e1
    go_enter Try.func30, Try.ntmps30
    go_wp2_with fail
    ((with_reducible refine hc.mono ?_))
    rintro e w1 ⟨rfl, h2, h3⟩
    clear hm hc
    go_wp2
    go_end0
    exact ⟨rfl, h2, h3⟩
  | rd l i err bad =>
    have hc := rnum_calls h k u u u x0 x1 x1 x1 e0 e1 e1
    obtain ⟨rfl, _⟩ := h
    unfold dv
    have hm := meth_rn
    clear hl e0 e1
    go_enter Try.func30, Try.ntmps30
    go_wp2_with fail
    ((with_reducible refine hc.mono ?_))
    rintro e w1 ⟨rfl, h2, h3⟩
    clear hm hc
    go_wp2
    go_end0
    exact ⟨rfl, h2, h3⟩

/-- A number as one without sign. -/
def u64 (n : Int) : Nat := (n % 18446744073709551616).toNat
theorem u64_wrap (n : Int) : IntKind.u64.wrap n = (u64 n : Int) := by rw [IntKind.wrap_u64]; unfold u64; omega
theorem DSt.num_le (σ : DSt) (k lo hi u : Nat) : (σ.num k lo hi u).1 ≤ hi := by
  cases σ with
  | wr b bad => simp only [DSt.num]; split <;> simp_all
  | rd l i err bad => simp only [DSt.num]; split <;> simp_all
/-- A number from 0 to 'hi'. -/
def DSt.upto (k hi : Nat) (n : Int) (σ : DSt) : Nat × DSt := σ.num k 0 hi (u64 n)
def DSt.small (n : Int) (σ : DSt) : Nat × DSt := σ.upto 2 65535 n
def DSt.node (n : Int) (σ : DSt) : Nat × DSt := (σ.alw 3 655360).upto 1 15 n
def DSt.grp (g : Nat) (σ : DSt) : Nat × DSt := σ.num 4 0 4294967295 g
/-- What a call hands on when it answers a number. -/
def IntPost (w : World) (B : Nat) (S : List Nat) (T : TypeId) (p : Nat) (r : Nat × DSt) (e : Ending) (w' : World) : Prop :=
  e = .returned (.int .i64 ((r.1 : Nat) : Int)) ∧ Dir w' B S T p r.2 ∧ Turn S w w'

set_option maxRecDepth 100000 in
theorem upTo_calls (h : Dir w B S T p σ) (k hi : Nat) (n x0 x1 : Int) (e0 : x0 = (k : Int)) (e1 : x1 = (hi : Int)) (h1 : 1 ≤ k) (h8 : k ≤ 8) (hh : hi < 9223372036854775808) (hl : σ.len ≤ 1099511627776) (hB : B ≤ w.heap.size) :
    Calls Try.prog 32 #[dv T p, .int .i64 x0, .int .i64 x1, .int .i64 n] w (IntPost w B S T p (σ.upto k hi n)) := by
  have hle := Lib.hid (σ.num_le k 0 hi (u64 n))
  have q1 := u64_wrap n
  have q2 : IntKind.u64.wrap x1 = (hi : Int) := by rw [e1, u64_wrap]; unfold u64; omega
  cases σ with
  | wr b bad =>
    have hc := wnum_calls h k 0 hi (u64 n) x0 0 hi (u64 n) e0 rfl rfl rfl h1 h8 hl hB
    obtain ⟨rfl, _⟩ := h
    unfold dv
    have hm := meth_wn
    clear hl e0 e1
    go_enter Try.func32, Try.ntmps32
    go_wp2_with fail
    ((with_reducible refine hc.mono ?_))
    rintro e w1 ⟨rfl, h2, h3⟩
    clear hm hc
    have h9 := hle.out
    generalize hr : DSt.num k 0 hi (u64 n) _ = r at h2 h9 ⊢
    have HR := Lib.hid hr
    clear hr hle
    have q3 : IntKind.i64.wrap (r.1 : Int) = (r.1 : Int) := by rw [IntKind.wrap_i64]; omega
    go_wp2
    go_ret
    unfold DSt.upto
    rw [HR.out]
    exact ⟨rfl, h2, h3⟩
  | rd l i err bad =>
    have hc := rnum_calls h k 0 hi (u64 n) x0 0 hi (u64 n) e0 rfl rfl
    obtain ⟨rfl, _⟩ := h
    unfold dv
    have hm := meth_rn
    clear hl e0 e1
    go_enter Try.func32, Try.ntmps32
    go_wp2_with fail
    ((with_reducible refine hc.mono ?_))
    rintro e w1 ⟨rfl, h2, h3⟩
    clear hm hc
    have h9 := hle.out
    generalize hr : DSt.num k 0 hi (u64 n) _ = r at h2 h9 ⊢
    have HR := Lib.hid hr
    clear hr hle
    have q3 : IntKind.i64.wrap (r.1 : Int) = (r.1 : Int) := by rw [IntKind.wrap_i64]; omega
    go_wp2
    go_ret
    unfold DSt.upto
    rw [HR.out]
    exact ⟨rfl, h2, h3⟩

theorem small_calls (h : Dir w B S T p σ) (n : Int) (hl : σ.len ≤ 1099511627776) (hB : B ≤ w.heap.size) :
    Calls Try.prog 31 #[dv T p, .int .i64 n] w (IntPost w B S T p (σ.small n)) := by
  have hc := upTo_calls h 2 65535 n 2 65535 rfl rfl (by omega) (by omega) (by omega) hl hB
  clear h
  unfold dv at *
  go_enter Try.func31, Try.ntmps31
  go_wp2_with fail
  ((with_reducible refine hc.mono ?_))
  rintro e w1 ⟨rfl, h2, h3⟩
  clear hc
  go_wp2
  go_ret
  exact ⟨rfl, h2, h3⟩

theorem DSt.len_alw (σ : DSt) (k u : Nat) (hk : k ≤ 8) : (σ.alw k u).len ≤ σ.len + 8 := σ.len_num k u u u hk
theorem node_calls (h : Dir w B S T p σ) (n : Int) (hl : σ.len ≤ 1099511627768) (hB : B ≤ w.heap.size) :
    Calls Try.prog 29 #[dv T p, .int .i64 n] w (IntPost w B S T p (σ.node n)) := by
  have hc := always_calls h 3 655360 3 655360 rfl rfl (by omega) (by omega) (by omega) hB
  have hlen := Lib.hid (σ.len_alw 3 655360 (by omega))
  clear h
  unfold dv at hc ⊢
  go_enter Try.func29, Try.ntmps29
  go_wp2_with fail
  ((with_reducible refine hc.mono ?_))
  rintro e w1 ⟨rfl, h2, h3⟩
  clear hc
  have hc2 := upTo_calls h2 1 15 n 1 15 rfl rfl (by omega) (by omega) (by omega) (by have := hlen.out; omega) (Nat.le_trans hB h3.size)
  have H3 := Lib.hid h3
  clear h2 h3
  unfold dv at hc2
  go_wp2_with fail
  ((with_reducible refine hc2.mono ?_))
  rintro e w2 ⟨rfl, h4, h5⟩
  clear hc2
  go_wp2
  go_ret
  exact ⟨rfl, h4, H3.out.trans h5⟩

/-- What a call hands on when it answers groups. -/
def GrpPost (w : World) (B : Nat) (S : List Nat) (T : TypeId) (p : Nat) (r : Nat × DSt) (e : Ending) (w' : World) : Prop :=
  e = .returned (.int .u32 ((r.1 : Nat) : Int)) ∧ Dir w' B S T p r.2 ∧ Turn S w w'
set_option maxRecDepth 100000 in
theorem groups_calls (h : Dir w B S T p σ) (g : Nat) (hg : g < 4294967296) (hl : σ.len ≤ 1099511627776) (hB : B ≤ w.heap.size) :
    Calls Try.prog 48 #[dv T p, .int .u32 (g : Int)] w (GrpPost w B S T p (σ.grp g)) := by
  have hle := Lib.hid (σ.num_le 4 0 4294967295 g)
  have q1 : IntKind.u64.wrap (g : Int) = (g : Int) := by rw [u64_wrap]; unfold u64; omega
  cases σ with
  | wr b bad =>
    have hc := wnum_calls h 4 0 4294967295 g 4 0 4294967295 g rfl rfl rfl rfl (by omega) (by omega) hl hB
    obtain ⟨rfl, _⟩ := h
    unfold dv
    have hm := meth_wn
    clear hl
    go_enter Try.func48, Try.ntmps48
    go_wp2_with fail
    ((with_reducible refine hc.mono ?_))
    rintro e w1 ⟨rfl, h2, h3⟩
    clear hm hc
    have h9 := hle.out
    generalize hr : DSt.num 4 0 4294967295 g _ = r at h2 h9 ⊢
    have HR := Lib.hid hr
    clear hr hle
    have q3 : IntKind.u32.wrap (r.1 : Int) = (r.1 : Int) := by rw [IntKind.wrap_u32]; omega
    go_wp2
    go_ret
    unfold DSt.grp
    rw [HR.out]
    exact ⟨rfl, h2, h3⟩
  | rd l i err bad =>
    have hc := rnum_calls h 4 0 4294967295 g 4 0 4294967295 g rfl rfl rfl
    obtain ⟨rfl, _⟩ := h
    unfold dv
    have hm := meth_rn
    clear hl
    go_enter Try.func48, Try.ntmps48
    go_wp2_with fail
    ((with_reducible refine hc.mono ?_))
    rintro e w1 ⟨rfl, h2, h3⟩
    clear hm hc
    have h9 := hle.out
    generalize hr : DSt.num 4 0 4294967295 g _ = r at h2 h9 ⊢
    have HR := Lib.hid hr
    clear hr hle
    have q3 : IntKind.u32.wrap (r.1 : Int) = (r.1 : Int) := by rw [IntKind.wrap_u32]; omega
    go_wp2
    go_ret
    unfold DSt.grp
    rw [HR.out]
    exact ⟨rfl, h2, h3⟩
end
end Go.Proofs.Ytocogdcecnnnnaa
