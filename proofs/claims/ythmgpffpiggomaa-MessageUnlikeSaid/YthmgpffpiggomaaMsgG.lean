/-
  Contract of message.objects. Condition: the message's lists read as numbers.
-/
import Derived.Test.YthmgpffpiggomaaMsgE
import Derived.Test.YthmgpffpiggomaaMsgS
namespace Go.Proofs.Ythmgpffpiggomaa
open Go.RowKit

section
variable {α β : Type} {enc : α → List Value} {k : Nat} {enc2 : β → List Value} {k2 : Nat} {w w' : World} {base c base2 c2 r : Nat} {T T2 U : TypeId} {A A2 : Option Addr} {l : List α} {l2 : List β} {b : List UInt8}
theorem accr_off (h : AccR enc k w base T A c l) (ht : Typ w r U) (hU : U ≠ T) (hg : w.grownBy w' (some r)) : AccR enc k w' base T A c l :=
  h.kept hg (fun _ hx e => typ_ne (accr_typ h hx) ht (Ne.symm hU) (by injection e with e; exact e.symm))
theorem acc_off (h : Acc w base A c b) (ht : Typ w r U) (hU : U ≠ 5) (hg : w.grownBy w' (some r)) : Acc w' base A c b := by
  refine h.kept hg ?_
  cases hb : blk A with
  | none => exact .inl rfl
  | some x => exact .inr (fun e => typ_ne (h.typ hb) ht (Ne.symm hU) (by injection e))
theorem accr_off2 (h : AccR enc k w base T A c l) (h2 : AccR enc2 k2 w base2 T2 A2 c2 l2) (hU : T2 ≠ T) (hg : w.grownBy w' (blk A2)) : AccR enc k w' base T A c l :=
  h.kept hg (fun _ hx e => typ_ne (accr_typ h hx) (accr_typ h2 e) (Ne.symm hU) rfl)
theorem acc_off2 (h : Acc w base A c b) (h2 : AccR enc2 k2 w base2 T2 A2 c2 l2) (hU : T2 ≠ 5) (hg : w.grownBy w' (blk A2)) : Acc w' base A c b := by
  refine h.kept hg ?_
  cases hb : blk A with
  | none => exact .inl rfl
  | some x => exact .inr (fun e => typ_ne (h.typ hb) (accr_typ h2 e.symm) (Ne.symm hU) rfl)
theorem blk_off2 {q : Nat} {vs : List Value} (h : Blk w q T vs) (h2 : AccR enc2 k2 w base2 T2 A2 c2 l2) (hU : T2 ≠ T) (hg : w.grownBy w' (blk A2)) : Blk w' q T vs :=
  h.same (hg.block q h.lt (fun e => typ_ne h.typ (accr_typ h2 e.symm) (Ne.symm hU) rfl))
end

/-- What lies in memory while objects goes on: the message, what was read again, the parts, the objects so far. -/
structure EnvO (w : World) (M : Ms) (ps : List PtV) (pa : Option Addr) (pc j : Nat) (A : Option Addr) (c : Nat) (qs : List Ob) (W : World) : Prop where
  box : Blk W w.heap.size 37 M.cells
  rdn : ∃ a : Ms, Blk W (w.heap.size + 1) 37 a.cells ∧ a.val = agn ((ps.take j).map PtV.p) M.val ∧ FineM w w.heap.size a
  pts : AccR ep8 2 W w.heap.size 63 pa pc ps
  oks : ∀ q ∈ ps, PtOk W q
  acc : AccO W w.heap.size A c qs
  bods : ∀ q ∈ qs, Acc W w.heap.size q.a q.c q.l ∧ q.l.length = q.n
  bel : Below w.heap.size w W
section
variable {w W W' : World} {M : Ms} {ps : List PtV} {pa A : Option Addr} {pc j c : Nat} {qs : List Ob}
theorem EnvO.below (h : EnvO w M ps pa pc j A c qs W) (hb : Below W.heap.size W W') : EnvO w M ps pa pc j A c qs W' := by
  obtain ⟨a, h1, h2, h3⟩ := h.rdn
  exact ⟨h.box.below hb, ⟨a, h1.below hb, h2, h3⟩, h.pts.bel hb, fun q hq => (h.oks q hq).bel hb, AccR.bel h.acc hb, fun q hq => ⟨(h.bods q hq).1.bel hb, (h.bods q hq).2⟩, bel_more h.bel (Nat.le_refl _) hb⟩
theorem EnvO.push (h : EnvO w M ps pa pc j A c qs W) {A' : Option Addr} {c' : Nat} {q : Ob} (ha : AccO W' w.heap.size A' c' (qs ++ [q])) (hq : Acc W w.heap.size q.a q.c q.l) (hn : q.l.length = q.n) (hg : W.grownBy W' (blk A)) : EnvO w M ps pa pc j A' c' (qs ++ [q]) W' := by
  obtain ⟨a, h1, h2, h3⟩ := h.rdn
  refine ⟨blk_off2 h.box h.acc (by decide) hg, ⟨a, blk_off2 h1 h.acc (by decide) hg, h2, h3⟩, accr_off2 h.pts h.acc (by decide) hg, fun q hq => (h.oks q hq).kp (Kp.row h.acc (by decide) hg), ha, ?_, ?_⟩
  · intro p hp
    rcases List.mem_append.1 hp with hp | hp
    · exact ⟨acc_off2 (h.bods p hp).1 h.acc (by decide) hg, (h.bods p hp).2⟩
    · obtain rfl := List.mem_singleton.1 hp
      exact ⟨acc_off2 hq h.acc (by decide) hg, hn⟩
  · exact h.bel.grown hg h.bel.size (fun _ hk => (AccR.ge h.acc hk).1)
theorem EnvO.mem {a : Ms} (hb : Below w.heap.size w W) (h : FineM w w.heap.size a) : Mem W (w.heap.size + 1) a :=
  ⟨(h.below hb).more hb.size, off_below h.row (by omega), off_below h.row2 (by omega)⟩
theorem EnvO.turn (h : EnvO w M ps pa pc j A c qs W) {a a' : Ms} {x : It} {q : PtV} (hj : ps[j]? = some q) (hb : Blk W (w.heap.size + 1) 37 a.cells) (ha : a.val = agn ((ps.take j).map PtV.p) M.val) (hf : FineM w w.heap.size a) (hx : Fine w w.heap.size x) (hxv : x.val = q.p.wr M.val)
    (hv : a'.val = q.p.rd a.val x.val) (hb' : Blk W' (w.heap.size + 1) 37 a'.cells) (hm : Mem W' (w.heap.size + 1) a') (hg : W.grownBy W' (some (w.heap.size + 1)))
    (hQ : ∀ Q : Option Addr → Nat → List Int → Prop, Q a.ra a.rn a.r → Q a.oa a.on a.o → Q x.la x.ln x.l → Q a'.ra a'.rn a'.r ∧ Q a'.oa a'.on a'.o) : EnvO w M ps pa pc (j + 1) A c qs W' := by
  obtain ⟨q1, q2⟩ := hQ (fun a n l => Row ei w w.heap.size a n l ∧ n ≤ maxLen) ⟨hf.row, hf.len⟩ ⟨hf.row2, hf.len2⟩ ⟨hx.row, hx.len⟩
  refine ⟨h.box.same (hg.block _ h.box.lt (fun e => by injection e with e; omega)), ⟨a', hb', ?_, ⟨q1.1, q1.2, q2.1, q2.2, hm.1.bw, hm.1.any, hm.1.all, hm.1.non⟩⟩, accr_off h.pts hb.typ (by decide) hg, fun q hq => (h.oks q hq).kp (Kp.turn hb.typ (by decide) hg), accr_off h.acc hb.typ (by decide) hg, fun q hq => ⟨acc_off (h.bods q hq).1 hb.typ (by decide) hg, (h.bods q hq).2⟩, bel_upd h.bel hg (Nat.le_refl _) (by omega)⟩
  rw [take_next ps j q hj, List.map_append, List.map_cons, List.map_nil, agn_snoc, ← ha, ← hxv, hv]
theorem EnvO.objs (h : EnvO w M ps pa pc j A c qs W) : Objs W W.heap.size A qs.length qs := by
  refine ⟨AccR.row h.acc, fun q hq => ?_⟩
  obtain ⟨h1, h2⟩ := h.bods q hq
  have h3 := h1.bts
  rw [h2] at h3
  refine ⟨h3, ?_⟩
  rcases h1.2 with ⟨_, h0⟩ | ⟨g, cap, cur, hv, _, _, hnc, hm, _⟩
  · omega
  · omega
end

/-- What objects answers. -/
def ObjsPost (w : World) (m : PMs) (e : Ending) (w' : World) : Prop :=
  Below w.heap.size w w' ∧ ((mObjs m = none ∧ e = .returned (.tuple #[.slice none 0 0, .bool false])) ∨
    (∃ A c qs, mObjs m = some (vals qs) ∧ e = .returned (.tuple #[.slice A qs.length c, .bool true]) ∧ Objs w' w'.heap.size A qs.length qs))
theorem mObjs_tl {m : PMs} (h : m.tl < 0 ∨ 255 < m.tl) : mObjs m = none := by unfold mObjs; rw [if_pos h]
theorem mObjs_part {m : PMs} {p : Prt} (hp : p ∈ prts m.ty) (h : pack (p.wr m) = none) : mObjs m = none := by
  unfold mObjs
  split
  · rfl
  · rw [sums_none (List.mem_map.2 ⟨p, hp, h⟩)]

theorem row_part {w : World} {B n : Nat} {a : Option Addr} {l : List PtV} (h : Row ep8 w B a n l) {j : Nat} (hj : j < n) : ∃ b o q, a = some ⟨b, o, none⟩ ∧ l[j]? = some q ∧ w.cell? ⟨b, o + j * 2, none⟩ = some (.func (.func q.wf) #[] q.wc) ∧ w.cell? ⟨b, o + j * 2 + 1, none⟩ = some (.func (.func q.rf) #[] #[]) := by
  have hl := h.1
  obtain ⟨b, o, rfl, _, hc⟩ := h.cells ep8_length (by omega)
  have hj' : j < l.length := by omega
  exact ⟨b, o, l[j], rfl, by simp [hj'], hc j hj' 0 (by omega), hc j hj' 1 (by omega)⟩

set_option maxRecDepth 100000 in
set_option maxHeartbeats 1600000 in
theorem objects_no (M : Ms) (w : World) (ht : M.tl < 0 ∨ 255 < M.tl) : Calls Try.prog 15 #[.agg M.cells.toArray] w (ObjsPost w M.val) := by
  have HN := Lib.hid (mObjs_tl (m := M.val) ht)
  have HB := Lib.hid (bel_new (Below.refl _ w) (.cells M.cells.toArray 37))
  obtain ⟨ty, tl, kt, ku, kh, kl, fr, pe, se, ⟨bw, su, ho, an, al, no⟩, ra, rn, rc, r, oa, on, oc, o, lb, wh, co⟩ := M
  simp only [Ms.cells] at ht HB ⊢
  rcases ht with ht | ht
  · go_enter Try.func15, Try.ntmps15
    go_wp2
    go_ret2
    exact ⟨HB.out, .inl ⟨HN.out, rfl⟩⟩
  · have ht0 : ¬ tl < 0 := by omega
    go_enter Try.func15, Try.ntmps15
    go_wp2
    go_ret2
    exact ⟨HB.out, .inl ⟨HN.out, rfl⟩⟩

/-- Two new blocks. -/
theorem two8_new (w : World) (T0 T1 : TypeId) (v0 v1 : List Value) :
    Blk ((w.alloc (.cells v0.toArray T0)).alloc (.cells v1.toArray T1)) w.heap.size T0 v0 ∧ Blk ((w.alloc (.cells v0.toArray T0)).alloc (.cells v1.toArray T1)) (w.heap.size + 1) T1 v1 ∧
    Below w.heap.size w ((w.alloc (.cells v0.toArray T0)).alloc (.cells v1.toArray T1)) := by
  have h1 := Blk.new (w.alloc (.cells v0.toArray T0)) T1 v1
  simp only [World.size_alloc] at h1
  exact ⟨(Blk.new w T0 v0).alloc _, h1, bel_new (bel_new (Below.refl _ _) _) _⟩

end Go.Proofs.Ythmgpffpiggomaa
