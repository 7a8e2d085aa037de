/-
  What lies in memory while message.read goes on. No condition.
-/
import Derived.Test.YthmgpffpiggomaaMsgG
import Derived.Test.YthmgpffpiggomaaMsgP
import Derived.Test.YthmgpffpiggomaaBodyO
namespace Go.Proofs.Ythmgpffpiggomaa
open Go.RowKit

/-- A message whose lists lie in memory from 'B' on, each in a block of its own. -/
structure LstM (W : World) (B : Nat) (a : Ms) : Prop where
  r : ∃ c, AccI W B a.ra c a.r ∧ a.rn = a.r.length
  o : ∃ c, AccI W B a.oa c a.o ∧ a.on = a.o.length
  bw : a.w.bw < 18446744073709551616
  any : a.w.any < 4294967296
  all : a.w.all < 4294967296
  non : a.w.non < 4294967296
theorem LstM.bare (W : World) (B : Nat) (ty tl : Int) : LstM W B (.bare ty tl) := ⟨⟨0, AccR.nil _ _ _, rfl⟩, ⟨0, AccR.nil _ _ _, rfl⟩, by simp [Ms.bare, Wnt.zero], by simp [Ms.bare, Wnt.zero], by simp [Ms.bare, Wnt.zero], by simp [Ms.bare, Wnt.zero]⟩
section
variable {W W' : World} {B q : Nat} {a : Ms}
theorem LstM.bel (h : LstM W B a) (hb : Below W.heap.size W W') : LstM W' B a := by
  obtain ⟨⟨c, h1, h2⟩, ⟨c2, h3, h4⟩, h5, h6, h7, h8⟩ := h
  exact ⟨⟨c, AccR.bel h1 hb, h2⟩, ⟨c2, AccR.bel h3 hb, h4⟩, h5, h6, h7, h8⟩
theorem LstM.off {U : TypeId} (h : LstM W B a) (ht : Typ W q U) (hU : U ≠ 3) (hg : W.grownBy W' (some q)) : LstM W' B a := by
  obtain ⟨⟨c, h1, h2⟩, ⟨c2, h3, h4⟩, h5, h6, h7, h8⟩ := h
  exact ⟨⟨c, accr_off h1 ht hU hg, h2⟩, ⟨c2, accr_off h3 ht hU hg, h4⟩, h5, h6, h7, h8⟩
theorem LstM.lower (h : LstM W B a) {B' : Nat} (hB : B' ≤ B) : LstM W B' a := by
  obtain ⟨⟨c, h1, h2⟩, ⟨c2, h3, h4⟩, h5, h6, h7, h8⟩ := h
  exact ⟨⟨c, AccR.lower h1 hB, h2⟩, ⟨c2, AccR.lower h3 hB, h4⟩, h5, h6, h7, h8⟩
theorem LstM.fine (h : LstM W B a) : FineM W W.heap.size a := by
  obtain ⟨⟨c, h1, h2⟩, ⟨c2, h3, h4⟩, h5, h6, h7, h8⟩ := h
  have k1 := AccR.cap h1
  have k2 := AccR.cap h3
  exact ⟨by rw [h2]; exact AccR.row h1, by omega, by rw [h4]; exact AccR.row h3, by omega, h5, h6, h7, h8⟩
theorem LstM.mem {vs : List Value} (h : LstM W B a) (hq : Blk W q 37 vs) : Mem W q a := by
  refine ⟨h.fine, ?_, ?_⟩
  · obtain ⟨c, h1, h2⟩ := h.r
    rw [h2]; exact off_acc h1 hq (by decide)
  · obtain ⟨c, h1, h2⟩ := h.o
    rw [h2]; exact off_acc h1 hq (by decide)
end

/-- What lies in memory while read goes on: what is answered so far, the message, the parts. -/
structure EnvR (w : World) (ty tl : Int) (ps : List PtV) (pa : Option Addr) (pc q j : Nat) (xs : List PIt) (W : World) : Prop where
  res : Blk W w.heap.size 37 (Ms.bare 0 0).cells
  msg : ∃ a : Ms, Blk W q 37 a.cells ∧ a.val = red8 ty tl ((ps.take j).map PtV.p) xs ∧ LstM W w.heap.size a
  pts : AccR ep8 2 W w.heap.size 63 pa pc ps
  oks : ∀ q ∈ ps, PtOk W q
  bel : Below w.heap.size w W
  lt : w.heap.size < q
section
variable {w W W' : World} {ty tl : Int} {ps : List PtV} {pa : Option Addr} {pc q j : Nat} {xs : List PIt}
theorem EnvR.below (h : EnvR w ty tl ps pa pc q j xs W) (hb : Below W.heap.size W W') : EnvR w ty tl ps pa pc q j xs W' := by
  obtain ⟨a, h1, h2, h3⟩ := h.msg
  exact ⟨h.res.below hb, ⟨a, h1.below hb, h2, h3.bel hb⟩, h.pts.bel hb, fun q hq => (h.oks q hq).bel hb, bel_more h.bel (Nat.le_refl _) hb, h.lt⟩
theorem EnvR.turn (h : EnvR w ty tl ps pa pc q j xs W) {a a' : Ms} {x : It} {p : PtV} (hj : ps[j]? = some p) (hl : xs.length = j) (hjl : j ≤ ps.length) (hb : Blk W q 37 a.cells) (ha : a.val = red8 ty tl ((ps.take j).map PtV.p) xs) (hf : LstM W w.heap.size a)
    {c : Nat} (hx : AccI W w.heap.size x.la c x.l) (hxn : x.ln = x.l.length) (hv : a'.val = p.p.rd a.val x.val) (hb' : Blk W' q 37 a'.cells) (hm : Mem W' q a') (hg : W.grownBy W' (some q))
    (hQ : ∀ Q : Option Addr → Nat → List Int → Prop, Q a.ra a.rn a.r → Q a.oa a.on a.o → Q x.la x.ln x.l → Q a'.ra a'.rn a'.r ∧ Q a'.oa a'.on a'.o) : EnvR w ty tl ps pa pc q (j + 1) (xs ++ [x.val]) W' := by
  have hf' := hf.off hb.typ (by decide) hg
  obtain ⟨q1, q2⟩ := hQ (fun a n l => ∃ c, AccI W' w.heap.size a c l ∧ n = l.length) hf'.r hf'.o ⟨c, accr_off hx hb.typ (by decide) hg, hxn⟩
  refine ⟨h.res.same (hg.block _ h.res.lt (fun e => by injection e with e; have := h.lt; omega)), ⟨a', hb', ?_, ⟨q1, q2, hm.1.bw, hm.1.any, hm.1.all, hm.1.non⟩⟩, accr_off h.pts hb.typ (by decide) hg, fun q hq => (h.oks q hq).kp (Kp.turn hb.typ (by decide) hg), bel_upd h.bel hg (Nat.le_refl _) (Nat.le_of_lt h.lt), h.lt⟩
  rw [take_next ps j p hj, List.map_append, List.map_cons, List.map_nil, red8_snoc _ _ _ _ _ _ (by simp; omega), ← ha, hv]
end

/-- What read answers. -/
def ReadPost (w : World) (r : Option PMs) (e : Ending) (w' : World) : Prop :=
  Below w.heap.size w w' ∧ ((r = none ∧ e = .returned (.tuple #[.agg (Ms.bare 0 0).cells.toArray, .int .i64 5])) ∨
    (∃ m : Ms, r = some m.val ∧ e = .returned (.tuple #[.agg m.cells.toArray, .int .i64 0]) ∧ LstM w' w.heap.size m))
theorem mRead_len {ty tl : Int} {os : List (Int × Int × List UInt8)} (h : os.length ≠ (prts ty).length) : mRead ty tl os = none := by unfold mRead; rw [if_neg h]
theorem mRead_bad {ty tl : Int} {os : List (Int × Int × List UInt8)} {o : Int × Int × List UInt8} (ho : o ∈ os) (h : unpack o = none) : mRead ty tl os = none := by
  unfold mRead
  split
  · rw [sums_none (List.mem_map.2 ⟨o, ho, h⟩)]
  · rfl
theorem mRead_good {ty tl : Int} {os : List (Int × Int × List UInt8)} {xs : List PIt} (hl : os.length = (prts ty).length) (h : os.map unpack = xs.map some) : mRead ty tl os = some (red8 ty tl (prts ty) xs) := by
  unfold mRead
  rw [if_pos hl, (sums_some _ _).2 h]
end Go.Proofs.Ythmgpffpiggomaa
