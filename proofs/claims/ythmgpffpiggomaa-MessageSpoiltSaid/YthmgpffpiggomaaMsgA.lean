/-
  Messages as plain data: their parts, what is written and what is read, what is encoded and decoded, and that each gives the other back. No condition beside what is said.
-/
import Derived.Test.YthmgpffpiggomaaBodyGI
import Derived.Test.YthmgpffpiggomaaObjMD
import Derived.Test.YthmgpffpiggomaaSumMC
namespace Go.Proofs.Ythmgpffpiggomaa
open Go.RowKit

/-- A message: its type, its time, its key, who sent it, its numbers, what is wanted, its lists, its label, where what went wrong. -/
structure PMs where
  ty : Int
  tl : Int
  kt : Int
  ku : Int
  kh : Int
  kl : Int
  fr : Int
  pe : Int
  se : Int
  w : Wnt
  r : List Int
  o : List Int
  lb : Int
  wh : Int
  co : Int
/-- A message of which nothing but type and time is known. -/
def PMs.bare (ty tl : Int) : PMs := ⟨ty, tl, 0, 0, 0, 0, 0, 0, 0, Wnt.zero, [], [], 0, 0, 0⟩
def PMs.same (x y : PMs) : Bool :=
  x.ty == y.ty && (x.tl == y.tl && ((x.kt == y.kt && (x.ku == y.ku && (x.kh == y.kh && x.kl == y.kl))) && (x.fr == y.fr && (x.pe == y.pe && (x.se == y.se && (x.w.same y.w && (x.r == y.r && (x.o == y.o && (x.lb == y.lb && (x.wh == y.wh && x.co == y.co))))))))))
theorem PMs.same_iff (x y : PMs) : x.same y = true ↔ x = y := by cases x; cases y; simp [PMs.same, Wnt.same_iff, and_assoc]

/-- A part of a message. -/
inductive Prt where
  | ses | lsp (c : Int) | hop | tim | ser | rou | rcd | alw (c a : Int) | att | bwd (c : Int) | lab | fau
/-- The item that a part writes. -/
def Prt.wr : Prt → PMs → PIt
  | .ses, m => ⟨1, m.kt, m.ku, m.kh, 0, [], Wnt.zero⟩
  | .lsp c, m => ⟨c, m.kh, m.kl, 0, 0, [], Wnt.zero⟩
  | .hop, m => ⟨3, m.fr, 0, 0, 0, [], Wnt.zero⟩
  | .tim, m => ⟨5, 0, 0, 0, u64 m.pe, [], Wnt.zero⟩
  | .ser, m => ⟨23, 0, 0, 0, u64 m.se, [], Wnt.zero⟩
  | .rou, m => ⟨20, 0, 0, 0, 0, m.r, Wnt.zero⟩
  | .rcd, m => ⟨21, 0, 0, 0, 0, m.o, Wnt.zero⟩
  | .alw c a, _ => ⟨c, a, 0, 0, 0, [], Wnt.zero⟩
  | .att, m => ⟨207, 0, 0, 0, 0, [], ⟨0, m.w.setup, m.w.hold, m.w.any, m.w.all, m.w.non⟩⟩
  | .bwd c, m => ⟨c, 0, 0, 0, m.w.bw, [], Wnt.zero⟩
  | .lab, m => ⟨16, m.lb, 0, 0, 0, [], Wnt.zero⟩
  | .fau, m => ⟨6, m.wh, m.co, 0, 0, [], Wnt.zero⟩
/-- The message once a part has read an item. -/
def Prt.rd : Prt → PMs → PIt → PMs
  | .ses, m, x => ⟨m.ty, m.tl, x.a, x.b, x.c, m.kl, m.fr, m.pe, m.se, m.w, m.r, m.o, m.lb, m.wh, m.co⟩
  | .lsp _, m, x => ⟨m.ty, m.tl, m.kt, m.ku, x.a, x.b, m.fr, m.pe, m.se, m.w, m.r, m.o, m.lb, m.wh, m.co⟩
  | .hop, m, x => ⟨m.ty, m.tl, m.kt, m.ku, m.kh, m.kl, x.a, m.pe, m.se, m.w, m.r, m.o, m.lb, m.wh, m.co⟩
  | .tim, m, x => ⟨m.ty, m.tl, m.kt, m.ku, m.kh, m.kl, m.fr, wrap64 (x.u : Int), m.se, m.w, m.r, m.o, m.lb, m.wh, m.co⟩
  | .ser, m, x => ⟨m.ty, m.tl, m.kt, m.ku, m.kh, m.kl, m.fr, m.pe, wrap64 (x.u : Int), m.w, m.r, m.o, m.lb, m.wh, m.co⟩
  | .rou, m, x => ⟨m.ty, m.tl, m.kt, m.ku, m.kh, m.kl, m.fr, m.pe, m.se, m.w, x.l, m.o, m.lb, m.wh, m.co⟩
  | .rcd, m, x => ⟨m.ty, m.tl, m.kt, m.ku, m.kh, m.kl, m.fr, m.pe, m.se, m.w, m.r, x.l, m.lb, m.wh, m.co⟩
  | .alw _ _, m, _ => m
  | .att, m, x => ⟨m.ty, m.tl, m.kt, m.ku, m.kh, m.kl, m.fr, m.pe, m.se, ⟨m.w.bw, x.w.setup, x.w.hold, x.w.any, x.w.all, x.w.non⟩, m.r, m.o, m.lb, m.wh, m.co⟩
  | .bwd _, m, x => ⟨m.ty, m.tl, m.kt, m.ku, m.kh, m.kl, m.fr, m.pe, m.se, ⟨x.u, m.w.setup, m.w.hold, m.w.any, m.w.all, m.w.non⟩, m.r, m.o, m.lb, m.wh, m.co⟩
  | .lab, m, x => ⟨m.ty, m.tl, m.kt, m.ku, m.kh, m.kl, m.fr, m.pe, m.se, m.w, m.r, m.o, x.a, m.wh, m.co⟩
  | .fau, m, x => ⟨m.ty, m.tl, m.kt, m.ku, m.kh, m.kl, m.fr, m.pe, m.se, m.w, m.r, m.o, m.lb, x.a, x.b⟩
/-- The parts of a message of this type, in their order. -/
def prts (ty : Int) : List Prt :=
  if ty = 1 then [.ses, .hop, .tim, .rou, .alw 19 2048, .att, .lsp 11, .bwd 12, .rcd]
  else if ty = 2 then [.ses, .hop, .tim, .ser, .alw 8 0, .bwd 9, .lsp 10, .lab]
  else if ty = 3 then [.ses, .fau, .lsp 11]
  else if ty = 4 then [.ses, .hop, .fau, .alw 8 0, .lsp 10]
  else if ty = 5 then [.ses, .hop, .lsp 11]
  else if ty = 6 then [.ses, .hop, .alw 8 0, .lsp 10]
  else if ty = 7 then [.ses, .fau, .alw 8 0, .lsp 10]
  else []
theorem prts_le (ty : Int) : (prts ty).length ≤ 9 := by
  unfold prts
  repeat' split
  all_goals simp
theorem prts_ty {ty : Int} (h : prts ty ≠ []) : 1 ≤ ty ∧ ty ≤ 7 := by
  unfold prts at h
  repeat' split at h
  all_goals first | omega | exact absurd rfl h

/-- All of them, if none lacks. -/
def sums {α : Type} : List (Option α) → Option (List α)
  | [] => some []
  | none :: _ => none
  | some x :: l => match sums l with
    | none => none
    | some r => some (x :: r)
theorem sums_some {α : Type} : ∀ (l : List (Option α)) (r : List α), sums l = some r ↔ l = r.map some
  | [], r => by cases r <;> simp [sums]
  | none :: l, r => by cases r <;> simp [sums]
  | some x :: l, r => by
    have ih := sums_some l
    unfold sums
    cases h : sums l with
    | none =>
      simp only
      constructor
      · intro e; cases e
      · intro e
        cases r with
        | nil => cases e
        | cons y r =>
          injection e with _ e
          rw [(ih r).2 e] at h; cases h
    | some q =>
      simp only
      have hq := (ih q).1 h
      constructor
      · intro e; injection e with e; subst e; rw [hq]; rfl
      · intro e
        cases r with
        | nil => cases e
        | cons y r =>
          injection e with e1 e2
          injection e1 with e1
          have := (ih r).2 e2
          rw [h] at this
          injection this with this
          rw [e1, this]
theorem sums_none {α : Type} {l : List (Option α)} (h : none ∈ l) : sums l = none := by
  cases hs : sums l with
  | none => rfl
  | some r =>
    have := (sums_some l r).1 hs
    rw [this] at h
    simp at h

/-- What is read again from what was written. -/
def agn (ps : List Prt) (m : PMs) : PMs := ps.foldl (fun a p => p.rd a (p.wr m)) (.bare m.ty m.tl)
theorem agn_snoc (ps : List Prt) (p : Prt) (m : PMs) : agn (ps ++ [p]) m = p.rd (agn ps m) (p.wr m) := by simp [agn]
def red8 (ty tl : Int) (ps : List Prt) (xs : List PIt) : PMs := (ps.zip xs).foldl (fun a q => q.1.rd a q.2) (.bare ty tl)
theorem red8_snoc (ty tl : Int) (ps : List Prt) (xs : List PIt) (p : Prt) (x : PIt) (h : ps.length = xs.length) : red8 ty tl (ps ++ [p]) (xs ++ [x]) = p.rd (red8 ty tl ps xs) x := by
  unfold red8; rw [List.zip_append h]; simp
theorem red8_agn (m : PMs) : ∀ ps : List Prt, red8 m.ty m.tl ps (ps.map fun p => p.wr m) = agn ps m := by
  intro ps
  unfold red8 agn
  generalize PMs.bare m.ty m.tl = a
  induction ps generalizing a with
  | nil => rfl
  | cons p ps ih => simp only [List.map_cons, List.zip_cons_cons, List.foldl_cons]; exact ih _

/-- The objects of a message, if it is one that may be. -/
def mObjs (m : PMs) : Option (List (Int × Int × List UInt8)) :=
  if m.tl < 0 ∨ 255 < m.tl then none
  else match sums ((prts m.ty).map fun p => pack (p.wr m)) with
    | none => none
    | some os => if os.length = 0 ∨ m.same (agn (prts m.ty) m) = false then none else some os
theorem mObjs_some {m : PMs} {os : List (Int × Int × List UInt8)} : mObjs m = some os ↔ (0 ≤ m.tl ∧ m.tl ≤ 255) ∧ ((prts m.ty).map fun p => pack (p.wr m)) = os.map some ∧ 0 < os.length ∧ agn (prts m.ty) m = m := by
  unfold mObjs
  by_cases h : m.tl < 0 ∨ 255 < m.tl
  · rw [if_pos h]
    constructor
    · intro e; cases e
    · rintro ⟨h1, _⟩; omega
  · rw [if_neg h]
    cases hs : sums ((prts m.ty).map fun p => pack (p.wr m)) with
    | none =>
      simp only
      constructor
      · intro e; cases e
      · rintro ⟨_, h2, _⟩; rw [(sums_some _ _).2 h2] at hs; cases hs
    | some q =>
      simp only
      have hq := (sums_some _ _).1 hs
      by_cases hc : q.length = 0 ∨ m.same (agn (prts m.ty) m) = false
      · rw [if_pos hc]
        constructor
        · intro e; cases e
        · rintro ⟨_, h2, h3, h4⟩
          rw [(sums_some _ _).2 h2] at hs
          injection hs with hs
          subst hs
          rcases hc with hc | hc
          · omega
          · rw [(PMs.same_iff _ _).2 h4.symm] at hc; cases hc
      · rw [if_neg hc]
        have hc2 : 0 < q.length ∧ agn (prts m.ty) m = m := by
          refine ⟨by omega, ?_⟩
          cases hh : m.same (agn (prts m.ty) m) with
          | false => exact absurd (Or.inr hh) hc
          | true => exact ((PMs.same_iff _ _).1 hh).symm
        constructor
        · intro e; injection e with e; subst e; exact ⟨by omega, hq, hc2⟩
        · rintro ⟨_, h2, _⟩
          rw [(sums_some _ _).2 h2] at hs
          injection hs with hs
          rw [hs]
/-- The message that objects tell. -/
def mRead (ty tl : Int) (os : List (Int × Int × List UInt8)) : Option PMs :=
  if os.length = (prts ty).length then
    match sums (os.map unpack) with
    | none => none
    | some xs => some (red8 ty tl (prts ty) xs)
  else none
theorem mRead_back {m : PMs} {os : List (Int × Int × List UInt8)} (h : mObjs m = some os) : mRead m.ty m.tl os = some m := by
  obtain ⟨_, h2, _, h4⟩ := mObjs_some.1 h
  have hl : os.length = (prts m.ty).length := by
    have := congrArg List.length h2
    simpa using this.symm
  unfold mRead
  rw [if_pos hl]
  have e : os.map unpack = ((prts m.ty).map fun p => p.wr m).map some := by
    refine List.ext_getElem (by simp [hl]) fun i h1 h3 => ?_
    have hi : i < (prts m.ty).length := by simpa using h3
    have hi' : i < os.length := by omega
    have hp : pack ((prts m.ty)[i].wr m) = some os[i] := by
      have := congrArg (fun l => l[i]?) h2
      simpa [hi, hi'] using this
    simp only [List.getElem_map]
    exact back_one hp
  rw [(sums_some _ _).2 e]
  simp only
  rw [red8_agn, h4]
theorem knd_byte (c : Int) : 0 ≤ knd c ∧ knd c ≤ 255 := by
  unfold knd
  repeat' split
  all_goals omega
theorem pack_may8 {x : PIt} {o : Int × Int × List UInt8} (h : pack x = some o) : mayO o = true := by
  obtain ⟨hk, _, _, rfl⟩ := pack_some.1 h
  have hl := pack_len h
  have hb := knd_byte x.cl
  have hc : 0 ≤ x.cl ∧ x.cl ≤ 255 := by rcases knd_cases hk with e | e | e | e | e | e | e | e | e | e | e | e | e | e | e <;> omega
  exact vld_mk hc.1 hc.2 hb.1 hb.2 hl.1 (by have := hl.2.1; omega)
theorem obs8_le : ∀ os : List (Int × Int × List UInt8), (∀ o ∈ os, o.2.2.length ≤ 128 ∧ o.2.2.length % 4 = 0) → (obsL os).length ≤ 132 * os.length ∧ (obsL os).length % 4 = 0
  | [], _ => by simp [obsL]
  | o :: os, h => by
    have ih := obs8_le os (fun q hq => h q (List.mem_cons_of_mem _ hq))
    have h0 := h o (List.mem_cons_self ..)
    rw [obsL_cons, List.length_append, obL_length, List.length_cons]
    omega
/-- A message's objects may be encoded. -/
theorem mObjs_ok {m : PMs} {os : List (Int × Int × List UInt8)} (h : mObjs m = some os) : oErr os = 0 ∧ oEnc os = obsL os ∧ (oEnc os).length ≤ 1188 ∧ (oEnc os).length % 4 = 0 := by
  obtain ⟨_, h2, _, _⟩ := mObjs_some.1 h
  have hl : os.length = (prts m.ty).length := by
    have := congrArg List.length h2
    simpa using this.symm
  have hp := prts_le m.ty
  have hm : ∀ o ∈ os, ∃ p : Prt, pack (p.wr m) = some o := by
    intro o ho
    have h3 : some o ∈ os.map some := List.mem_map_of_mem ho
    rw [← h2] at h3
    obtain ⟨p, _, hp⟩ := List.mem_map.1 h3
    exact ⟨p, hp⟩
  obtain ⟨k1, k2⟩ := obs8_le os (fun o ho => by
    obtain ⟨p, hp⟩ := hm o ho
    exact ⟨(pack_len hp).2.1, (pack_len hp).1⟩)
  have h0 : oErr os = 0 := oErr_ok (by omega) (fun o ho => by obtain ⟨p, hp⟩ := hm o ho; exact pack_may8 hp) (by omega)
  refine ⟨h0, oEnc_ok h0, ?_, ?_⟩
  · rw [oEnc_ok h0]; omega
  · rw [oEnc_ok h0]; exact k2

/-- What stands ahead of a message's objects, without its check sum. -/
def hd8 (ty tl : Int) (n : Nat) : List UInt8 := [16, UInt8.ofNat ty.toNat, 0, 0, UInt8.ofNat tl.toNat, 0] ++ dig 2 n
theorem hd8_length (ty tl : Int) (n : Nat) : (hd8 ty tl n).length = 8 := by simp [hd8, dig_length]
def mEnc (m : PMs) : Option (List UInt8) :=
  match mObjs m with
  | none => none
  | some os => some (sealL (hd8 m.ty m.tl (8 + (oEnc os).length) ++ oEnc os) 2)
/-- The bytes with which a message's begin. -/
theorem hd8_seal (ty tl : Int) (n v : Nat) (l : List UInt8) : lay (hd8 ty tl n ++ l) 2 v = [16, UInt8.ofNat ty.toNat] ++ dig 2 v ++ [UInt8.ofNat tl.toNat, 0] ++ dig 2 n ++ l := by
  simp [lay, hd8, dig_two]
theorem mEnc_some {m : PMs} {b : List UInt8} (h : mEnc m = some b) : ∃ os, mObjs m = some os ∧ b = sealL (hd8 m.ty m.tl (8 + (oEnc os).length) ++ oEnc os) 2 := by
  unfold mEnc at h
  cases ho : mObjs m with
  | none => rw [ho] at h; cases h
  | some os => rw [ho] at h; injection h with h; exact ⟨os, rfl, h.symm⟩
/-- What a message's bytes say, one by one. -/
theorem mEnc_says {m : PMs} {b : List UInt8} (h : mEnc m = some b) : ∃ os v, mObjs m = some os ∧ b = [16, UInt8.ofNat m.ty.toNat] ++ dig 2 v ++ [UInt8.ofNat m.tl.toNat, 0] ++ dig 2 (8 + (oEnc os).length) ++ oEnc os ∧ b.length = 8 + (oEnc os).length ∧ (oEnc os).length ≤ 1188 ∧ (oEnc os).length % 4 = 0 ∧
    ofL b = 0 ∧ 1 ≤ m.ty ∧ m.ty ≤ 7 ∧ 0 ≤ m.tl ∧ m.tl ≤ 255 ∧ b.drop 8 = oEnc os := by
  obtain ⟨os, ho, hb⟩ := mEnc_some h
  obtain ⟨h1, h2, h3, _⟩ := mObjs_some.1 ho
  obtain ⟨_, _, k1, k2⟩ := mObjs_ok ho
  have hl : (hd8 m.ty m.tl (8 + (oEnc os).length) ++ oEnc os).length = 8 + (oEnc os).length := by rw [List.length_append, hd8_length]
  have hne : prts m.ty ≠ [] := by
    intro e
    rw [e] at h2
    have := congrArg List.length h2
    simp at this; omega
  have ht := prts_ty hne
  refine ⟨os, ofL (lay (hd8 m.ty m.tl (8 + (oEnc os).length) ++ oEnc os) 2 0), ho, ?_, ?_, k1, k2, ?_, ht.1, ht.2, h1.1, h1.2, ?_⟩
  · rw [hb]; unfold sealL; rw [hd8_seal]
  · rw [hb, sealL_length _ _ (by omega), hl]
  · rw [hb]; exact sealed_right _ _ (by omega) (by omega)
  · rw [hb]; unfold sealL; rw [hd8_seal]; simp [dig_two]
/-- The message that bytes tell. -/
def mDec (b : List UInt8) : Option PMs :=
  if 4096 < b.length ∨ b.length < 8 ∨ (b.take 1 ≠ [16] ∨ (b.drop 5).take 1 ≠ [0] ∨ num ((b.drop 6).take 2) ≠ b.length) ∨ ofL b ≠ 0 then none
  else if (oDec (b.drop 8)).2 ≠ 0 then none
  else match mRead (num ((b.drop 1).take 1) : Nat) (num ((b.drop 4).take 1) : Nat) (oDec (b.drop 8)).1 with
    | none => none
    | some m => if mEnc m = some b then some m else none
theorem mDec_own {b : List UInt8} {m : PMs} (h : mDec b = some m) : mEnc m = some b ∧ ofL b = 0 := by
  unfold mDec at h
  split at h
  · cases h
  · rename_i h0
    split at h
    · cases h
    · split at h
      · cases h
      · split at h
        · rename_i h3
          injection h with h
          subst h
          refine ⟨h3, ?_⟩
          omega
        · cases h
theorem mDec_back {m : PMs} {b : List UInt8} (h : mEnc m = some b) : mDec b = some m := by
  obtain ⟨os, v, ho, hb, hl, k1, k2, hs, t1, t2, l1, l2, hd⟩ := mEnc_says h
  have e1 : b.take 1 = [16] := by rw [hb]; rfl
  have e2 : (b.drop 5).take 1 = [0] := by rw [hb]; simp [dig_two]
  have e3 : num ((b.drop 6).take 2) = b.length := by
    have : (b.drop 6).take 2 = dig 2 (8 + (oEnc os).length) := by rw [hb]; simp [dig_two]
    rw [this, dig_two, num_two, UInt8.toNat_ofNat', UInt8.toNat_ofNat', hl]
    omega
  have e4 : num ((b.drop 1).take 1) = m.ty.toNat := by
    have : (b.drop 1).take 1 = [UInt8.ofNat m.ty.toNat] := by rw [hb]; simp [dig_two]
    rw [this]
    show 0 * 256 + (UInt8.ofNat m.ty.toNat).toNat = _
    rw [UInt8.toNat_ofNat']; omega
  have e5 : num ((b.drop 4).take 1) = m.tl.toNat := by
    have : (b.drop 4).take 1 = [UInt8.ofNat m.tl.toNat] := by rw [hb]; simp [dig_two]
    rw [this]
    show 0 * 256 + (UInt8.ofNat m.tl.toNat).toNat = _
    rw [UInt8.toNat_ofNat']; omega
  have e6 : oDec (b.drop 8) = (os, 0) := by rw [hd]; exact obj_back (mObjs_ok ho).1
  unfold mDec
  rw [if_neg (by
    intro hc
    rcases hc with hc | hc | (hc | hc | hc) | hc
    · omega
    · omega
    · exact hc e1
    · exact hc e2
    · exact hc e3
    · exact hc hs), e6, if_neg (by simp), e4, e5, Int.toNat_of_nonneg (by omega), Int.toNat_of_nonneg l1]
  simp only [mRead_back ho, h, if_true]
theorem mEnc_inj {m n : PMs} {b : List UInt8} (h : mEnc m = some b) (k : mEnc n = some b) : m = n := by
  have h1 := mDec_back h
  rw [mDec_back k] at h1
  injection h1 with h1
  exact h1.symm
theorem mDec_spoilt {m : PMs} {b : List UInt8} (h : mEnc m = some b) (i : Nat) (hi : i < b.length) (x : UInt8) (hx : x ≠ b[i]) : mDec (b.set i x) = none := by
  cases hd : mDec (b.set i x) with
  | none => rfl
  | some n =>
    obtain ⟨_, _, _, _, _, _, _, hs, _⟩ := mEnc_says h
    exact absurd (mDec_own hd).2 (finds b i hi x hx hs)
end Go.Proofs.Ythmgpffpiggomaa
