/-
  What the document guesses of an item's object is the item. No condition beside what is said.
-/
import Derived.Test.YtocogdcecnnnnaaBodyY
namespace Go.Proofs.Ytocogdcecnnnnaa
open Go.RowKit

theorem rdv_at (pre post : List UInt8) (k u : Nat) (hu : u < 256 ^ k) (l : List UInt8) (hl : l = pre ++ (dig k u ++ post)) (i : Nat) (hi : i = pre.length) : rdv l i k = u := by
  subst hl hi
  unfold rdv
  rw [if_neg (by simp [dig_length]), List.drop_left, List.take_append_of_le_length (by rw [dig_length]; exact Nat.le_refl _), List.take_of_length_le (by rw [dig_length]; exact Nat.le_refl _), num_dig, Nat.mod_eq_of_lt hu]
theorem nodv_at (pre post : List UInt8) (x : Int) (h0 : 0 ≤ x) (h1 : x < 16) (l : List UInt8) (hl : l = pre ++ (dig 4 (167772160 + u64 x) ++ post)) (i : Nat) (hi : i = pre.length) : nodv l i = x := by
  have hx : ((u64 x : Nat) : Int) = x := u64_ok h0 (by omega)
  unfold nodv
  rw [rdv_at pre post 4 (167772160 + u64 x) (by omega) l hl i hi]
  omega

theorem hopP_bytes (l : List Int) : (pcL (l.flatMap hopP)).length = 8 * l.length := by
  induction l with
  | nil => rfl
  | cons x l ih =>
    have e : pcL ((x :: l).flatMap hopP) = pcL (hopP x) ++ pcL (l.flatMap hopP) := by simp [pcL]
    rw [e, List.length_append, ih]
    simp [pcL, hopP, dig_length]
    omega
theorem lst_back (l : List Int) (hn : l.length ≤ 16) (h : ∀ x ∈ l, 0 ≤ x ∧ x < 16) : lst (pcL (l.flatMap hopP)) = l := by
  have hln : lsn (pcL (l.flatMap hopP)).length = l.length := by rw [hopP_bytes]; unfold lsn; omega
  unfold lst
  rw [hln]
  apply List.ext_getElem
  · simp
  · intro j h1 h2
    rw [List.getElem_map, List.getElem_range]
    have hx := h l[j] (List.getElem_mem h2)
    have hs : l = l.take j ++ (l[j] :: l.drop (j + 1)) := by rw [List.getElem_cons_drop]; exact (List.take_append_drop j l).symm
    refine nodv_at (pcL ((l.take j).flatMap hopP) ++ dig 2 264) (dig 2 8192 ++ pcL ((l.drop (j + 1)).flatMap hopP)) l[j] hx.1 hx.2 _ ?_ _ ?_
    · have e : pcL (l.flatMap hopP) = pcL ((l.take j ++ (l[j] :: l.drop (j + 1))).flatMap hopP) := by rw [← hs]
      have e3 : pcL (hopP l[j]) = dig 2 264 ++ (dig 4 (167772160 + u64 l[j]) ++ dig 2 8192) := by simp [pcL, hopP]
      rw [e, List.flatMap_append, List.flatMap_cons, pcL_append, pcL_append, e3]
      simp only [List.append_assoc]
    · rw [List.length_append, hopP_bytes, dig_length, List.length_take]
      omega

theorem gs_back {x : PIt} {o : Int × Int × List UInt8} (h : pack x = some o) : gsP o.1 o.2.2 = x := by
  obtain ⟨hu, ha, hl, hn⟩ := pack_fine h
  have hm := pack_may h
  have hp := may_pack hu ha hl hn hm
  rw [h] at hp
  injection hp with hp
  subst hp
  simp only
  have hk := (pack_some.1 h).1
  obtain ⟨cl, a, b, c, u, l, bw, su, ho, an, al, no⟩ := x
  simp only at hu ha hl hn hk
  clear h
  simp only [mayB, Bool.and_eq_true] at hm
  obtain ⟨hs, hc⟩ := hm
  have hs := (PIt.same_iff _ _).1 hs
  rcases knd_cases hk with e | e | e | e | e | e | e | e | e | e | e | e | e | e | e
  · subst e
    simp [shpP, PIt.blank, Wnt.zero] at hs
    obtain ⟨rfl, rfl, rfl, rfl, rfl, rfl, rfl, rfl⟩ := hs
    obtain ⟨k1, k2, k3⟩ : ndB a = true ∧ smB b = true ∧ ndB c = true := by simpa [condB] using hc
    have k1 := ndB_yes k1
    have k2 := smB_yes k2
    have k3 := ndB_yes k3
    have ua := u64_ok k1.1 (by omega)
    have ub := u64_ok k2.1 (by omega)
    have uc := u64_ok k3.1 (by omega)
    have e1 : pcL (pcs ⟨1, a, b, c, 0, [], ⟨0, 0, 0, 0, 0, 0⟩⟩) = dig 4 (167772160 + u64 a) ++ (dig 2 (0) ++ (dig 2 (u64 b) ++ (dig 4 (167772160 + u64 c) ++ []))) := by simp [pcL, pcs]
    generalize pcL (pcs ⟨1, a, b, c, 0, [], ⟨0, 0, 0, 0, 0, 0⟩⟩) = L at e1 ⊢
    have ra := nodv_at ([]) (dig 2 (0) ++ (dig 2 (u64 b) ++ (dig 4 (167772160 + u64 c) ++ []))) a k1.1 k1.2 L (by simp [e1]) 0 (by simp)
    have rb := rdv_at (dig 4 (167772160 + u64 a) ++ dig 2 (0)) (dig 4 (167772160 + u64 c) ++ []) 2 (u64 b) (by omega) L (by simp [e1]) 6 (by simp [dig_length])
    have rc := nodv_at (dig 4 (167772160 + u64 a) ++ dig 2 (0) ++ dig 2 (u64 b)) ([]) c k3.1 k3.2 L (by simp [e1]) 8 (by simp [dig_length])
    simp only [gsP]
    simp [ra, rb, rc, ub, Wnt.zero]
  · subst e
    simp [shpP, PIt.blank, Wnt.zero] at hs
    obtain ⟨rfl, rfl, rfl, rfl, rfl, rfl, rfl, rfl, rfl, rfl⟩ := hs
    have k1 := ndB_yes (show ndB a = true by simpa [condB] using hc)
    have ua := u64_ok k1.1 (by omega)
    have e1 : pcL (pcs ⟨3, a, 0, 0, 0, [], ⟨0, 0, 0, 0, 0, 0⟩⟩) = dig 4 (167772160 + u64 a) ++ (dig 4 (0) ++ []) := by simp [pcL, pcs]
    generalize pcL (pcs ⟨3, a, 0, 0, 0, [], ⟨0, 0, 0, 0, 0, 0⟩⟩) = L at e1 ⊢
    have ra := nodv_at ([]) (dig 4 (0) ++ []) a k1.1 k1.2 L (by simp [e1]) 0 (by simp)
    simp only [gsP]
    simp [ra, Wnt.zero]
  · subst e
    simp [shpP, PIt.blank, Wnt.zero] at hs
    obtain ⟨rfl, rfl, rfl, rfl, rfl, rfl, rfl, rfl, rfl, rfl⟩ := hs
    have k1 : u < 4294967296 := by simpa [condB] using hc
    have e1 : pcL (pcs ⟨5, 0, 0, 0, u, [], ⟨0, 0, 0, 0, 0, 0⟩⟩) = dig 4 (u) ++ [] := by simp [pcL, pcs]
    generalize pcL (pcs ⟨5, 0, 0, 0, u, [], ⟨0, 0, 0, 0, 0, 0⟩⟩) = L at e1 ⊢
    have ru := rdv_at ([]) ([]) 4 (u) (by omega) L (by simp [e1]) 0 (by simp)
    simp only [gsP]
    simp [ru, Wnt.zero]
  · subst e
    simp [shpP, PIt.blank, Wnt.zero] at hs
    obtain ⟨rfl, rfl, rfl, rfl, rfl, rfl, rfl, rfl⟩ := hs
    obtain ⟨k1, k2, k4, k3⟩ : ndB a = true ∧ 0 ≤ b ∧ b ≤ 255 ∧ smB c = true := by simpa [condB] using hc
    have k1 := ndB_yes k1
    have k3 := smB_yes k3
    have ua := u64_ok k1.1 (by omega)
    have ub := u64_ok k2 (by omega)
    have uc := u64_ok k3.1 (by omega)
    have e1 : pcL (pcs ⟨6, a, b, c, 0, [], ⟨0, 0, 0, 0, 0, 0⟩⟩) = dig 4 (167772160 + u64 a) ++ (dig 1 (0) ++ (dig 1 (u64 b) ++ (dig 2 (u64 c) ++ []))) := by simp [pcL, pcs]
    generalize pcL (pcs ⟨6, a, b, c, 0, [], ⟨0, 0, 0, 0, 0, 0⟩⟩) = L at e1 ⊢
    have ra := nodv_at ([]) (dig 1 (0) ++ (dig 1 (u64 b) ++ (dig 2 (u64 c) ++ []))) a k1.1 k1.2 L (by simp [e1]) 0 (by simp)
    have rb := rdv_at (dig 4 (167772160 + u64 a) ++ dig 1 (0)) (dig 2 (u64 c) ++ []) 1 (u64 b) (by omega) L (by simp [e1]) 5 (by simp [dig_length])
    have rc := rdv_at (dig 4 (167772160 + u64 a) ++ dig 1 (0) ++ dig 1 (u64 b)) ([]) 2 (u64 c) (by omega) L (by simp [e1]) 6 (by simp [dig_length])
    simp only [gsP]
    simp [ra, rb, rc, ub, uc, Wnt.zero]
  · subst e
    simp [shpP, PIt.blank, Wnt.zero] at hs
    obtain ⟨rfl, rfl, rfl, rfl, rfl, rfl, rfl, rfl, rfl, rfl, rfl⟩ := hs
    simp [gsP, Wnt.zero]
  · subst e
    simp [shpP, PIt.blank, Wnt.zero] at hs
    obtain ⟨rfl, rfl, rfl, rfl, rfl, rfl, rfl, rfl, rfl, rfl⟩ := hs
    have e1 : pcL (pcs ⟨9, 0, 0, 0, u, [], ⟨0, 0, 0, 0, 0, 0⟩⟩) = dig 8 (u) ++ [] := by simp [pcL, pcs]
    generalize pcL (pcs ⟨9, 0, 0, 0, u, [], ⟨0, 0, 0, 0, 0, 0⟩⟩) = L at e1 ⊢
    have ru := rdv_at ([]) ([]) 8 (u) (by omega) L (by simp [e1]) 0 (by simp)
    simp only [gsP]
    simp [ru, Wnt.zero]
  · subst e
    simp [shpP, PIt.blank, Wnt.zero] at hs
    obtain ⟨rfl, rfl, rfl, rfl, rfl, rfl, rfl, rfl, rfl⟩ := hs
    obtain ⟨k1, k2⟩ : ndB a = true ∧ smB b = true := by simpa [condB] using hc
    have k1 := ndB_yes k1
    have k2 := smB_yes k2
    have ua := u64_ok k1.1 (by omega)
    have ub := u64_ok k2.1 (by omega)
    have e1 : pcL (pcs ⟨10, a, b, 0, 0, [], ⟨0, 0, 0, 0, 0, 0⟩⟩) = dig 4 (167772160 + u64 a) ++ (dig 2 (0) ++ (dig 2 (u64 b) ++ [])) := by simp [pcL, pcs]
    generalize pcL (pcs ⟨10, a, b, 0, 0, [], ⟨0, 0, 0, 0, 0, 0⟩⟩) = L at e1 ⊢
    have ra := nodv_at ([]) (dig 2 (0) ++ (dig 2 (u64 b) ++ [])) a k1.1 k1.2 L (by simp [e1]) 0 (by simp)
    have rb := rdv_at (dig 4 (167772160 + u64 a) ++ dig 2 (0)) ([]) 2 (u64 b) (by omega) L (by simp [e1]) 6 (by simp [dig_length])
    simp only [gsP]
    simp [ra, rb, ub, Wnt.zero]
  · subst e
    simp [shpP, PIt.blank, Wnt.zero] at hs
    obtain ⟨rfl, rfl, rfl, rfl, rfl, rfl, rfl, rfl, rfl⟩ := hs
    obtain ⟨k1, k2⟩ : ndB a = true ∧ smB b = true := by simpa [condB] using hc
    have k1 := ndB_yes k1
    have k2 := smB_yes k2
    have ua := u64_ok k1.1 (by omega)
    have ub := u64_ok k2.1 (by omega)
    have e1 : pcL (pcs ⟨11, a, b, 0, 0, [], ⟨0, 0, 0, 0, 0, 0⟩⟩) = dig 4 (167772160 + u64 a) ++ (dig 2 (0) ++ (dig 2 (u64 b) ++ [])) := by simp [pcL, pcs]
    generalize pcL (pcs ⟨11, a, b, 0, 0, [], ⟨0, 0, 0, 0, 0, 0⟩⟩) = L at e1 ⊢
    have ra := nodv_at ([]) (dig 2 (0) ++ (dig 2 (u64 b) ++ [])) a k1.1 k1.2 L (by simp [e1]) 0 (by simp)
    have rb := rdv_at (dig 4 (167772160 + u64 a) ++ dig 2 (0)) ([]) 2 (u64 b) (by omega) L (by simp [e1]) 6 (by simp [dig_length])
    simp only [gsP]
    simp [ra, rb, ub, Wnt.zero]
  · subst e
    simp [shpP, PIt.blank, Wnt.zero] at hs
    obtain ⟨rfl, rfl, rfl, rfl, rfl, rfl, rfl, rfl, rfl, rfl⟩ := hs
    have e1 : pcL (pcs ⟨12, 0, 0, 0, u, [], ⟨0, 0, 0, 0, 0, 0⟩⟩) = dig 8 (u) ++ [] := by simp [pcL, pcs]
    generalize pcL (pcs ⟨12, 0, 0, 0, u, [], ⟨0, 0, 0, 0, 0, 0⟩⟩) = L at e1 ⊢
    have ru := rdv_at ([]) ([]) 8 (u) (by omega) L (by simp [e1]) 0 (by simp)
    simp only [gsP]
    simp [ru, Wnt.zero]
  · subst e
    simp [shpP, PIt.blank, Wnt.zero] at hs
    obtain ⟨rfl, rfl, rfl, rfl, rfl, rfl, rfl, rfl, rfl, rfl⟩ := hs
    obtain ⟨k1, k2⟩ : 0 ≤ a ∧ a ≤ 1048575 := by simpa [condB] using hc
    have ua := u64_ok k1 (by omega)
    have e1 : pcL (pcs ⟨16, a, 0, 0, 0, [], ⟨0, 0, 0, 0, 0, 0⟩⟩) = dig 4 (u64 a) ++ [] := by simp [pcL, pcs]
    generalize pcL (pcs ⟨16, a, 0, 0, 0, [], ⟨0, 0, 0, 0, 0, 0⟩⟩) = L at e1 ⊢
    have ra := rdv_at ([]) ([]) 4 (u64 a) (by omega) L (by simp [e1]) 0 (by simp)
    simp only [gsP]
    simp [ra, ua, Wnt.zero]
  · subst e
    simp [shpP, PIt.blank, Wnt.zero] at hs
    obtain ⟨rfl, rfl, rfl, rfl, rfl, rfl, rfl, rfl, rfl, rfl⟩ := hs
    have k1 := smB_yes (show smB a = true by simpa [condB] using hc)
    have ua := u64_ok k1.1 (by omega)
    have e1 : pcL (pcs ⟨19, a, 0, 0, 0, [], ⟨0, 0, 0, 0, 0, 0⟩⟩) = dig 4 (u64 a) ++ [] := by simp [pcL, pcs]
    generalize pcL (pcs ⟨19, a, 0, 0, 0, [], ⟨0, 0, 0, 0, 0, 0⟩⟩) = L at e1 ⊢
    have ra := rdv_at ([]) ([]) 4 (u64 a) (by omega) L (by simp [e1]) 0 (by simp)
    simp only [gsP]
    simp [ra, ua, Wnt.zero]
  · subst e
    simp [shpP, PIt.blank, Wnt.zero] at hs
    obtain ⟨rfl, rfl, rfl, rfl, rfl, rfl, rfl, rfl, rfl, rfl⟩ := hs
    have k1 := ndsB_yes (show ndsB l = true by simpa [condB] using hc)
    have e1 : pcs ⟨20, 0, 0, 0, 0, l, ⟨0, 0, 0, 0, 0, 0⟩⟩ = l.flatMap hopP := by simp [pcs]
    rw [e1]
    simp [gsP, lst_back l k1.1 k1.2, Wnt.zero]
  · subst e
    simp [shpP, PIt.blank, Wnt.zero] at hs
    obtain ⟨rfl, rfl, rfl, rfl, rfl, rfl, rfl, rfl, rfl, rfl⟩ := hs
    have k1 := ndsB_yes (show ndsB l = true by simpa [condB] using hc)
    have e1 : pcs ⟨21, 0, 0, 0, 0, l, ⟨0, 0, 0, 0, 0, 0⟩⟩ = l.flatMap hopP := by simp [pcs]
    rw [e1]
    simp [gsP, lst_back l k1.1 k1.2, Wnt.zero]
  · subst e
    simp [shpP, PIt.blank, Wnt.zero] at hs
    obtain ⟨rfl, rfl, rfl, rfl, rfl, rfl, rfl, rfl, rfl, rfl⟩ := hs
    have k1 : u < 4294967296 := by simpa [condB] using hc
    have e1 : pcL (pcs ⟨23, 0, 0, 0, u, [], ⟨0, 0, 0, 0, 0, 0⟩⟩) = dig 4 (0) ++ (dig 4 (u) ++ []) := by simp [pcL, pcs]
    generalize pcL (pcs ⟨23, 0, 0, 0, u, [], ⟨0, 0, 0, 0, 0, 0⟩⟩) = L at e1 ⊢
    have ru := rdv_at (dig 4 (0)) ([]) 4 (u) (by omega) L (by simp [e1]) 4 (by simp [dig_length])
    simp only [gsP]
    simp [ru, Wnt.zero]
  · subst e
    simp [shpP, PIt.blank, Wnt.zero] at hs
    obtain ⟨rfl, rfl, rfl, rfl, rfl⟩ := hs
    obtain ⟨k0, k1, k2, k3, k4⟩ : bw = 0 ∧ 0 ≤ su ∧ su ≤ 7 ∧ 0 ≤ ho ∧ ho ≤ 7 := by simpa [condB] using hc
    subst k0
    have us := u64_ok k1 (by omega)
    have uh := u64_ok k3 (by omega)
    have e1 : pcL (pcs ⟨207, 0, 0, 0, 0, [], ⟨0, su, ho, an, al, no⟩⟩) = dig 4 (no) ++ (dig 4 (an) ++ (dig 4 (al) ++ (dig 1 (u64 su) ++ (dig 1 (u64 ho) ++ (dig 2 (0) ++ []))))) := by simp [pcL, pcs]
    generalize pcL (pcs ⟨207, 0, 0, 0, 0, [], ⟨0, su, ho, an, al, no⟩⟩) = L at e1 ⊢
    have rno := rdv_at ([]) (dig 4 (an) ++ (dig 4 (al) ++ (dig 1 (u64 su) ++ (dig 1 (u64 ho) ++ (dig 2 (0) ++ []))))) 4 (no) (by omega) L (by simp [e1]) 0 (by simp)
    have ran := rdv_at (dig 4 (no)) (dig 4 (al) ++ (dig 1 (u64 su) ++ (dig 1 (u64 ho) ++ (dig 2 (0) ++ [])))) 4 (an) (by omega) L (by simp [e1]) 4 (by simp [dig_length])
    have ral := rdv_at (dig 4 (no) ++ dig 4 (an)) (dig 1 (u64 su) ++ (dig 1 (u64 ho) ++ (dig 2 (0) ++ []))) 4 (al) (by omega) L (by simp [e1]) 8 (by simp [dig_length])
    have rsu := rdv_at (dig 4 (no) ++ dig 4 (an) ++ dig 4 (al)) (dig 1 (u64 ho) ++ (dig 2 (0) ++ [])) 1 (u64 su) (by omega) L (by simp [e1]) 12 (by simp [dig_length])
    have rho := rdv_at (dig 4 (no) ++ dig 4 (an) ++ dig 4 (al) ++ dig 1 (u64 su)) (dig 2 (0) ++ []) 1 (u64 ho) (by omega) L (by simp [e1]) 13 (by simp [dig_length])
    simp only [gsP]
    simp [rno, ran, ral, rsu, rho, us, uh]

theorem unpack_gs (o : Int × Int × List UInt8) : unpack o = if pack (gsP o.1 o.2.2) = some o then some (gsP o.1 o.2.2) else none := by
  by_cases h : pack (gsP o.1 o.2.2) = some o
  · rw [if_pos h, back_one h]
  · rw [if_neg h]
    cases hu : unpack o with
    | none => rfl
    | some z =>
      have hz := back_two hu
      rw [gs_back hz] at h
      exact absurd hz h
end Go.Proofs.Ytocogdcecnnnnaa
