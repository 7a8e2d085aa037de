/-
  What is packed is what the document says: an item is packed just if it may be, and its bytes are its pieces. Condition: the item's numbers without sign are of their kinds.
-/
import Derived.Test.YtocogdcecnnnnaaBodyU
namespace Go.Proofs.Ytocogdcecnnnnaa
open Go.RowKit

theorem u64_ok {n : Int} (h0 : 0 ≤ n) (h1 : n < 18446744073709551616) : ((u64 n : Nat) : Int) = n := by unfold u64; omega
theorem dig_addr (v : Nat) (h : v < 256) : dig 4 (167772160 + v) = dig 3 655360 ++ dig 1 v := by
  have := dig_split 3 1 655360 v (by omega)
  simpa using this
theorem hop_bytes : ∀ l : List Int, (∀ x ∈ l, 0 ≤ x ∧ x < 16) → rqL (l.flatMap hopR) = pcL (l.flatMap hopP)
  | [], _ => rfl
  | x :: l, h => by
    have ih := hop_bytes l (fun y hy => h y (List.mem_cons_of_mem _ hy))
    have hx := h x (List.mem_cons_self ..)
    have hv : u64 x < 256 := by unfold u64; omega
    have e1 : rqL ((x :: l).flatMap hopR) = rqL (hopR x) ++ rqL (l.flatMap hopR) := by simp [rqL]
    have e2 : pcL ((x :: l).flatMap hopP) = pcL (hopP x) ++ pcL (l.flatMap hopP) := by simp [pcL]
    rw [e1, e2, ih]
    congr 1
    have s1 := dig_split 1 1 1 8 (by omega)
    have s2 := dig_split 1 1 32 0 (by omega)
    simp only [Nat.reducePow, Nat.reduceMul, Nat.reduceAdd] at s1 s2
    simp only [rqL, hopR, pcL, hopP, zR, List.flatMap_cons, List.flatMap_nil, List.append_nil]
    rw [s1, s2, dig_addr _ hv]
    simp
theorem hop_us : ∀ l : List Int, nds (uus (l.flatMap hopR)) = l.map fun n => ((u64 n : Nat) : Int)
  | [] => rfl
  | x :: l => by
    have ih := hop_us l
    have e : nds (uus ((x :: l).flatMap hopR)) = ((u64 x : Nat) : Int) :: nds (uus (l.flatMap hopR)) := rfl
    rw [e, ih]; rfl
theorem map_u64 {l : List Int} (h : ∀ x ∈ l, 0 ≤ x ∧ x < 16) : (l.map fun n => ((u64 n : Nat) : Int)) = l := by
  induction l with
  | nil => rfl
  | cons x l ih =>
    have hx := h x (List.mem_cons_self ..)
    rw [List.map_cons, ih (fun y hy => h y (List.mem_cons_of_mem _ hy)), u64_ok hx.1 (by omega)]
theorem List.map_eq_self_iff' {f : Int → Int} : ∀ {l : List Int}, l.map f = l ↔ ∀ x ∈ l, f x = x
  | [] => by simp
  | y :: l => by simp [List.map_eq_self_iff' (l := l)]
theorem smB_yes {n : Int} (h : smB n = true) : 0 ≤ n ∧ n ≤ 65535 := by simpa [smB] using h

theorem may_pack {x : PIt} (hu : x.u < 18446744073709551616) (ha : x.w.any < 4294967296) (hl : x.w.all < 4294967296) (hn : x.w.non < 4294967296) (h : mayB x = true) : pack x = some (x.cl, knd x.cl, pcL (pcs x)) := by
  obtain ⟨cl, a, b, c, u, l, bw, su, ho, an, al, no⟩ := x
  simp only at hu ha hl hn
  simp only [mayB, Bool.and_eq_true] at h
  obtain ⟨hs, hc⟩ := h
  have hs := (PIt.same_iff _ _).1 hs
  have hk : knd cl ≠ 0 := by
    intro hk
    have : condB ⟨cl, a, b, c, u, l, ⟨bw, su, ho, an, al, no⟩⟩ = false := by
      unfold knd at hk
      split at hk
      · simp at hk
      · split at hk
        · simp at hk
        · split at hk
          · simp at hk
          · rename_i h1 h2 h3
            simp only [not_or] at h1 h2 h3
            simp [condB, h1, h2, h3]
    rw [this] at hc
    cases hc
  rcases knd_cases hk with e | e | e | e | e | e | e | e | e | e | e | e | e | e | e
  · subst e
    simp [shpP, PIt.blank, Wnt.zero] at hs
    obtain ⟨rfl, rfl, rfl, rfl, rfl, rfl, rfl, rfl⟩ := hs
    obtain ⟨k1, k2, k3⟩ : ndB a = true ∧ smB b = true ∧ ndB c = true := by simpa [condB] using hc
    have k1 := ndB_yes k1
    have k2 := smB_yes k2
    have k3 := ndB_yes k3
    have ua := u64_ok k1.1 (by omega)
    have ub := u64_ok k2.1 (by omega)
    have uc := u64_ok k3.1 (by omega)
    refine pack_some.2 ⟨hk, ?_, ?_, ?_⟩
    · intro q hq
      simp [rqs, zR] at hq
      rcases hq with rfl | rfl | rfl | rfl | rfl | rfl <;> simp only [Rq.ok] <;> omega
    · simp [rqs, mkI, at', uus, zR, Wnt.zero, ua, ub, uc]
    · have da := dig_addr (u64 a) (by omega)
      have dc := dig_addr (u64 c) (by omega)
      simp [rqs, rqL, pcL, pcs, zR, da, dc]
  · subst e
    simp [shpP, PIt.blank, Wnt.zero] at hs
    obtain ⟨rfl, rfl, rfl, rfl, rfl, rfl, rfl, rfl, rfl, rfl⟩ := hs
    have k1 := ndB_yes (show ndB a = true by simpa [condB] using hc)
    have ua := u64_ok k1.1 (by omega)
    refine pack_some.2 ⟨hk, ?_, ?_, ?_⟩
    · intro q hq
      simp [rqs, zR] at hq
      rcases hq with rfl | rfl | rfl <;> simp only [Rq.ok] <;> omega
    · simp [rqs, mkI, at', uus, zR, Wnt.zero, ua]
    · have da := dig_addr (u64 a) (by omega)
      simp [rqs, rqL, pcL, pcs, zR, da]
  · subst e
    simp [shpP, PIt.blank, Wnt.zero] at hs
    obtain ⟨rfl, rfl, rfl, rfl, rfl, rfl, rfl, rfl, rfl, rfl⟩ := hs
    have k1 : u < 4294967296 := by simpa [condB] using hc
    refine pack_some.2 ⟨hk, ?_, ?_, ?_⟩
    · intro q hq
      simp [rqs] at hq
      subst hq
      simp only [Rq.ok]
      omega
    · simp [rqs, mkI, at', uus, Wnt.zero]
    · simp [rqs, rqL, pcL, pcs]
  · subst e
    simp [shpP, PIt.blank, Wnt.zero] at hs
    obtain ⟨rfl, rfl, rfl, rfl, rfl, rfl, rfl, rfl⟩ := hs
    obtain ⟨k1, k2, k4, k3⟩ : ndB a = true ∧ 0 ≤ b ∧ b ≤ 255 ∧ smB c = true := by simpa [condB] using hc
    have k1 := ndB_yes k1
    have k3 := smB_yes k3
    have ua := u64_ok k1.1 (by omega)
    have ub := u64_ok k2 (by omega)
    have uc := u64_ok k3.1 (by omega)
    refine pack_some.2 ⟨hk, ?_, ?_, ?_⟩
    · intro q hq
      simp [rqs, zR] at hq
      rcases hq with rfl | rfl | rfl | rfl | rfl <;> simp only [Rq.ok] <;> omega
    · simp [rqs, mkI, at', uus, zR, Wnt.zero, ua, ub, uc]
    · have da := dig_addr (u64 a) (by omega)
      simp [rqs, rqL, pcL, pcs, zR, da]
  · subst e
    simp [shpP, PIt.blank, Wnt.zero] at hs
    obtain ⟨rfl, rfl, rfl, rfl, rfl, rfl, rfl, rfl, rfl, rfl, rfl⟩ := hs
    refine pack_some.2 ⟨hk, ?_, ?_, ?_⟩
    · intro q hq
      simp [rqs, zR] at hq
      subst hq
      simp only [Rq.ok]
      omega
    · simp [mkI, Wnt.zero]
    · simp [rqs, rqL, pcL, pcs, zR]
  · subst e
    simp [shpP, PIt.blank, Wnt.zero] at hs
    obtain ⟨rfl, rfl, rfl, rfl, rfl, rfl, rfl, rfl, rfl, rfl⟩ := hs
    refine pack_some.2 ⟨hk, ?_, ?_, ?_⟩
    · intro q hq
      simp [rqs] at hq
      subst hq
      simp only [Rq.ok]
      omega
    · simp [rqs, mkI, at', uus, Wnt.zero]
    · simp [rqs, rqL, pcL, pcs]
  · subst e
    simp [shpP, PIt.blank, Wnt.zero] at hs
    obtain ⟨rfl, rfl, rfl, rfl, rfl, rfl, rfl, rfl, rfl⟩ := hs
    obtain ⟨k1, k2⟩ : ndB a = true ∧ smB b = true := by simpa [condB] using hc
    have k1 := ndB_yes k1
    have k2 := smB_yes k2
    have ua := u64_ok k1.1 (by omega)
    have ub := u64_ok k2.1 (by omega)
    refine pack_some.2 ⟨hk, ?_, ?_, ?_⟩
    · intro q hq
      simp [rqs, zR] at hq
      rcases hq with rfl | rfl | rfl | rfl <;> simp only [Rq.ok] <;> omega
    · simp [rqs, mkI, at', uus, zR, Wnt.zero, ua, ub]
    · have da := dig_addr (u64 a) (by omega)
      simp [rqs, rqL, pcL, pcs, zR, da]
  · subst e
    simp [shpP, PIt.blank, Wnt.zero] at hs
    obtain ⟨rfl, rfl, rfl, rfl, rfl, rfl, rfl, rfl, rfl⟩ := hs
    obtain ⟨k1, k2⟩ : ndB a = true ∧ smB b = true := by simpa [condB] using hc
    have k1 := ndB_yes k1
    have k2 := smB_yes k2
    have ua := u64_ok k1.1 (by omega)
    have ub := u64_ok k2.1 (by omega)
    refine pack_some.2 ⟨hk, ?_, ?_, ?_⟩
    · intro q hq
      simp [rqs, zR] at hq
      rcases hq with rfl | rfl | rfl | rfl <;> simp only [Rq.ok] <;> omega
    · simp [rqs, mkI, at', uus, zR, Wnt.zero, ua, ub]
    · have da := dig_addr (u64 a) (by omega)
      simp [rqs, rqL, pcL, pcs, zR, da]
  · subst e
    simp [shpP, PIt.blank, Wnt.zero] at hs
    obtain ⟨rfl, rfl, rfl, rfl, rfl, rfl, rfl, rfl, rfl, rfl⟩ := hs
    refine pack_some.2 ⟨hk, ?_, ?_, ?_⟩
    · intro q hq
      simp [rqs] at hq
      subst hq
      simp only [Rq.ok]
      omega
    · simp [rqs, mkI, at', uus, Wnt.zero]
    · simp [rqs, rqL, pcL, pcs]
  · subst e
    simp [shpP, PIt.blank, Wnt.zero] at hs
    obtain ⟨rfl, rfl, rfl, rfl, rfl, rfl, rfl, rfl, rfl, rfl⟩ := hs
    obtain ⟨k1, k2⟩ : 0 ≤ a ∧ a ≤ 1048575 := by simpa [condB] using hc
    have ua := u64_ok k1 (by omega)
    refine pack_some.2 ⟨hk, ?_, ?_, ?_⟩
    · intro q hq
      simp [rqs] at hq
      subst hq
      simp only [Rq.ok]
      omega
    · simp [rqs, mkI, at', uus, Wnt.zero, ua]
    · simp [rqs, rqL, pcL, pcs]
  · subst e
    simp [shpP, PIt.blank, Wnt.zero] at hs
    obtain ⟨rfl, rfl, rfl, rfl, rfl, rfl, rfl, rfl, rfl, rfl⟩ := hs
    have k1 := smB_yes (show smB a = true by simpa [condB] using hc)
    have ua := u64_ok k1.1 (by omega)
    refine pack_some.2 ⟨hk, ?_, ?_, ?_⟩
    · intro q hq
      simp [rqs, zR] at hq
      rcases hq with rfl | rfl <;> simp only [Rq.ok] <;> omega
    · simp [rqs, mkI, at', uus, zR, Wnt.zero, ua]
    · have d2 := dig_split 2 2 0 (u64 a) (by omega)
      simp only [Nat.zero_mul, Nat.zero_add, Nat.reduceAdd] at d2
      simp [rqs, rqL, pcL, pcs, zR, d2]
  · subst e
    simp [shpP, PIt.blank, Wnt.zero] at hs
    obtain ⟨rfl, rfl, rfl, rfl, rfl, rfl, rfl, rfl, rfl, rfl⟩ := hs
    have k1 := ndsB_yes (show ndsB l = true by simpa [condB] using hc)
    have hm : min l.length 16 = l.length := by omega
    refine pack_some.2 ⟨hk, ?_, ?_, ?_⟩
    · simp only [hm, rqs_list _ ⟨20, 0, 0, 0, 0, l, ⟨0, 0, 0, 0, 0, 0⟩⟩ (.inl rfl), front_all]
      intro q hq
      obtain ⟨n, hnm, hq⟩ := List.mem_flatMap.1 hq
      have hx := k1.2 n hnm
      have hux := u64_ok hx.1 (by omega)
      simp only [hopR, zR, List.mem_cons, List.not_mem_nil, or_false] at hq
      rcases hq with rfl | rfl | rfl | rfl | rfl | rfl <;> simp only [Rq.ok] <;> omega
    · simp only [hm, rqs_list _ ⟨20, 0, 0, 0, 0, l, ⟨0, 0, 0, 0, 0, 0⟩⟩ (.inl rfl), front_all]
      simp [mkI, hop_us, map_u64 k1.2, Wnt.zero]
    · simp only [hm, rqs_list _ ⟨20, 0, 0, 0, 0, l, ⟨0, 0, 0, 0, 0, 0⟩⟩ (.inl rfl), front_all, hop_bytes l k1.2]
      simp [pcs]
  · subst e
    simp [shpP, PIt.blank, Wnt.zero] at hs
    obtain ⟨rfl, rfl, rfl, rfl, rfl, rfl, rfl, rfl, rfl, rfl⟩ := hs
    have k1 := ndsB_yes (show ndsB l = true by simpa [condB] using hc)
    have hm : min l.length 16 = l.length := by omega
    refine pack_some.2 ⟨hk, ?_, ?_, ?_⟩
    · simp only [hm, rqs_list _ ⟨21, 0, 0, 0, 0, l, ⟨0, 0, 0, 0, 0, 0⟩⟩ (.inr rfl), front_all]
      intro q hq
      obtain ⟨n, hnm, hq⟩ := List.mem_flatMap.1 hq
      have hx := k1.2 n hnm
      have hux := u64_ok hx.1 (by omega)
      simp only [hopR, zR, List.mem_cons, List.not_mem_nil, or_false] at hq
      rcases hq with rfl | rfl | rfl | rfl | rfl | rfl <;> simp only [Rq.ok] <;> omega
    · simp only [hm, rqs_list _ ⟨21, 0, 0, 0, 0, l, ⟨0, 0, 0, 0, 0, 0⟩⟩ (.inr rfl), front_all]
      simp [mkI, hop_us, map_u64 k1.2, Wnt.zero]
    · simp only [hm, rqs_list _ ⟨21, 0, 0, 0, 0, l, ⟨0, 0, 0, 0, 0, 0⟩⟩ (.inr rfl), front_all, hop_bytes l k1.2]
      simp [pcs]
  · subst e
    simp [shpP, PIt.blank, Wnt.zero] at hs
    obtain ⟨rfl, rfl, rfl, rfl, rfl, rfl, rfl, rfl, rfl, rfl⟩ := hs
    have k1 : u < 4294967296 := by simpa [condB] using hc
    refine pack_some.2 ⟨hk, ?_, ?_, ?_⟩
    · intro q hq
      simp [rqs, zR] at hq
      rcases hq with rfl | rfl <;> simp only [Rq.ok] <;> omega
    · simp [rqs, mkI, at', uus, zR, Wnt.zero]
    · simp [rqs, rqL, pcL, pcs, zR]
  · subst e
    simp [shpP, PIt.blank, Wnt.zero] at hs
    obtain ⟨rfl, rfl, rfl, rfl, rfl⟩ := hs
    obtain ⟨k0, k1, k2, k3, k4⟩ : bw = 0 ∧ 0 ≤ su ∧ su ≤ 7 ∧ 0 ≤ ho ∧ ho ≤ 7 := by simpa [condB] using hc
    subst k0
    have us := u64_ok k1 (by omega)
    have uh := u64_ok k3 (by omega)
    refine pack_some.2 ⟨hk, ?_, ?_, ?_⟩
    · intro q hq
      simp [rqs, zR] at hq
      rcases hq with rfl | rfl | rfl | rfl | rfl | rfl <;> simp only [Rq.ok] <;> omega
    · simp [rqs, mkI, at', uus, zR, us, uh]
    · simp [rqs, rqL, pcL, pcs, zR]

theorem pack_may {x : PIt} {o : Int × Int × List UInt8} (h : pack x = some o) : mayB x = true := by
  obtain ⟨cl, a, b, c, u, l, bw, su, ho, an, al, no⟩ := x
  obtain ⟨hk, hok, hx, _⟩ := pack_some.1 h
  clear h
  simp only at hk hok hx
  have xa := congrArg PIt.a hx
  have xb := congrArg PIt.b hx
  have xc := congrArg PIt.c hx
  have xu := congrArg PIt.u hx
  have xl := congrArg PIt.l hx
  have xw := congrArg PIt.w hx
  clear hx
  rcases knd_cases hk with e | e | e | e | e | e | e | e | e | e | e | e | e | e | e
  · subst e
    have hu : u = 0 := xu.symm.trans (by simp [mkI])
    have hl : l = [] := xl.symm.trans (by simp [mkI])
    have hw : Wnt.mk bw su ho an al no = Wnt.zero := xw.symm.trans (by simp [mkI])
    injection hw with w0 w1 w2 w3 w4 w5
    have qa : Rq.ok ⟨1, 0, 15, u64 a⟩ := hok _ (by simp [rqs])
    have pa := qa.2.2
    simp only at pa
    have va : ((u64 a : Nat) : Int) = a := by simpa [mkI, rqs, uus, at', zR] using xa
    have qb : Rq.ok ⟨2, 0, 65535, u64 b⟩ := hok _ (by simp [rqs])
    have pb := qb.2.2
    simp only at pb
    have vb : ((u64 b : Nat) : Int) = b := by simpa [mkI, rqs, uus, at', zR] using xb
    have qc : Rq.ok ⟨1, 0, 15, u64 c⟩ := hok _ (by simp [rqs])
    have pc := qc.2.2
    simp only at pc
    have vc : ((u64 c : Nat) : Int) = c := by simpa [mkI, rqs, uus, at', zR] using xc
    have hs : (shpP ⟨1, a, b, c, u, l, ⟨bw, su, ho, an, al, no⟩⟩).same (.blank 0) = true := by
      apply (PIt.same_iff _ _).2
      simp [shpP, PIt.blank, hu, hl, Wnt.zero, w0, w1, w2, w3, w4, w5]
    unfold mayB
    rw [hs]
    simp [condB, ndB, smB]
    omega
  · subst e
    have hb : b = 0 := xb.symm.trans (by simp [mkI])
    have hc : c = 0 := xc.symm.trans (by simp [mkI])
    have hu : u = 0 := xu.symm.trans (by simp [mkI])
    have hl : l = [] := xl.symm.trans (by simp [mkI])
    have hw : Wnt.mk bw su ho an al no = Wnt.zero := xw.symm.trans (by simp [mkI])
    injection hw with w0 w1 w2 w3 w4 w5
    have qa : Rq.ok ⟨1, 0, 15, u64 a⟩ := hok _ (by simp [rqs])
    have pa := qa.2.2
    simp only at pa
    have va : ((u64 a : Nat) : Int) = a := by simpa [mkI, rqs, uus, at', zR] using xa
    have hs : (shpP ⟨3, a, b, c, u, l, ⟨bw, su, ho, an, al, no⟩⟩).same (.blank 0) = true := by
      apply (PIt.same_iff _ _).2
      simp [shpP, PIt.blank, hb, hc, hu, hl, Wnt.zero, w0, w1, w2, w3, w4, w5]
    unfold mayB
    rw [hs]
    simp [condB, ndB]
    omega
  · subst e
    have ha : a = 0 := xa.symm.trans (by simp [mkI])
    have hb : b = 0 := xb.symm.trans (by simp [mkI])
    have hc : c = 0 := xc.symm.trans (by simp [mkI])
    have hl : l = [] := xl.symm.trans (by simp [mkI])
    have hw : Wnt.mk bw su ho an al no = Wnt.zero := xw.symm.trans (by simp [mkI])
    injection hw with w0 w1 w2 w3 w4 w5
    have qu : Rq.ok ⟨4, 0, 4294967295, u⟩ := hok _ (by simp [rqs])
    have pu := qu.2.2
    simp only at pu
    have hs : (shpP ⟨5, a, b, c, u, l, ⟨bw, su, ho, an, al, no⟩⟩).same (.blank 0) = true := by
      apply (PIt.same_iff _ _).2
      simp [shpP, PIt.blank, ha, hb, hc, hl, Wnt.zero, w0, w1, w2, w3, w4, w5]
    unfold mayB
    rw [hs]
    simp [condB]
    omega
  · subst e
    have hu : u = 0 := xu.symm.trans (by simp [mkI])
    have hl : l = [] := xl.symm.trans (by simp [mkI])
    have hw : Wnt.mk bw su ho an al no = Wnt.zero := xw.symm.trans (by simp [mkI])
    injection hw with w0 w1 w2 w3 w4 w5
    have qa : Rq.ok ⟨1, 0, 15, u64 a⟩ := hok _ (by simp [rqs])
    have pa := qa.2.2
    simp only at pa
    have va : ((u64 a : Nat) : Int) = a := by simpa [mkI, rqs, uus, at', zR] using xa
    have qb : Rq.ok ⟨1, 0, 255, u64 b⟩ := hok _ (by simp [rqs])
    have pb := qb.2.2
    simp only at pb
    have vb : ((u64 b : Nat) : Int) = b := by simpa [mkI, rqs, uus, at', zR] using xb
    have qc : Rq.ok ⟨2, 0, 65535, u64 c⟩ := hok _ (by simp [rqs])
    have pc := qc.2.2
    simp only at pc
    have vc : ((u64 c : Nat) : Int) = c := by simpa [mkI, rqs, uus, at', zR] using xc
    have hs : (shpP ⟨6, a, b, c, u, l, ⟨bw, su, ho, an, al, no⟩⟩).same (.blank 0) = true := by
      apply (PIt.same_iff _ _).2
      simp [shpP, PIt.blank, hu, hl, Wnt.zero, w0, w1, w2, w3, w4, w5]
    unfold mayB
    rw [hs]
    simp [condB, ndB, smB]
    omega
  · subst e
    have ha : a = 0 := xa.symm.trans (by simp [mkI])
    have hb : b = 0 := xb.symm.trans (by simp [mkI])
    have hc : c = 0 := xc.symm.trans (by simp [mkI])
    have hu : u = 0 := xu.symm.trans (by simp [mkI])
    have hl : l = [] := xl.symm.trans (by simp [mkI])
    have hw : Wnt.mk bw su ho an al no = Wnt.zero := xw.symm.trans (by simp [mkI])
    injection hw with w0 w1 w2 w3 w4 w5
    have hs : (shpP ⟨8, a, b, c, u, l, ⟨bw, su, ho, an, al, no⟩⟩).same (.blank 0) = true := by
      apply (PIt.same_iff _ _).2
      simp [shpP, PIt.blank, ha, hb, hc, hu, hl, Wnt.zero, w0, w1, w2, w3, w4, w5]
    unfold mayB
    rw [hs]
    simp [condB]
  · subst e
    have ha : a = 0 := xa.symm.trans (by simp [mkI])
    have hb : b = 0 := xb.symm.trans (by simp [mkI])
    have hc : c = 0 := xc.symm.trans (by simp [mkI])
    have hl : l = [] := xl.symm.trans (by simp [mkI])
    have hw : Wnt.mk bw su ho an al no = Wnt.zero := xw.symm.trans (by simp [mkI])
    injection hw with w0 w1 w2 w3 w4 w5
    have hs : (shpP ⟨9, a, b, c, u, l, ⟨bw, su, ho, an, al, no⟩⟩).same (.blank 0) = true := by
      apply (PIt.same_iff _ _).2
      simp [shpP, PIt.blank, ha, hb, hc, hl, Wnt.zero, w0, w1, w2, w3, w4, w5]
    unfold mayB
    rw [hs]
    simp [condB]
  · subst e
    have hc : c = 0 := xc.symm.trans (by simp [mkI])
    have hu : u = 0 := xu.symm.trans (by simp [mkI])
    have hl : l = [] := xl.symm.trans (by simp [mkI])
    have hw : Wnt.mk bw su ho an al no = Wnt.zero := xw.symm.trans (by simp [mkI])
    injection hw with w0 w1 w2 w3 w4 w5
    have qa : Rq.ok ⟨1, 0, 15, u64 a⟩ := hok _ (by simp [rqs])
    have pa := qa.2.2
    simp only at pa
    have va : ((u64 a : Nat) : Int) = a := by simpa [mkI, rqs, uus, at', zR] using xa
    have qb : Rq.ok ⟨2, 0, 65535, u64 b⟩ := hok _ (by simp [rqs])
    have pb := qb.2.2
    simp only at pb
    have vb : ((u64 b : Nat) : Int) = b := by simpa [mkI, rqs, uus, at', zR] using xb
    have hs : (shpP ⟨10, a, b, c, u, l, ⟨bw, su, ho, an, al, no⟩⟩).same (.blank 0) = true := by
      apply (PIt.same_iff _ _).2
      simp [shpP, PIt.blank, hc, hu, hl, Wnt.zero, w0, w1, w2, w3, w4, w5]
    unfold mayB
    rw [hs]
    simp [condB, ndB, smB]
    omega
  · subst e
    have hc : c = 0 := xc.symm.trans (by simp [mkI])
    have hu : u = 0 := xu.symm.trans (by simp [mkI])
    have hl : l = [] := xl.symm.trans (by simp [mkI])
    have hw : Wnt.mk bw su ho an al no = Wnt.zero := xw.symm.trans (by simp [mkI])
    injection hw with w0 w1 w2 w3 w4 w5
    have qa : Rq.ok ⟨1, 0, 15, u64 a⟩ := hok _ (by simp [rqs])
    have pa := qa.2.2
    simp only at pa
    have va : ((u64 a : Nat) : Int) = a := by simpa [mkI, rqs, uus, at', zR] using xa
    have qb : Rq.ok ⟨2, 0, 65535, u64 b⟩ := hok _ (by simp [rqs])
    have pb := qb.2.2
    simp only at pb
    have vb : ((u64 b : Nat) : Int) = b := by simpa [mkI, rqs, uus, at', zR] using xb
    have hs : (shpP ⟨11, a, b, c, u, l, ⟨bw, su, ho, an, al, no⟩⟩).same (.blank 0) = true := by
      apply (PIt.same_iff _ _).2
      simp [shpP, PIt.blank, hc, hu, hl, Wnt.zero, w0, w1, w2, w3, w4, w5]
    unfold mayB
    rw [hs]
    simp [condB, ndB, smB]
    omega
  · subst e
    have ha : a = 0 := xa.symm.trans (by simp [mkI])
    have hb : b = 0 := xb.symm.trans (by simp [mkI])
    have hc : c = 0 := xc.symm.trans (by simp [mkI])
    have hl : l = [] := xl.symm.trans (by simp [mkI])
    have hw : Wnt.mk bw su ho an al no = Wnt.zero := xw.symm.trans (by simp [mkI])
    injection hw with w0 w1 w2 w3 w4 w5
    have hs : (shpP ⟨12, a, b, c, u, l, ⟨bw, su, ho, an, al, no⟩⟩).same (.blank 0) = true := by
      apply (PIt.same_iff _ _).2
      simp [shpP, PIt.blank, ha, hb, hc, hl, Wnt.zero, w0, w1, w2, w3, w4, w5]
    unfold mayB
    rw [hs]
    simp [condB]
  · subst e
    have hb : b = 0 := xb.symm.trans (by simp [mkI])
    have hc : c = 0 := xc.symm.trans (by simp [mkI])
    have hu : u = 0 := xu.symm.trans (by simp [mkI])
    have hl : l = [] := xl.symm.trans (by simp [mkI])
    have hw : Wnt.mk bw su ho an al no = Wnt.zero := xw.symm.trans (by simp [mkI])
    injection hw with w0 w1 w2 w3 w4 w5
    have qa : Rq.ok ⟨4, 0, 1048575, u64 a⟩ := hok _ (by simp [rqs])
    have pa := qa.2.2
    simp only at pa
    have va : ((u64 a : Nat) : Int) = a := by simpa [mkI, rqs, uus, at', zR] using xa
    have hs : (shpP ⟨16, a, b, c, u, l, ⟨bw, su, ho, an, al, no⟩⟩).same (.blank 0) = true := by
      apply (PIt.same_iff _ _).2
      simp [shpP, PIt.blank, hb, hc, hu, hl, Wnt.zero, w0, w1, w2, w3, w4, w5]
    unfold mayB
    rw [hs]
    simp [condB]
    omega
  · subst e
    have hb : b = 0 := xb.symm.trans (by simp [mkI])
    have hc : c = 0 := xc.symm.trans (by simp [mkI])
    have hu : u = 0 := xu.symm.trans (by simp [mkI])
    have hl : l = [] := xl.symm.trans (by simp [mkI])
    have hw : Wnt.mk bw su ho an al no = Wnt.zero := xw.symm.trans (by simp [mkI])
    injection hw with w0 w1 w2 w3 w4 w5
    have qa : Rq.ok ⟨2, 0, 65535, u64 a⟩ := hok _ (by simp [rqs])
    have pa := qa.2.2
    simp only at pa
    have va : ((u64 a : Nat) : Int) = a := by simpa [mkI, rqs, uus, at', zR] using xa
    have hs : (shpP ⟨19, a, b, c, u, l, ⟨bw, su, ho, an, al, no⟩⟩).same (.blank 0) = true := by
      apply (PIt.same_iff _ _).2
      simp [shpP, PIt.blank, hb, hc, hu, hl, Wnt.zero, w0, w1, w2, w3, w4, w5]
    unfold mayB
    rw [hs]
    simp [condB, smB]
    omega
  · subst e
    have ha : a = 0 := xa.symm.trans (by simp [mkI])
    have hb : b = 0 := xb.symm.trans (by simp [mkI])
    have hc : c = 0 := xc.symm.trans (by simp [mkI])
    have hu : u = 0 := xu.symm.trans (by simp [mkI])
    have hw : Wnt.mk bw su ho an al no = Wnt.zero := xw.symm.trans (by simp [mkI])
    injection hw with w0 w1 w2 w3 w4 w5
    have e1 : (front (min l.length 16) l).map (fun n => ((u64 n : Nat) : Int)) = l := by
      rw [← hop_us, ← rqs_list _ ⟨20, a, b, c, u, l, ⟨bw, su, ho, an, al, no⟩⟩ (.inl rfl)]
      simpa [mkI] using xl
    have e2 : min l.length 16 = l.length := by have := congrArg List.length e1; rw [List.length_map, front_length] at this; exact this
    rw [e2, front_all] at e1
    have hn : ndsB l = true := by
      simp only [ndsB, Bool.and_eq_true, decide_eq_true_eq, List.all_eq_true]
      refine ⟨by omega, fun n hn => ?_⟩
      have q : Rq.ok ⟨1, 0, 15, u64 n⟩ := hok _ (by
        rw [rqs_list _ ⟨20, a, b, c, u, l, ⟨bw, su, ho, an, al, no⟩⟩ (.inl rfl)]
        simp only [e2, front_all]
        exact List.mem_flatMap.2 ⟨n, hn, by simp [hopR]⟩)
      have p := q.2.2
      simp only at p
      have v : ((u64 n : Nat) : Int) = n := by
        have := List.map_eq_self_iff'.1 e1 n hn
        exact this
      simp [ndB]
      omega
    have hs : (shpP ⟨20, a, b, c, u, l, ⟨bw, su, ho, an, al, no⟩⟩).same (.blank 0) = true := by
      apply (PIt.same_iff _ _).2
      simp [shpP, PIt.blank, ha, hb, hc, hu, Wnt.zero, w0, w1, w2, w3, w4, w5]
    unfold mayB
    rw [hs]
    simp [condB, hn]
  · subst e
    have ha : a = 0 := xa.symm.trans (by simp [mkI])
    have hb : b = 0 := xb.symm.trans (by simp [mkI])
    have hc : c = 0 := xc.symm.trans (by simp [mkI])
    have hu : u = 0 := xu.symm.trans (by simp [mkI])
    have hw : Wnt.mk bw su ho an al no = Wnt.zero := xw.symm.trans (by simp [mkI])
    injection hw with w0 w1 w2 w3 w4 w5
    have e1 : (front (min l.length 16) l).map (fun n => ((u64 n : Nat) : Int)) = l := by
      rw [← hop_us, ← rqs_list _ ⟨21, a, b, c, u, l, ⟨bw, su, ho, an, al, no⟩⟩ (.inr rfl)]
      simpa [mkI] using xl
    have e2 : min l.length 16 = l.length := by have := congrArg List.length e1; rw [List.length_map, front_length] at this; exact this
    rw [e2, front_all] at e1
    have hn : ndsB l = true := by
      simp only [ndsB, Bool.and_eq_true, decide_eq_true_eq, List.all_eq_true]
      refine ⟨by omega, fun n hn => ?_⟩
      have q : Rq.ok ⟨1, 0, 15, u64 n⟩ := hok _ (by
        rw [rqs_list _ ⟨21, a, b, c, u, l, ⟨bw, su, ho, an, al, no⟩⟩ (.inr rfl)]
        simp only [e2, front_all]
        exact List.mem_flatMap.2 ⟨n, hn, by simp [hopR]⟩)
      have p := q.2.2
      simp only at p
      have v : ((u64 n : Nat) : Int) = n := by
        have := List.map_eq_self_iff'.1 e1 n hn
        exact this
      simp [ndB]
      omega
    have hs : (shpP ⟨21, a, b, c, u, l, ⟨bw, su, ho, an, al, no⟩⟩).same (.blank 0) = true := by
      apply (PIt.same_iff _ _).2
      simp [shpP, PIt.blank, ha, hb, hc, hu, Wnt.zero, w0, w1, w2, w3, w4, w5]
    unfold mayB
    rw [hs]
    simp [condB, hn]
  · subst e
    have ha : a = 0 := xa.symm.trans (by simp [mkI])
    have hb : b = 0 := xb.symm.trans (by simp [mkI])
    have hc : c = 0 := xc.symm.trans (by simp [mkI])
    have hl : l = [] := xl.symm.trans (by simp [mkI])
    have hw : Wnt.mk bw su ho an al no = Wnt.zero := xw.symm.trans (by simp [mkI])
    injection hw with w0 w1 w2 w3 w4 w5
    have qu : Rq.ok ⟨4, 0, 4294967295, u⟩ := hok _ (by simp [rqs])
    have pu := qu.2.2
    simp only at pu
    have hs : (shpP ⟨23, a, b, c, u, l, ⟨bw, su, ho, an, al, no⟩⟩).same (.blank 0) = true := by
      apply (PIt.same_iff _ _).2
      simp [shpP, PIt.blank, ha, hb, hc, hl, Wnt.zero, w0, w1, w2, w3, w4, w5]
    unfold mayB
    rw [hs]
    simp [condB]
    omega
  · subst e
    have ha : a = 0 := xa.symm.trans (by simp [mkI])
    have hb : b = 0 := xb.symm.trans (by simp [mkI])
    have hc : c = 0 := xc.symm.trans (by simp [mkI])
    have hu : u = 0 := xu.symm.trans (by simp [mkI])
    have hl : l = [] := xl.symm.trans (by simp [mkI])
    have w0 : bw = 0 := by have := congrArg Wnt.bw xw; simpa [mkI] using this.symm
    have qsu : Rq.ok ⟨1, 0, 7, u64 su⟩ := hok _ (by simp [rqs])
    have psu := qsu.2.2
    simp only at psu
    have vsu : ((u64 su : Nat) : Int) = su := by have := congrArg Wnt.setup xw; simpa [mkI, rqs, uus, at', zR] using this
    have qho : Rq.ok ⟨1, 0, 7, u64 ho⟩ := hok _ (by simp [rqs])
    have pho := qho.2.2
    simp only at pho
    have vho : ((u64 ho : Nat) : Int) = ho := by have := congrArg Wnt.hold xw; simpa [mkI, rqs, uus, at', zR] using this
    have hs : (shpP ⟨207, a, b, c, u, l, ⟨bw, su, ho, an, al, no⟩⟩).same (.blank 0) = true := by
      apply (PIt.same_iff _ _).2
      simp [shpP, PIt.blank, ha, hb, hc, hu, hl, Wnt.zero]
    unfold mayB
    rw [hs]
    simp [condB]
    omega
end Go.Proofs.Ytocogdcecnnnnaa
