/-
  What an item that is packed must be like: its numbers fit. No condition.
-/
import Derived.Test.YthmgpffpiggomaaBodyGI
namespace Go.Proofs.Ythmgpffpiggomaa
open Go.RowKit

theorem pack_fine8 {x : PIt} {o : Int × Int × List UInt8} (h : pack x = some o) : x.u < 18446744073709551616 ∧ x.w.any < 4294967296 ∧ x.w.all < 4294967296 ∧ x.w.non < 4294967296 := by
  obtain ⟨hk, ho, hx, _⟩ := pack_some.1 h
  have hu := congrArg PIt.u hx
  have hw := congrArg PIt.w hx
  rcases knd_cases hk with e | e | e | e | e | e | e | e | e | e | e | e | e | e | e
  · have hu' : x.u = 0 := by rw [← hu]; simp [mkI, e]
    have hw' : x.w = Wnt.zero := by rw [← hw]; simp [mkI, e]
    rw [hu', hw']
    exact ⟨by omega, by simp [Wnt.zero], by simp [Wnt.zero], by simp [Wnt.zero]⟩
  · have hu' : x.u = 0 := by rw [← hu]; simp [mkI, e]
    have hw' : x.w = Wnt.zero := by rw [← hw]; simp [mkI, e]
    rw [hu', hw']
    exact ⟨by omega, by simp [Wnt.zero], by simp [Wnt.zero], by simp [Wnt.zero]⟩
  · have q : Rq.ok ⟨4, 0, 4294967295, x.u⟩ := ho _ (by simp [rqs, e])
    have q2 := q.2.2
    simp only at q2
    have hw' : x.w = Wnt.zero := by rw [← hw]; simp [mkI, e]
    rw [hw']
    exact ⟨by omega, by simp [Wnt.zero], by simp [Wnt.zero], by simp [Wnt.zero]⟩
  · have hu' : x.u = 0 := by rw [← hu]; simp [mkI, e]
    have hw' : x.w = Wnt.zero := by rw [← hw]; simp [mkI, e]
    rw [hu', hw']
    exact ⟨by omega, by simp [Wnt.zero], by simp [Wnt.zero], by simp [Wnt.zero]⟩
  · have hu' : x.u = 0 := by rw [← hu]; simp [mkI, e]
    have hw' : x.w = Wnt.zero := by rw [← hw]; simp [mkI, e]
    rw [hu', hw']
    exact ⟨by omega, by simp [Wnt.zero], by simp [Wnt.zero], by simp [Wnt.zero]⟩
  · have q : Rq.ok ⟨8, 0, 18446744073709551615, x.u⟩ := ho _ (by simp [rqs, e])
    have q2 := q.2.2
    simp only at q2
    have hw' : x.w = Wnt.zero := by rw [← hw]; simp [mkI, e]
    rw [hw']
    exact ⟨by omega, by simp [Wnt.zero], by simp [Wnt.zero], by simp [Wnt.zero]⟩
  · have hu' : x.u = 0 := by rw [← hu]; simp [mkI, e]
    have hw' : x.w = Wnt.zero := by rw [← hw]; simp [mkI, e]
    rw [hu', hw']
    exact ⟨by omega, by simp [Wnt.zero], by simp [Wnt.zero], by simp [Wnt.zero]⟩
  · have hu' : x.u = 0 := by rw [← hu]; simp [mkI, e]
    have hw' : x.w = Wnt.zero := by rw [← hw]; simp [mkI, e]
    rw [hu', hw']
    exact ⟨by omega, by simp [Wnt.zero], by simp [Wnt.zero], by simp [Wnt.zero]⟩
  · have q : Rq.ok ⟨8, 0, 18446744073709551615, x.u⟩ := ho _ (by simp [rqs, e])
    have q2 := q.2.2
    simp only at q2
    have hw' : x.w = Wnt.zero := by rw [← hw]; simp [mkI, e]
    rw [hw']
    exact ⟨by omega, by simp [Wnt.zero], by simp [Wnt.zero], by simp [Wnt.zero]⟩
  · have hu' : x.u = 0 := by rw [← hu]; simp [mkI, e]
    have hw' : x.w = Wnt.zero := by rw [← hw]; simp [mkI, e]
    rw [hu', hw']
    exact ⟨by omega, by simp [Wnt.zero], by simp [Wnt.zero], by simp [Wnt.zero]⟩
  · have hu' : x.u = 0 := by rw [← hu]; simp [mkI, e]
    have hw' : x.w = Wnt.zero := by rw [← hw]; simp [mkI, e]
    rw [hu', hw']
    exact ⟨by omega, by simp [Wnt.zero], by simp [Wnt.zero], by simp [Wnt.zero]⟩
  · have hu' : x.u = 0 := by rw [← hu]; simp [mkI, e]
    have hw' : x.w = Wnt.zero := by rw [← hw]; simp [mkI, e]
    rw [hu', hw']
    exact ⟨by omega, by simp [Wnt.zero], by simp [Wnt.zero], by simp [Wnt.zero]⟩
  · have hu' : x.u = 0 := by rw [← hu]; simp [mkI, e]
    have hw' : x.w = Wnt.zero := by rw [← hw]; simp [mkI, e]
    rw [hu', hw']
    exact ⟨by omega, by simp [Wnt.zero], by simp [Wnt.zero], by simp [Wnt.zero]⟩
  · have q : Rq.ok ⟨4, 0, 4294967295, x.u⟩ := ho _ (by simp [rqs, e])
    have q2 := q.2.2
    simp only at q2
    have hw' : x.w = Wnt.zero := by rw [← hw]; simp [mkI, e]
    rw [hw']
    exact ⟨by omega, by simp [Wnt.zero], by simp [Wnt.zero], by simp [Wnt.zero]⟩
  · have q0 : Rq.ok ⟨4, 0, 4294967295, x.w.any⟩ := ho _ (by simp [rqs, e])
    have p0 := q0.2.2
    have q1 : Rq.ok ⟨4, 0, 4294967295, x.w.all⟩ := ho _ (by simp [rqs, e])
    have p1 := q1.2.2
    have q2 : Rq.ok ⟨4, 0, 4294967295, x.w.non⟩ := ho _ (by simp [rqs, e])
    have p2 := q2.2.2
    simp only at p0 p1 p2
    have hu' : x.u = 0 := by rw [← hu]; simp [mkI, e]
    exact ⟨by omega, by omega, by omega, by omega⟩
theorem fine_back8 {w : World} {B : Nat} {y : It} {o : Int × Int × List UInt8} (hp : pack y.val = some o) (hn : y.ln = y.l.length) (ha : AccI w B y.la y.lc y.l) : Fine w w.heap.size y := by
  obtain ⟨h1, h2, h3, h4⟩ := pack_fine8 hp
  refine ⟨by rw [hn]; exact AccR.row ha, ?_, h1, h2, h3, h4⟩
  have := AccR.cap ha
  omega
end Go.Proofs.Ythmgpffpiggomaa
