/- Small facts on decoding, and what a law comes to. No walk here. -/
import Derived.Test.YtkocmjmmflphnaaGreatDoorUDec
import Derived.Test.YtkocmjmmflphnaaGreatDoorApp
import Derived.Test.YtkocmjmmflphnaaGreatDoorUMath2
namespace Go.Proofs.YtkocmjmmflphnaaGreatDoor
open Go.RowKit

/-- An empty row of one's own. -/
theorem owns_empty (w : World) (e : TypeId) : (w.alloc (.cells #[] e)).ownsRow w.heap.size e 1 (.slice (some ⟨w.heap.size, 0, none⟩) 0 0) 0 [] := by
  have := World.ownsRow_made (base := w.heap.size) (e := e) (size := 1) w #[] 0 (by simp) (by simp) (by simp)
  simpa using this
theorem grown_own {w w1 : World} {v : Value} {base n : Nat} {e : TypeId} {ys : List Value} (hg : w.grownBy w1 v.ownBlock) (ho : w.ownsRow base e 1 v n ys) {B : Nat} {w0 : World} (hb : Below B w0 w) (hB : B ≤ base) (hs : B ≤ w.heap.size) : Below B w0 w1 :=
  hb.grown hg hs fun k hk => Nat.le_trans hB (ho.lt k hk).1

theorem decA_four {bs : List Nat} {cs : List Nat} {k e : Nat} (h : decA bs = (cs, k, e)) (he : e = 4) : k < bs.length ∧ bs.length ≤ 65536 ∧ cs = [] ∧ ∃ ds, chars (bs.take k) 0 = (ds, none) := by
  unfold decA at h
  split at h
  · simp only [Prod.mk.injEq] at h; omega
  · split at h
    · simp only [Prod.mk.injEq] at h; omega
    · rename_i ds m hm
      simp only [Prod.mk.injEq] at h
      obtain ⟨h1, rfl, _⟩ := h
      have h2 : (chars bs 0).2 = some m := by rw [hm]
      obtain ⟨_, h3, _⟩ := chars_some _ 0 (Nat.le_refl _) h2
      exact ⟨h3, by omega, h1.symm, _, chars_take _ 0 (Nat.le_refl _) h2⟩
theorem decA_not {bs : List Nat} {cs : List Nat} {k e : Nat} (h : decA bs = (cs, k, e)) (he : e ≠ 4) : k = 0 := by
  unfold decA at h
  split at h
  · simp only [Prod.mk.injEq] at h; omega
  · split at h
    · simp only [Prod.mk.injEq] at h; omega
    · simp only [Prod.mk.injEq] at h; omega
theorem decA_e {bs : List Nat} {cs : List Nat} {k e : Nat} (h : decA bs = (cs, k, e)) : e ≤ 6 := by
  unfold decA at h
  split at h
  · simp only [Prod.mk.injEq] at h; omega
  · split at h
    · simp only [Prod.mk.injEq] at h; omega
    · simp only [Prod.mk.injEq] at h; omega
theorem Sl.cut {k : IntKind} {w : World} {b off cap n : Nat} {xs : List Nat} (h : Sl k w (.slice (some ⟨b, off, none⟩) xs.length cap) xs) (hn : n ≤ xs.length) (cap' : Nat) (hc : n ≤ cap') : Sl k w (.slice (some ⟨b, off, none⟩) n cap') (xs.take n) := by
  obtain ⟨hm, ao, c, hv, _, h⟩ := h
  simp only [Value.slice.injEq, true_and] at hv
  obtain ⟨rfl, rfl⟩ := hv
  have e : (xs.take n).length = n := by simp; omega
  refine ⟨by omega, _, _, by rw [e], by omega, ?_⟩
  rcases h with ⟨rfl, hz⟩ | ⟨b', off', he, hb, hcell⟩
  · exact .inl ⟨by simp, fun h => by cases h⟩
  · refine .inr ⟨b', off', he, hb, fun j hj => ?_⟩
    rw [hcell j (by omega)]
    simp [limb, show j < n by omega]

/-- What a law comes to. -/
def TruePost (w : World) (e : Ending) (w' : World) : Prop := e = .returned (.bool true) ∧ Below w.heap.size w w'
end Go.Proofs.YtkocmjmmflphnaaGreatDoor
