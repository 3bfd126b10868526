/- Characters of parts of bytes, and of bytes of characters. No walk here. -/
import Derived.Test.YtkocmjmmflphnaaGreatDoorUOne
namespace Go.Proofs.YtkocmjmmflphnaaGreatDoor
open Go.RowKit

theorem decodeN_local {n n' b0 b1 b2 b3 c1 c2 c3 : Nat} (hg : badB (Lib.decodeN n b0 b1 b2 b3) = false) (hn : (Lib.decodeN n b0 b1 b2 b3).2 ≤ n')
    (h1 : 2 ≤ (Lib.decodeN n b0 b1 b2 b3).2 → c1 = b1) (h2 : 3 ≤ (Lib.decodeN n b0 b1 b2 b3).2 → c2 = b2) (h3 : 4 ≤ (Lib.decodeN n b0 b1 b2 b3).2 → c3 = b3) :
    Lib.decodeN n' b0 c1 c2 c3 = Lib.decodeN n b0 b1 b2 b3 := by
  rw [badB_false] at hg
  by_cases a0 : b0 < 128
  · unfold Lib.decodeN; rw [if_pos a0, if_pos a0]
  by_cases a1 : b0 / 32 = 6 ∧ (1 < n ∧ b1 / 64 = 2)
  · have e : Lib.decodeN n b0 b1 b2 b3 = if b0 % 32 * 64 + b1 % 64 ≥ 128 then (b0 % 32 * 64 + b1 % 64, 2) else (65533, 1) := by
      unfold Lib.decodeN; rw [if_neg a0, if_pos a1]
    rw [e] at hg hn h1 ⊢
    by_cases hc : b0 % 32 * 64 + b1 % 64 ≥ 128
    · rw [if_pos hc] at hn h1 ⊢
      have := h1 (Nat.le_refl _)
      subst this
      simp only [] at hn
      unfold Lib.decodeN; rw [if_neg a0, if_pos ⟨a1.1, by omega, a1.2.2⟩, if_pos hc]
    · rw [if_neg hc] at hg; exact absurd ⟨rfl, by decide⟩ hg
  by_cases a2 : b0 / 16 = 14 ∧ (1 < n ∧ b1 / 64 = 2) ∧ (2 < n ∧ b2 / 64 = 2)
  · have e : Lib.decodeN n b0 b1 b2 b3 = if b0 % 16 * 4096 + b1 % 64 * 64 + b2 % 64 ≥ 2048 ∧ (b0 % 16 * 4096 + b1 % 64 * 64 + b2 % 64 < 55296 ∨ (57344 ≤ b0 % 16 * 4096 + b1 % 64 * 64 + b2 % 64 ∧ b0 % 16 * 4096 + b1 % 64 * 64 + b2 % 64 ≤ 1114111)) then (b0 % 16 * 4096 + b1 % 64 * 64 + b2 % 64, 3) else (65533, 1) := by
      unfold Lib.decodeN; rw [if_neg a0, if_neg a1, if_pos a2]
    rw [e] at hg hn h1 h2 ⊢
    by_cases hc : b0 % 16 * 4096 + b1 % 64 * 64 + b2 % 64 ≥ 2048 ∧ (b0 % 16 * 4096 + b1 % 64 * 64 + b2 % 64 < 55296 ∨ (57344 ≤ b0 % 16 * 4096 + b1 % 64 * 64 + b2 % 64 ∧ b0 % 16 * 4096 + b1 % 64 * 64 + b2 % 64 ≤ 1114111))
    · rw [if_pos hc] at hn h1 h2 ⊢
      have q1 := h1 (by simp)
      have q2 := h2 (by simp)
      subst q1; subst q2
      simp only [] at hn
      unfold Lib.decodeN
      rw [if_neg a0, if_neg (by omega), if_pos ⟨a2.1, ⟨by omega, a2.2.1.2⟩, by omega, a2.2.2.2⟩, if_pos hc]
    · rw [if_neg hc] at hg; exact absurd ⟨rfl, by decide⟩ hg
  by_cases a3 : b0 / 8 = 30 ∧ (1 < n ∧ b1 / 64 = 2) ∧ (2 < n ∧ b2 / 64 = 2) ∧ (3 < n ∧ b3 / 64 = 2)
  · have e : Lib.decodeN n b0 b1 b2 b3 = if b0 % 8 * 262144 + b1 % 64 * 4096 + b2 % 64 * 64 + b3 % 64 ≥ 65536 ∧ (b0 % 8 * 262144 + b1 % 64 * 4096 + b2 % 64 * 64 + b3 % 64 < 55296 ∨ (57344 ≤ b0 % 8 * 262144 + b1 % 64 * 4096 + b2 % 64 * 64 + b3 % 64 ∧ b0 % 8 * 262144 + b1 % 64 * 4096 + b2 % 64 * 64 + b3 % 64 ≤ 1114111)) then (b0 % 8 * 262144 + b1 % 64 * 4096 + b2 % 64 * 64 + b3 % 64, 4) else (65533, 1) := by
      unfold Lib.decodeN; rw [if_neg a0, if_neg a1, if_neg a2, if_pos a3]
    rw [e] at hg hn h1 h2 h3 ⊢
    by_cases hc : b0 % 8 * 262144 + b1 % 64 * 4096 + b2 % 64 * 64 + b3 % 64 ≥ 65536 ∧ (b0 % 8 * 262144 + b1 % 64 * 4096 + b2 % 64 * 64 + b3 % 64 < 55296 ∨ (57344 ≤ b0 % 8 * 262144 + b1 % 64 * 4096 + b2 % 64 * 64 + b3 % 64 ∧ b0 % 8 * 262144 + b1 % 64 * 4096 + b2 % 64 * 64 + b3 % 64 ≤ 1114111))
    · rw [if_pos hc] at hn h1 h2 h3 ⊢
      have q1 := h1 (by simp)
      have q2 := h2 (by simp)
      have q3 := h3 (by simp)
      subst q1; subst q2; subst q3
      simp only [] at hn
      unfold Lib.decodeN
      rw [if_neg a0, if_neg (by omega), if_neg (by omega), if_pos ⟨a3.1, ⟨by omega, a3.2.1.2⟩, ⟨by omega, a3.2.2.1.2⟩, by omega, a3.2.2.2.2⟩, if_pos hc]
    · rw [if_neg hc] at hg; exact absurd ⟨rfl, by decide⟩ hg
  · exfalso
    apply hg
    unfold Lib.decodeN
    rw [if_neg a0, if_neg a1, if_neg a2, if_neg a3]
    exact ⟨rfl, by decide⟩

/-- Other bytes that begin alike have the same character there. -/
theorem dc_local {bs cs : List Nat} {i j : Nat} (hg : badB (dc bs i) = false) (hl : j + (dc bs i).2 ≤ cs.length) (h : ∀ t, t < (dc bs i).2 → limb cs (j + t) = limb bs (i + t)) : dc cs j = dc bs i := by
  have hz := dc_size bs i
  have e0 := h 0 (by omega)
  simp only [Nat.add_zero] at e0
  have key := decodeN_local (n' := cs.length - j) (c1 := limb cs (j + 1)) (c2 := limb cs (j + 2)) (c3 := limb cs (j + 3)) hg (by unfold dc at hl hz; omega) (fun hh => h 1 hh) (fun hh => h 2 hh) (fun hh => h 3 hh)
  unfold dc
  rw [e0]
  exact key

theorem limb_takeU (xs : List Nat) (n i : Nat) : limb (xs.take n) i = if i < n then limb xs i else 0 := by
  unfold limb
  simp only [List.getD_eq_getElem?_getD, List.getElem?_take]
  split <;> rfl
theorem By.take {bs : List Nat} (h : By bs) (n : Nat) : By (bs.take n) := fun i => by
  rw [limb_takeU]; split
  · exact h i
  · omega
theorem limb_app (a b : List Nat) (i : Nat) : limb (a ++ b) i = if i < a.length then limb a i else limb b (i - a.length) := by
  unfold limb
  simp only [List.getD_eq_getElem?_getD, List.getElem?_append]
  split <;> rfl
theorem By.app {a b : List Nat} (ha : By a) (hb : By b) : By (a ++ b) := fun i => by
  rw [limb_app]; split
  · exact ha i
  · exact hb _

/-- Where no character begins. -/
theorem chars_some {bs : List Nat} {k : Nat} : ∀ (m i : Nat), bs.length - i ≤ m → (chars bs i).2 = some k → i ≤ k ∧ k < bs.length ∧ badB (dc bs k) = true := by
  intro m
  induction m with
  | zero =>
    intro i hi h
    rw [chars_end (by omega)] at h
    cases h
  | succ m ih =>
    intro i hi h
    by_cases hlt : i < bs.length
    · cases hb : badB (dc bs i)
      · rw [chars_step hlt hb] at h
        have hz := dc_size bs i
        obtain ⟨h1, h2, h3⟩ := ih (i + (dc bs i).2) (by omega) h
        exact ⟨by omega, h2, h3⟩
      · rw [chars_bad hlt hb] at h
        simp at h
        subst h
        exact ⟨Nat.le_refl _, hlt, hb⟩
    · rw [chars_end (by omega)] at h
      cases h
/-- What stands ahead of that place is characters. -/
theorem chars_take {bs : List Nat} {k : Nat} : ∀ (m i : Nat), bs.length - i ≤ m → (chars bs i).2 = some k → chars (bs.take k) i = ((chars bs i).1, none) := by
  intro m
  induction m with
  | zero =>
    intro i hi h
    rw [chars_end (by omega)] at h
    cases h
  | succ m ih =>
    intro i hi h
    obtain ⟨h1, h2, h3⟩ := chars_some _ i hi h
    have hl : (bs.take k).length = k := by simp; omega
    by_cases hik : i = k
    · subst hik
      rw [chars_end (by omega), chars_bad h2 h3]
    · cases hb : badB (dc bs i)
      · have hz := dc_size bs i
        have hst := chars_step (by omega : i < bs.length) hb
        rw [hst] at h
        obtain ⟨g1, g2, g3⟩ := chars_some m (i + (dc bs i).2) (by omega) h
        have hd : dc (bs.take k) i = dc bs i := dc_local hb (by omega) fun t ht => by rw [limb_takeU, if_pos (by omega)]
        have hs2 := chars_step (bs := bs.take k) (i := i) (by omega) (by rw [hd]; exact hb)
        rw [hd, ih (i + (dc bs i).2) (by omega) h] at hs2
        rw [hs2, hst]
      · rw [chars_bad (by omega) hb] at h
        simp at h
        exact absurd h hik

theorem dc_shift (a b : List Nat) (j : Nat) : dc (a ++ b) (a.length + j) = dc b j := by
  have hq : ∀ t, limb (a ++ b) (a.length + j + t) = limb b (j + t) := fun t => by
    rw [limb_app, if_neg (by omega)]
    congr 1
    omega
  have hq0 := hq 0
  simp only [Nat.add_zero] at hq0
  unfold dc
  rw [hq0, hq 1, hq 2, hq 3]
  congr 1
  simp
  omega
theorem chars_shift (a b : List Nat) : ∀ (m j : Nat), b.length - j ≤ m → chars (a ++ b) (a.length + j) = ((chars b j).1, (chars b j).2.map (fun k => a.length + k)) := by
  intro m
  induction m with
  | zero =>
    intro j hj
    rw [chars_end (by simp; omega), chars_end (by omega)]
    rfl
  | succ m ih =>
    intro j hj
    by_cases hlt : j < b.length
    · have hd := dc_shift a b j
      cases hb : badB (dc b j)
      · have hz := dc_size b j
        rw [chars_step (by simp; omega) (by rw [hd]; exact hb), chars_step hlt hb, hd, Nat.add_assoc, ih _ (by omega)]
      · rw [chars_bad (by simp; omega) (by rw [hd]; exact hb), chars_bad hlt hb]
        rfl
    · rw [chars_end (by simp; omega), chars_end (by omega)]
      rfl
/-- Two texts, one behind the other, if the first is characters. -/
theorem chars_app {a : List Nat} (b : List Nat) : ∀ (m i : Nat) (cs : List Nat), a.length - i ≤ m → i ≤ a.length → chars a i = (cs, none) → chars (a ++ b) i = (cs ++ (chars b 0).1, (chars b 0).2.map (fun k => a.length + k)) := by
  intro m
  induction m with
  | zero =>
    intro i cs hi hl h
    obtain rfl : i = a.length := by omega
    rw [chars_end (Nat.le_refl _)] at h
    simp only [Prod.mk.injEq, and_true] at h
    subst h
    have := chars_shift a b _ 0 (Nat.le_refl _)
    simpa using this
  | succ m ih =>
    intro i cs hi hl h
    by_cases hlt : i < a.length
    · cases hb : badB (dc a i)
      · have hz := dc_size a i
        have hin := dc_in hlt
        rw [chars_step hlt hb] at h
        simp only [Prod.mk.injEq] at h
        obtain ⟨h1, h2⟩ := h
        have hd : dc (a ++ b) i = dc a i := dc_local hb (by simp; omega) fun t ht => by rw [limb_app, if_pos (by omega)]
        have hrec := ih (i + (dc a i).2) (chars a (i + (dc a i).2)).1 (by omega) hin (by rw [← h2])
        rw [chars_step (by simp; omega) (by rw [hd]; exact hb), hd, hrec, ← h1]
        rfl
      · rw [chars_bad hlt hb] at h
        simp at h
    · obtain rfl : i = a.length := by omega
      rw [chars_end (Nat.le_refl _)] at h
      simp only [Prod.mk.injEq, and_true] at h
      subst h
      have := chars_shift a b _ 0 (Nat.le_refl _)
      simpa using this
end Go.Proofs.YtkocmjmmflphnaaGreatDoor
