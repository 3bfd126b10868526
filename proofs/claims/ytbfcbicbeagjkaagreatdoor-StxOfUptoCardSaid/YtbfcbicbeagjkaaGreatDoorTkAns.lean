/- answers of the law of token; ref.Same of leaves | The statements' own chars: a text's characters. -/
import Derived.Test.YtbfcbicbeagjkaaGreatDoorRdLight
import Derived.Test.YtbfcbicbeagjkaaGreatDoorRdMath
import Derived.Test.YtbfcbicbeagjkaaGreatDoorUOne
import Derived.Test.YtbfcbicbeagjkaaGreatDoorTkLit
namespace Go.Proofs.YtbfcbicbeagjkaaGreatDoor
open Go.RowKit

theorem bt_mk {bs : List Nat} (hby : By bs) (j : Nat) : bt (mkB bs) j = limb bs j := by rw [← bt_byt, byt_mk hby]
/-- A symbol's text is that symbol. -/
theorem atmA_symb {bs : List Nat} (hby : By bs) (h : symA bs = true) : atmA bs = some ⟨4, bs, false, []⟩ := by
  have hs := h
  unfold symA at hs
  simp only [Bool.and_eq_true, decide_eq_true_iff, Bool.not_eq_true'] at hs
  obtain ⟨⟨⟨⟨h1, _, _, h4⟩, h5⟩, _⟩, _⟩ := hs
  have hp : (parA (mkB bs)).2.2 = false := by
    cases hp : (parA (mkB bs)).2.2 with
    | false => rfl
    | true =>
      exfalso
      obtain ⟨k1, k2⟩ := parA_ok hp
      rw [mkB_size] at k1 k2
      unfold numeA at h5
      simp only [Bool.or_eq_false_iff, Bool.and_eq_false_iff] at h5
      unfold fromA at k1 k2
      rw [mkB_size] at k1 k2
      split at k1
      · rename_i hc
        rw [if_pos hc] at k2
        have d1 := k2 1 (by omega) k1
        rw [bt_mk hby] at d1
        have hsg := hc.2
        rw [bt_mk hby] at hsg
        rcases h5.2 with h6 | h6
        · unfold sgnN at h6; simp at h6; omega
        · unfold digN at h6; simp at h6; omega
      · rename_i hc
        rw [if_neg hc] at k2
        have d0 := k2 0 (by omega) k1
        rw [bt_mk hby] at d0
        have h6 := h5.1
        unfold digN at h6; simp at h6; omega
  have n1 : ¬ (bs = tTrue ∨ bs = tTrue') := by rintro (rfl | rfl) <;> exact h4 rfl
  have n2 : ¬ (bs = tFalse ∨ bs = tFalse') := by rintro (rfl | rfl) <;> exact h4 rfl
  unfold atmA
  rw [if_neg n1, if_neg n2, hp, if_neg (by simp), if_pos h]

end Go.Proofs.YtbfcbicbeagjkaaGreatDoor
namespace Go.Proofs.YtbfcbicbeagjkaaGreatDoor
open Go.RowKit

end Go.Proofs.YtbfcbicbeagjkaaGreatDoor
