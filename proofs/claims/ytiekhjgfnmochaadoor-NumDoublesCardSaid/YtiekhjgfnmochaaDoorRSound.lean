/- ref.Sound -/
import Derived.Test.YtiekhjgfnmochaaDoorSound
namespace Go.Proofs.YtiekhjgfnmochaaDoor
open Go.RowKit

set_option maxRecDepth 100000 in
set_option maxHeartbeats 1000000 in
theorem rsound_any (neg : Bool) (sv : Value) (xs : List Nat) (w : World) (hs : Sl .u32 w sv xs) (hx : ∀ i, limb xs i < 4294967296) :
    Calls Tryd.prog 18 #[.agg #[.bool neg, sv]] w fun e w' => e = .returned (.bool (sndB neg xs)) ∧ Below w.heap.size w w' := by
  obtain ⟨hm, ao, cap, rfl, hcap, h⟩ := hs
  unfold maxLen at hm
  have HX := Lib.hid hx; clear hx
  have hb1 : Below w.heap.size w (w.alloc (.cells #[.bool neg, .slice ao xs.length cap] 24)) := (Below.refl _ w).alloc (Nat.le_refl _) _
  rcases (by omega : xs.length < 1 ∨ 64 < xs.length ∨ (1 ≤ xs.length ∧ xs.length ≤ 64)) with h0 | h64 | ⟨h1, h64⟩
  · clear h
    obtain rfl : xs = [] := List.eq_nil_of_length_eq_zero (by omega)
    have hv : sndB neg [] = !neg := by
      cases neg
      · exact sndB_true ⟨by simp, fun i => by rw [limb_out (by simp)]; omega, fun _ => rfl, fun h => absurd rfl h⟩
      · exact sndB_false fun h => by have := h.2.2.1 rfl; cases this
    have HV := Lib.hid hv; clear hv
    cases neg
    · go_enter Tryd.func18, Tryd.ntmps18
      go_wp2
      refine wp_loop_rounds 1 ?_
      rw [rounds_succ]
      go_wp2
      go_ret
      exact ⟨ret_bool HV.out.symm, hb1⟩
    · go_enter Tryd.func18, Tryd.ntmps18
      go_wp2
      go_ret
      exact ⟨ret_bool HV.out.symm, hb1⟩
  · clear h
    have HV := Lib.hid (sndB_false (neg := neg) (xs := xs) fun h => by have := h.1; omega)
    have hd : decide ((64 : Int) < (xs.length : Int)) = true := by simp; omega
    go_enter Tryd.func18, Tryd.ntmps18
    go_wp2
    go_ret
    exact ⟨ret_bool HV.out.symm, hb1⟩
  · rcases h with ⟨h, _⟩ | ⟨b, off, rfl, hb, hcell⟩
    · rw [h] at h1; simp at h1
    have HC : Hid (∀ j, j < xs.length → (w.alloc (.cells #[.bool neg, .slice (some ⟨b, off, none⟩) xs.length cap] 24)).cell? ⟨b, off + j, none⟩ = some (.int .u32 (limb xs j : Nat))) := Lib.hid fun j hj => by
      rw [hb1.cell (p := ⟨b, off + j, none⟩) hb]; exact hcell j hj
    clear hcell
    have hd : decide ((64 : Int) < (xs.length : Int)) = false := by simp; omega
    have hd0 : ((xs.length : Int) == 0) = false := by rw [beq_eq_false_iff_ne]; omega
    go_enter Tryd.func18, Tryd.ntmps18
    go_wp2
    go_loop [4] (fun i => ∃ k : Nat, k ≤ xs.length ∧ i = .int .i64 k ∧ ∀ j, j < k → limb xs j < 1000000000) (fun i => xs.length - (intOf i).toNat)
    case atStart => exact ⟨0, by omega, rfl, fun j hj => by omega⟩
    case round =>
      obtain ⟨k, hk, rfl, hall⟩ := hrel
      have HL := Lib.hid hall; clear hall
      by_cases hkl : k < xs.length
      · have hxk := HX.out k
        have hck := HC.out k hkl
        rcases Nat.lt_or_ge (limb xs k) 1000000000 with hlt | hge
        · have hd2 : decide ((1000000000 : Int) ≤ ((limb xs k : Nat) : Int)) = false := by rw [decide_eq_false_iff_not]; omega
          have HT := Lib.hid hlt; clear hlt
          go_wp2
          go_round
          case rel => exact ⟨k + 1, by omega, by first | rfl | go_num, fun j hj => by
            by_cases e : j = k
            · subst e; exact HT.out
            · exact HL.out j (by omega)⟩
          case measure => simp only [intOf]; omega
        · have HV := Lib.hid (sndB_false (neg := neg) (xs := xs) fun h => by have := h.2.1 k; omega)
          have hd2 : decide ((1000000000 : Int) ≤ ((limb xs k : Nat) : Int)) = true := by rw [decide_eq_true_iff]; omega
          clear hge
          go_wp2
          go_ret
          exact ⟨ret_bool HV.out.symm, hb1⟩
      · have hall : Lb xs := fun i => by
          by_cases e : i < xs.length
          · exact HL.out i (by omega)
          · rw [limb_out (by omega)]; omega
        have hct := HC.out (xs.length - 1) (by omega)
        rcases Nat.eq_zero_or_pos (limb xs (xs.length - 1)) with hz | hp
        · have hzb : (((limb xs (xs.length - 1) : Nat) : Int) != 0) = false := by rw [hz]; rfl
          have HV := Lib.hid (sndB_false (neg := neg) (xs := xs) fun h => by have := h.2.2.2 (by intro e; rw [e] at h1; simp at h1); omega)
          clear hz hall
          go_wp2
          go_ret
          exact ⟨ret_bool HV.out.symm, hb1⟩
        · have hzb : (((limb xs (xs.length - 1) : Nat) : Int) != 0) = true := by simp; omega
          have HV := Lib.hid (sndB_true (neg := neg) (xs := xs) ⟨h64, hall, fun e => by rw [e] at h1; simp at h1, fun _ => by omega⟩)
          clear hall
          go_wp2
          go_ret
          exact ⟨ret_bool HV.out.symm, hb1⟩

end Go.Proofs.YtiekhjgfnmochaaDoor
