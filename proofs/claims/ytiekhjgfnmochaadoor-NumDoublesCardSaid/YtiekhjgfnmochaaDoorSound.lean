/- num.Sound and ref.Sound -/
import Derived.Test.YtiekhjgfnmochaaDoorMade
namespace Go.Proofs.YtiekhjgfnmochaaDoor
open Go.RowKit

open Classical in
noncomputable def sndB (neg : Bool) (xs : List Nat) : Bool := decide (Snd neg xs)
theorem sndB_true {neg : Bool} {xs : List Nat} (h : Snd neg xs) : sndB neg xs = true := by unfold sndB; simp [h]
theorem sndB_false {neg : Bool} {xs : List Nat} (h : ¬ Snd neg xs) : sndB neg xs = false := by unfold sndB; simp [h]

theorem ret_bool {a b : Bool} (h : a = b) : Ending.returned (.bool a) = .returned (.bool b) := by rw [h]

set_option maxRecDepth 100000 in
set_option maxHeartbeats 1000000 in
theorem sound_any (neg : Bool) (sv : Value) (xs : List Nat) (w : World) (hs : Sl .u32 w sv xs) (hx : ∀ i, limb xs i < 4294967296) :
    Calls Tryd.prog 17 #[.agg #[.bool neg, sv]] w fun e w' => e = .returned (.bool (sndB neg xs)) ∧ Below w.heap.size w w' := by
  have HS := Lib.hid hs
  obtain ⟨hm, ao, cap, rfl, hcap, h⟩ := hs
  unfold maxLen at hm
  have HX := Lib.hid hx; clear hx
  have hb1 : Below w.heap.size w (w.alloc (.cells #[.bool neg, .slice ao xs.length cap] 24)) := (Below.refl _ w).alloc (Nat.le_refl _) _
  rcases (by omega : xs.length < 1 ∨ 64 < xs.length ∨ (1 ≤ xs.length ∧ xs.length ≤ 64)) with h0 | h64 | ⟨h1, h64⟩
  · clear h
    obtain rfl : xs = [] := List.eq_nil_of_length_eq_zero (by omega)
    have hv : sndB neg [] = !neg := by
      cases neg
      · exact sndB_true ⟨by simp, fun i => by rw [limb_out (by simp)]; omega, fun _ => rfl, fun h => absurd rfl h⟩
      · exact sndB_false fun h => by have := h.2.2.1 rfl; cases this
    have HV := Lib.hid hv; clear hv
    go_enter Tryd.func17, Tryd.ntmps17
    go_wp2
    go_ret
    exact ⟨ret_bool HV.out.symm, hb1⟩
  · clear h
    have HV := Lib.hid (sndB_false (neg := neg) (xs := xs) fun h => by have := h.1; omega)
    go_enter Tryd.func17, Tryd.ntmps17
    go_wp2
    go_ret
    exact ⟨ret_bool HV.out.symm, hb1⟩
  · rcases h with ⟨h, _⟩ | ⟨b, off, rfl, hb, hcell⟩
    · rw [h] at h1; simp at h1
    have htop := hcell (xs.length - 1) (by omega)
    have htop2 : (w.alloc (.cells #[.bool neg, .slice (some ⟨b, off, none⟩) xs.length cap] 24)).cell? ⟨b, off + (xs.length - 1), none⟩ = some (.int .u32 (limb xs (xs.length - 1) : Nat)) := by
      rw [hb1.cell (p := ⟨b, off + (xs.length - 1), none⟩) hb]; exact htop
    clear hcell htop
    rcases Nat.eq_zero_or_pos (limb xs (xs.length - 1)) with hz | hp
    · have hz1 : limb xs (xs.length - 1) ≤ 0 := by omega
      have HV := Lib.hid (sndB_false (neg := neg) (xs := xs) fun h => by have := h.2.2.2 (by intro e; rw [e] at h1; simp at h1); omega)
      have hzb : (((limb xs (xs.length - 1) : Nat) : Int) == 0) = true := by rw [hz]; rfl
      have hd : decide ((64 : Int) < (xs.length : Int)) = false := by simp; omega
      clear hz
      go_enter Tryd.func17, Tryd.ntmps17
      go_wp2
      go_ret
      exact ⟨ret_bool HV.out.symm, hb1⟩
    · have hzb : (((limb xs (xs.length - 1) : Nat) : Int) == 0) = false := by simp; omega
      have hd : decide ((64 : Int) < (xs.length : Int)) = false := by simp; omega
      go_enter Tryd.func17, Tryd.ntmps17
      go_wp2_with fail
      refine (look_any _ _ _ _).mono ?_
      rintro e w' ⟨rfl, rfl⟩
      have hcA : ((w.alloc (.cells #[.bool neg, .slice (some ⟨b, off, none⟩) xs.length cap] 24)).alloc (.cells #[.slice (some ⟨b, off, none⟩) xs.length cap] 22)).cell? ⟨w.heap.size + 1, 0, none⟩ = some (.slice (some ⟨b, off, none⟩) xs.length cap) := by simp
      have hb2 := hb1.alloc (by simp) (.cells #[.slice (some ⟨b, off, none⟩) xs.length cap] 22)
      clear htop2 hb1
      generalize ((w.alloc (.cells #[.bool neg, .slice (some ⟨b, off, none⟩) xs.length cap] 24)).alloc (.cells #[.slice (some ⟨b, off, none⟩) xs.length cap] 22)) = w1 at *
      go_wp2_with fail
      go_loop [29] (fun i => ∃ k : Nat, k ≤ xs.length ∧ i = .int .i64 k ∧ ∀ j, j < k → limb xs j < 1000000000) (fun i => xs.length - (intOf i).toNat)
      case atStart => exact ⟨0, by omega, rfl, fun j hj => by omega⟩
      case round =>
        obtain ⟨k, hk, rfl, hall⟩ := hrel
        have HL := Lib.hid hall; clear hall
        by_cases hkl : k < xs.length
        · have hxk := HX.out k
          go_wp2_with fail
          refine (look1_any (w.heap.size + 1) k _ xs w1 (by omega) hcA (HS.out.below hb2) HX.out).mono ?_
          rintro e w' ⟨rfl, rfl⟩
          rcases Nat.lt_or_ge (limb xs k) 1000000000 with hlt | hge
          · have hd2 : decide ((1000000000 : Int) ≤ ((limb xs k : Nat) : Int)) = false := by rw [decide_eq_false_iff_not]; omega
            have HT := Lib.hid hlt; clear hlt
            go_wp2
            go_round
            case rel => exact ⟨k + 1, by omega, by first | rfl | go_num, fun j hj => by
              by_cases e : j = k
              · subst e; exact HT.out
              · exact HL.out j (by omega)⟩
            case measure => simp only [intOf]; omega
          · have HV := Lib.hid (sndB_false (neg := neg) (xs := xs) fun h => by have := h.2.1 k; omega)
            have hd2 : decide ((1000000000 : Int) ≤ ((limb xs k : Nat) : Int)) = true := by rw [decide_eq_true_iff]; omega
            clear hge
            go_wp2
            go_ret
            exact ⟨ret_bool HV.out.symm, hb2⟩
        · have HV := Lib.hid (sndB_true (neg := neg) (xs := xs) ⟨h64, fun i => by
              by_cases e : i < xs.length
              · exact HL.out i (by omega)
              · rw [limb_out (by omega)]; omega, fun e => by rw [e] at h1; simp at h1, fun _ => by omega⟩)
          go_wp2
          go_ret
          exact ⟨ret_bool HV.out.symm, hb2⟩

end Go.Proofs.YtiekhjgfnmochaaDoor
