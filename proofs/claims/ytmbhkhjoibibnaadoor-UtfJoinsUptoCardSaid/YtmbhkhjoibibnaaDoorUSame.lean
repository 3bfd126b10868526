/- ref.SameInts -/
import Derived.Test.YtmbhkhjoibibnaaDoorUDec
import Derived.Deep.QuietTactic
import Derived.BigQuiet
namespace Go.Proofs.YtmbhkhjoibibnaaDoor
open Go.RowKit

def sameL (xs ys : List Nat) : Bool := decide (xs = ys)
theorem sameL_true {xs ys : List Nat} (h : xs = ys) : sameL xs ys = true := by unfold sameL; simp [h]
theorem sameL_false {xs ys : List Nat} (h : xs ≠ ys) : sameL xs ys = false := by unfold sameL; exact decide_eq_false h
theorem list_eq {xs ys : List Nat} (hl : xs.length = ys.length) (h : ∀ i, i < xs.length → limb xs i = limb ys i) : xs = ys := by
  apply List.ext_getElem hl
  intro i h1 h2
  have := h i h1
  rwa [limb_lt h1, limb_lt h2] at this
theorem below_drewN' {B : Nat} {w w1 : World} (h : Below B w w1) (n : Nat) : Below B w (w1.drewN n) := by
  induction n with
  | zero => exact h
  | succ n ih => exact ih.drew

set_option maxRecDepth 100000 in
set_option maxHeartbeats 1000000 in
theorem sameints_any (s1 s2 : Value) (xs ys : List Nat) (w : World) (hs1 : Sl .i64 w s1 xs) (hs2 : Sl .i64 w s2 ys) :
    Calls Tryd.prog 12 #[s1, s2] w fun e w' => e = .returned (.bool (sameL xs ys)) ∧ Below w.heap.size w w' := by
  obtain ⟨hm1, ao1, cap1, rfl, hcap1, h1⟩ := hs1
  obtain ⟨hm2, ao2, cap2, rfl, hcap2, h2⟩ := hs2
  unfold maxLen at hm1 hm2
  by_cases hl : xs.length = ys.length
  · have hlb : ((xs.length : Int) != (ys.length : Int)) = false := by rw [hl]; simp
    have hle1 : xs.length ≤ ys.length := by omega
    have hle2 : ys.length ≤ xs.length := by omega
    have HE := Lib.hid hl; clear hl
    rcases Nat.eq_zero_or_pos xs.length with h0 | hp
    · have h0' : xs.length ≤ 0 := by omega
      clear h0
      have HV := Lib.hid (sameL_true (list_eq HE.out fun i hi => by omega))
      clear h1 h2
      go_enter Tryd.func12, Tryd.ntmps12
      go_wp2
      refine wp_loop_rounds 1 ?_
      rw [rounds_succ]
      go_wp2
      go_ret
      exact ⟨ret_bool HV.out.symm, Below.refl _ _⟩
    · rcases h1 with ⟨h, _⟩ | ⟨b1, o1, rfl, hlt1, hc1⟩
      · rw [h] at hp; exact absurd hp (by simp)
      rcases h2 with ⟨h, _⟩ | ⟨b2, o2, rfl, hlt2, hc2⟩
      · rw [h] at hle1; exact absurd hle1 (by rw [List.length_nil]; omega)
      have HC1 := Lib.hid hc1
      have HC2 := Lib.hid hc2
      clear hc1 hc2
      go_enter Tryd.func12, Tryd.ntmps12
      go_wp2
      go_loopw [5] (fun i wr => ∃ k q : Nat, k ≤ xs.length ∧ i = .int .i64 k ∧ wr = w.drewN q ∧ ∀ j, j < k → limb xs j = limb ys j) (fun i _ => xs.length - (intOf i).toNat)
      case atStart => exact ⟨0, 0, by omega, rfl, rfl, fun j hj => by omega⟩
      case round =>
        obtain ⟨k, q, hk, rfl, rfl, hall⟩ := hrel
        have HL := Lib.hid hall; clear hall
        by_cases hkl : k < xs.length
        · have c1 := HC1.out k hkl
          have c2 := HC2.out k (by omega)
          by_cases he : limb xs k = limb ys k
          · have hd : (((limb xs k : Nat) : Int) != ((limb ys k : Nat) : Int)) = false := by rw [he]; simp
            have HQ := Lib.hid he; clear he
            go_wp2
            go_quiet (fail)
            go_wp2
            go_roundw
            case rel => exact ⟨k + 1, _, by omega, by go_num, rfl, fun j hj => by
              by_cases e : j = k
              · subst e; exact HQ.out
              · exact HL.out j (by omega)⟩
            case measure => simp only [intOf]; omega
          · have hd : (((limb xs k : Nat) : Int) != ((limb ys k : Nat) : Int)) = true := by rw [bne_iff_ne]; omega
            have HV := Lib.hid (sameL_false (xs := xs) (ys := ys) fun h => he (by rw [h]))
            clear he
            go_wp2
            go_quiet (fail)
            go_wp2
            go_ret
            exact ⟨ret_bool HV.out.symm, below_drewN' (below_drewN' (Below.refl _ _) _) _⟩
        · have HV := Lib.hid (sameL_true (list_eq HE.out fun i hi => HL.out i (by omega)))
          go_wp2
          go_ret
          exact ⟨ret_bool HV.out.symm, below_drewN' (Below.refl _ _) _⟩
  · have hlb : ((xs.length : Int) != (ys.length : Int)) = true := by rw [bne_iff_ne]; omega
    have HV := Lib.hid (sameL_false (xs := xs) (ys := ys) fun h => hl (by rw [h]))
    clear h1 h2 hl
    go_enter Tryd.func12, Tryd.ntmps12
    go_wp2
    go_ret
    exact ⟨ret_bool HV.out.symm, Below.refl _ _⟩
end Go.Proofs.YtmbhkhjoibibnaaDoor
