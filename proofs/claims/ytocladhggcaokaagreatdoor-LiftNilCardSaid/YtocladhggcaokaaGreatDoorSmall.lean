/- num.Small, ref.Small; num.Text of any number -/
import Derived.Test.YtocladhggcaokaaGreatDoorBuild
import Derived.Test.YtocladhggcaokaaGreatDoorRTrim
import Derived.Test.YtocladhggcaokaaGreatDoorAns
import Derived.Test.YtocladhggcaokaaGreatDoorRSound
namespace Go.Proofs.YtocladhggcaokaaGreatDoor
open Go.RowKit

/-- The most that an int may be, of a sign. -/
def most (neg : Bool) : Nat := if neg then 9223372036854775808 else 9223372036854775807
theorem most_lo (neg : Bool) : 9000000000000000000 ≤ most neg := by unfold most; split <;> omega
theorem most_hi (neg : Bool) : most neg ≤ 9223372036854775808 := by unfold most; split <;> omega
/-- What Small answers. -/
def SmallPost (neg : Bool) (xs : List Nat) (w : World) (e : Ending) (w' : World) : Prop :=
  ∃ k ok, e = .returned (.tuple #[.int .i64 k, .bool ok]) ∧ Below w.heap.size w w' ∧ ((ok = true ∧ Snd neg xs ∧ val xs ≤ most neg ∧ k = ival neg xs) ∨ (ok = false ∧ k = 0 ∧ ¬ (Snd neg xs ∧ val xs ≤ most neg)))
theorem small_unique {neg : Bool} {xs : List Nat} {k1 k2 : Int} {o1 o2 : Bool}
    (h1 : (o1 = true ∧ Snd neg xs ∧ val xs ≤ most neg ∧ k1 = ival neg xs) ∨ (o1 = false ∧ k1 = 0 ∧ ¬ (Snd neg xs ∧ val xs ≤ most neg)))
    (h2 : (o2 = true ∧ Snd neg xs ∧ val xs ≤ most neg ∧ k2 = ival neg xs) ∨ (o2 = false ∧ k2 = 0 ∧ ¬ (Snd neg xs ∧ val xs ≤ most neg))) : k1 = k2 ∧ o1 = o2 := by
  rcases h1 with ⟨rfl, a, b, rfl⟩ | ⟨rfl, rfl, a⟩
  · rcases h2 with ⟨rfl, _, _, rfl⟩ | ⟨_, _, c⟩
    · exact ⟨rfl, rfl⟩
    · exact absurd ⟨a, b⟩ c
  · rcases h2 with ⟨_, b, c, _⟩ | ⟨rfl, rfl, _⟩
    · exact absurd ⟨b, c⟩ a
    · exact ⟨rfl, rfl⟩
theorem back_neg (S : Nat) (h : S ≤ 9223372036854775808) : IntKind.i64.wrap (IntKind.u64.wrap (-(S : Int))) = -(S : Int) := by
  rw [IntKind.wrap_u64, IntKind.wrap_i64]; omega
theorem back_pos (S : Nat) (h : S ≤ 9223372036854775807) : IntKind.i64.wrap (S : Int) = (S : Int) := by
  rw [IntKind.wrap_i64]; omega
theorem Hi_mono {rs : List Nat} : ∀ k, k ≤ rs.length → Hi rs k ≤ Hi rs 0 := by
  intro k
  induction k with
  | zero => intro _; exact Nat.le_refl _
  | succ k ih =>
    intro h
    have h1 := ih (by omega)
    have h2 := Hi_step (show k < rs.length by omega)
    omega
theorem Hi_end (rs : List Nat) : Hi rs rs.length = 0 := by unfold Hi; simp [V]

set_option maxRecDepth 100000 in
set_option maxHeartbeats 2000000 in
theorem small_any (neg : Bool) (sv : Value) (xs : List Nat) (w : World) (hs : Sl .u32 w sv xs) (hx : ∀ i, limb xs i < 4294967296) :
    Calls Tryz.prog 147 #[.agg #[.bool neg, sv]] w (SmallPost neg xs w) := by
  have HS := Lib.hid hs
  obtain ⟨q1, ao, cap, rfl, hcap, q2⟩ := hs
  clear q1 q2
  have HX := Lib.hid hx; clear hx
  have hb1 := below1 w (.cells #[.bool neg, .slice ao xs.length cap] 24)
  have hg0 : (w.alloc (.cells #[.bool neg, .slice ao xs.length cap] 24)).heap[w.heap.size]? = some (.cells #[.bool neg, .slice ao xs.length cap] 24 (0, 0)) := heap_alloc_new w _
  by_cases g : Snd neg xs
  · have G := Lib.hid g; clear g
    have L1 := Lib.hid G.out.2.1
    have hl1 : xs.length ≤ 64 := G.out.1
    cases neg
    · go_enter Tryz.func147, Tryz.ntmps147
      go_wp2_with fail
      refine (sound_any _ _ xs _ (HS.out.below hb1) HX.out).mono ?_
      rintro e w1 ⟨rfl, hb2⟩
      rw [sndB_true G.out]
      have hg1 := (hb2.block w.heap.size (by simp)).trans hg0
      have hbw : Below w.heap.size w w1 := hb1.trans (hb2.mono (by simp))
      have hz1' : w.heap.size < w1.heap.size := by have := hb2.size; simp at this; omega
      clear hb2
      have c0 := cell_heap hg1 0
      have c1 := cell_heap hg1 1
      go_wp2_with fail
      refine (look_any _ _ _ _).mono ?_
      rintro e w' ⟨rfl, rfl⟩
      have hcA : (w1.alloc (.cells #[.slice ao xs.length cap] 22)).cell? ⟨w1.heap.size, 0, none⟩ = some (.slice ao xs.length cap) := by simp
      have hb3 : Below w.heap.size w (w1.alloc (.cells #[.slice ao xs.length cap] 22)) := hbw.alloc hbw.size _
      have d0 : (w1.alloc (.cells #[.slice ao xs.length cap] 22)).cell? ⟨w.heap.size, 0, none⟩ = some (.bool false) := by rw [(below1 w1 _).cell (p := ⟨w.heap.size, 0, none⟩) hz1', c0]; rfl
      have d1 : (w1.alloc (.cells #[.slice ao xs.length cap] 22)).cell? ⟨w.heap.size, 1, none⟩ = some (.slice ao xs.length cap) := by rw [(below1 w1 _).cell (p := ⟨w.heap.size, 1, none⟩) hz1', c1]; rfl
      clear hb1 hbw c0 c1 hg1 hg0 hz1'
      obtain ⟨g1, hg1⟩ : ∃ g1, g1 = w1.heap.size := ⟨_, rfl⟩
      rw [← hg1] at hcA ⊢
      clear hg1
      generalize (w1.alloc (.cells #[.slice ao xs.length cap] 22)) = w2 at *
      obtain ⟨M, hM⟩ : ∃ M : Nat, M = most false := ⟨_, rfl⟩
      have hM1 : (9223372036854775807 : Int) = (M : Int) := by rw [hM]; rfl
      rw [hM1]
      have hMlo := most_lo false
      have hMhi := most_hi false
      rw [← hM] at hMlo hMhi
      have HMH := Lib.hid hMhi
      have HM := Lib.hid hM
      clear hM hM1 hMhi
      go_wp2_with fail
      go_loop [6, 7] (fun s i => ∃ k S : Nat, k ≤ xs.length ∧ i = .int .i64 ((k : Int) - 1) ∧ s = .int .u64 (S : Nat) ∧ S = Hi xs k ∧ S ≤ M) (fun _ i => (intOf i + 1).toNat)
      case atStart => exact ⟨xs.length, 0, Nat.le_refl _, rfl, rfl, (Hi_end xs).symm, by omega⟩
      case round =>
        obtain ⟨k, S, hk, rfl, rfl, hS, hSM⟩ := hrel
        have HH := Lib.hid hS; clear hS
        rcases k with _ | k
        · have hv : S = val xs := HH.out.trans (Hi_zero xs)
          have HV := Lib.hid hv; clear hv
          have HSM := Lib.hid hSM; clear hSM
          have hbk := back_pos S (by have := HM.out; unfold most at this; have := HSM.out; simp at *; omega)
          go_wp2
          go_ret2
          exact ⟨S, true, rfl, hb3, .inl ⟨rfl, G.out, by rw [← HM.out, ← HV.out]; exact HSM.out, by unfold ival; rw [← HV.out]; rfl⟩⟩
        · have hlk := L1.out k
          obtain ⟨L, hL⟩ : ∃ L, L = limb xs k := ⟨_, rfl⟩
          rw [← hL] at hlk
          have HL := Lib.hid hL; clear hL
          go_wp2_with fail
          refine (look1_any g1 k _ xs w2 (by omega) hcA (HS.out.below hb3) HX.out).mono ?_
          rintro e w' ⟨rfl, rfl⟩
          rw [← HL.out]
          have e1 : IntKind.u64.wrap ((M : Int) - (L : Int)) = (M : Int) - (L : Int) := IntWalk.u64_in _ (by have := HMH.out; omega)
          have e0 : 0 ≤ (M : Int) - (L : Int) := by omega
          have e4 : IntKind.u64.wrap (((M : Int) - (L : Int)).tdiv 1000000000) = ((M : Int) - (L : Int)) / 1000000000 := by
            rw [Int.tdiv_eq_ediv_of_nonneg e0]
            exact IntWalk.u64_in _ (by have := HMH.out; omega)
          by_cases ht : (M - L) / 1000000000 < S
          · have hd : decide (((M : Int) - (L : Int)) / 1000000000 < (S : Int)) = true := by rw [decide_eq_true_iff]; omega
            have HT := Lib.hid ht; clear ht
            go_wp2
            go_ret2
            exact ⟨0, false, rfl, hb3, .inr ⟨rfl, rfl, fun h => by
              have h1 := h.2
              rw [← HM.out, ← Hi_zero] at h1
              have h2 := Hi_mono (rs := xs) k (by omega)
              have h3 := Hi_step (show k < xs.length by omega)
              rw [← HH.out, ← HL.out] at h3
              have := HT.out
              omega⟩⟩
          · have hd : decide (((M : Int) - (L : Int)) / 1000000000 < (S : Int)) = false := by rw [decide_eq_false_iff_not]; omega
            have hnew : L + 1000000000 * S ≤ M := by omega
            have HT := Lib.hid hnew
            have e2 : IntKind.u64.wrap ((S : Int) * 1000000000) = (S : Int) * 1000000000 := IntWalk.u64_in _ (by have := HMH.out; omega)
            have e3 : IntKind.u64.wrap ((S : Int) * 1000000000 + (L : Int)) = (S : Int) * 1000000000 + (L : Int) := IntWalk.u64_in _ (by have := HMH.out; omega)
            clear ht hnew
            go_wp2_with fail
            refine (look1_any g1 k _ xs w2 (by omega) hcA (HS.out.below hb3) HX.out).mono ?_
            rintro e w' ⟨rfl, rfl⟩
            rw [← HL.out]
            go_wp2
            go_round
            case rel => exact ⟨k, L + 1000000000 * S, by omega, by go_num, by go_num, by rw [Hi_step (show k < xs.length by omega), ← HH.out, ← HL.out], HT.out⟩
            case measure => simp only [intOf]; omega
    · go_enter Tryz.func147, Tryz.ntmps147
      go_wp2_with fail
      refine (sound_any _ _ xs _ (HS.out.below hb1) HX.out).mono ?_
      rintro e w1 ⟨rfl, hb2⟩
      rw [sndB_true G.out]
      have hg1 := (hb2.block w.heap.size (by simp)).trans hg0
      have hbw : Below w.heap.size w w1 := hb1.trans (hb2.mono (by simp))
      have hz1' : w.heap.size < w1.heap.size := by have := hb2.size; simp at this; omega
      clear hb2
      have c0 := cell_heap hg1 0
      have c1 := cell_heap hg1 1
      go_wp2_with fail
      refine (look_any _ _ _ _).mono ?_
      rintro e w' ⟨rfl, rfl⟩
      have hcA : (w1.alloc (.cells #[.slice ao xs.length cap] 22)).cell? ⟨w1.heap.size, 0, none⟩ = some (.slice ao xs.length cap) := by simp
      have hb3 : Below w.heap.size w (w1.alloc (.cells #[.slice ao xs.length cap] 22)) := hbw.alloc hbw.size _
      have d0 : (w1.alloc (.cells #[.slice ao xs.length cap] 22)).cell? ⟨w.heap.size, 0, none⟩ = some (.bool true) := by rw [(below1 w1 _).cell (p := ⟨w.heap.size, 0, none⟩) hz1', c0]; rfl
      have d1 : (w1.alloc (.cells #[.slice ao xs.length cap] 22)).cell? ⟨w.heap.size, 1, none⟩ = some (.slice ao xs.length cap) := by rw [(below1 w1 _).cell (p := ⟨w.heap.size, 1, none⟩) hz1', c1]; rfl
      clear hb1 hbw c0 c1 hg1 hg0 hz1'
      obtain ⟨g1, hg1⟩ : ∃ g1, g1 = w1.heap.size := ⟨_, rfl⟩
      rw [← hg1] at hcA ⊢
      clear hg1
      generalize (w1.alloc (.cells #[.slice ao xs.length cap] 22)) = w2 at *
      obtain ⟨M, hM⟩ : ∃ M : Nat, M = most true := ⟨_, rfl⟩
      have hM1 : (9223372036854775808 : Int) = (M : Int) := by rw [hM]; rfl
      rw [hM1]
      have hMlo := most_lo true
      have hMhi := most_hi true
      rw [← hM] at hMlo hMhi
      have HMH := Lib.hid hMhi
      have HM := Lib.hid hM
      clear hM hM1 hMhi
      go_wp2_with fail
      go_loop [6, 7] (fun s i => ∃ k S : Nat, k ≤ xs.length ∧ i = .int .i64 ((k : Int) - 1) ∧ s = .int .u64 (S : Nat) ∧ S = Hi xs k ∧ S ≤ M) (fun _ i => (intOf i + 1).toNat)
      case atStart => exact ⟨xs.length, 0, Nat.le_refl _, rfl, rfl, (Hi_end xs).symm, by omega⟩
      case round =>
        obtain ⟨k, S, hk, rfl, rfl, hS, hSM⟩ := hrel
        have HH := Lib.hid hS; clear hS
        rcases k with _ | k
        · have hv : S = val xs := HH.out.trans (Hi_zero xs)
          have HV := Lib.hid hv; clear hv
          have HSM := Lib.hid hSM; clear hSM
          have hbk := back_neg S (by have := HMH.out; have := HSM.out; omega)
          go_wp2
          go_ret2
          exact ⟨-(S : Int), true, rfl, hb3, .inl ⟨rfl, G.out, by rw [← HM.out, ← HV.out]; exact HSM.out, by unfold ival; rw [← HV.out]; rfl⟩⟩
        · have hlk := L1.out k
          obtain ⟨L, hL⟩ : ∃ L, L = limb xs k := ⟨_, rfl⟩
          rw [← hL] at hlk
          have HL := Lib.hid hL; clear hL
          go_wp2_with fail
          refine (look1_any g1 k _ xs w2 (by omega) hcA (HS.out.below hb3) HX.out).mono ?_
          rintro e w' ⟨rfl, rfl⟩
          rw [← HL.out]
          have e1 : IntKind.u64.wrap ((M : Int) - (L : Int)) = (M : Int) - (L : Int) := IntWalk.u64_in _ (by have := HMH.out; omega)
          have e0 : 0 ≤ (M : Int) - (L : Int) := by omega
          have e4 : IntKind.u64.wrap (((M : Int) - (L : Int)).tdiv 1000000000) = ((M : Int) - (L : Int)) / 1000000000 := by
            rw [Int.tdiv_eq_ediv_of_nonneg e0]
            exact IntWalk.u64_in _ (by have := HMH.out; omega)
          by_cases ht : (M - L) / 1000000000 < S
          · have hd : decide (((M : Int) - (L : Int)) / 1000000000 < (S : Int)) = true := by rw [decide_eq_true_iff]; omega
            have HT := Lib.hid ht; clear ht
            go_wp2
            go_ret2
            exact ⟨0, false, rfl, hb3, .inr ⟨rfl, rfl, fun h => by
              have h1 := h.2
              rw [← HM.out, ← Hi_zero] at h1
              have h2 := Hi_mono (rs := xs) k (by omega)
              have h3 := Hi_step (show k < xs.length by omega)
              rw [← HH.out, ← HL.out] at h3
              have := HT.out
              omega⟩⟩
          · have hd : decide (((M : Int) - (L : Int)) / 1000000000 < (S : Int)) = false := by rw [decide_eq_false_iff_not]; omega
            have hnew : L + 1000000000 * S ≤ M := by omega
            have HT := Lib.hid hnew
            have e2 : IntKind.u64.wrap ((S : Int) * 1000000000) = (S : Int) * 1000000000 := IntWalk.u64_in _ (by have := HMH.out; omega)
            have e3 : IntKind.u64.wrap ((S : Int) * 1000000000 + (L : Int)) = (S : Int) * 1000000000 + (L : Int) := IntWalk.u64_in _ (by have := HMH.out; omega)
            clear ht hnew
            go_wp2_with fail
            refine (look1_any g1 k _ xs w2 (by omega) hcA (HS.out.below hb3) HX.out).mono ?_
            rintro e w' ⟨rfl, rfl⟩
            rw [← HL.out]
            go_wp2
            go_round
            case rel => exact ⟨k, L + 1000000000 * S, by omega, by go_num, by go_num, by rw [Hi_step (show k < xs.length by omega), ← HH.out, ← HL.out], HT.out⟩
            case measure => simp only [intOf]; omega
  · have G := Lib.hid g; clear g
    go_enter Tryz.func147, Tryz.ntmps147
    go_wp2_with fail
    refine (sound_any neg _ xs _ (HS.out.below hb1) HX.out).mono ?_
    rintro e w1 ⟨rfl, hb2⟩
    rw [sndB_false G.out]
    go_wp2
    go_ret2
    exact ⟨0, false, rfl, hb1.trans (hb2.mono (by simp)), .inr ⟨rfl, rfl, fun h => G.out h.1⟩⟩
end Go.Proofs.YtocladhggcaokaaGreatDoor
