/- ref.Small -/
import Derived.Test.YtommakdomnaclaaDoorSmall
namespace Go.Proofs.YtommakdomnaclaaDoor
open Go.RowKit

theorem D_shift (f : Nat → Nat) (n : Nat) : D f (n + 1) = f 0 + 10 * D (fun i => f (i + 1)) n := by
  induction n with
  | zero => simp [D]
  | succ n ih =>
    have e : D f (n + 1 + 1) = D f (n + 1) + f (n + 1) * 10 ^ (n + 1) := rfl
    rw [e, ih]
    simp only [D]
    rw [Nat.pow_succ, Nat.mul_add]
    have : f (n + 1) * (10 ^ n * 10) = 10 * (f (n + 1) * 10 ^ n) := by rw [← Nat.mul_assoc, Nat.mul_comm]
    omega
/-- The number of the digits from the i-th on. -/
def Dh (ds : List Nat) (i : Nat) : Nat := D (fun j => limb ds (i + j)) (ds.length - i)
theorem Dh_zero (ds : List Nat) : Dh ds 0 = dval ds := by unfold Dh dval; simp
theorem Dh_step {ds : List Nat} {i : Nat} (h : i < ds.length) : Dh ds i = limb ds i + 10 * Dh ds (i + 1) := by
  obtain ⟨m, hm⟩ : ∃ m, ds.length - i = m + 1 := ⟨ds.length - i - 1, by omega⟩
  have hm2 : ds.length - (i + 1) = m := by omega
  unfold Dh
  rw [hm, hm2, D_shift]
  have e : (fun j => limb ds (i + (j + 1))) = fun j => limb ds (i + 1 + j) := by
    funext j; congr 1; omega
  rw [e]
  rfl
theorem Dh_end (ds : List Nat) : Dh ds ds.length = 0 := by unfold Dh; simp [D]
theorem Dh_lt {ds : List Nat} (h : Db ds) (hl : ds.length ≤ 19) (i : Nat) : Dh ds i < 10000000000000000000 := by
  have h1 : Dh ds i < 10 ^ (ds.length - i) := D_lt (fun j => h (i + j)) _
  have h2 : 10 ^ (ds.length - i) ≤ 10 ^ 19 := Nat.pow_le_pow_right (by omega) (by omega)
  have h3 : 10 ^ 19 = 10000000000000000000 := by decide
  rw [h3] at h2
  exact Nat.lt_of_lt_of_le h1 h2
theorem twenty {ds : List Nat} (ht : Top ds) (hl : 19 < ds.length) : 10000000000000000000 ≤ dval ds := by
  have h1 := ht.le (by intro e; rw [e] at hl; simp at hl)
  have h2 : 10 ^ 19 ≤ 10 ^ (ds.length - 1) := Nat.pow_le_pow_right (by omega) (by omega)
  have h3 : 10 ^ 19 = 10000000000000000000 := by decide
  rw [h3] at h2
  exact Nat.le_trans h2 h1

set_option maxRecDepth 100000 in
set_option maxHeartbeats 2000000 in
theorem rsmall_any (neg : Bool) (sv : Value) (xs : List Nat) (w : World) (hs : Sl .u32 w sv xs) (hx : ∀ i, limb xs i < 4294967296) :
    Calls Tryd.prog 16 #[.agg #[.bool neg, sv]] w (SmallPost neg xs w) := by
  have HS := Lib.hid hs
  obtain ⟨q1, ao, cap, rfl, hcap, q2⟩ := hs
  clear q1 q2
  have HX := Lib.hid hx; clear hx
  have hb1 := below1 w (.cells #[.bool neg, .slice ao xs.length cap] 24)
  have hg0 : (w.alloc (.cells #[.bool neg, .slice ao xs.length cap] 24)).heap[w.heap.size]? = some (.cells #[.bool neg, .slice ao xs.length cap] 24 (0, 0)) := heap_alloc_new w _
  by_cases g : Snd neg xs
  · have G := Lib.hid g; clear g
    have L1 := Lib.hid G.out.2.1
    have K1 := Lib.hid G.out.1
    have hl1 : xs.length < 1000000 := by have := G.out.1; omega
    go_enter Tryd.func16, Tryd.ntmps16
    go_wp2_with fail
    refine (rsound_any _ _ xs _ (HS.out.below hb1) HX.out).mono ?_
    rintro e w1 ⟨rfl, hb2⟩
    rw [sndB_true G.out]
    have hg1 := (hb2.block w.heap.size (by simp)).trans hg0
    have hbw : Below w.heap.size w w1 := hb1.trans (hb2.mono (by simp))
    have hz1' : w.heap.size < w1.heap.size := by have := hb2.size; simp at this; omega
    clear hb1 hb2 hg0
    have c0 := cell_heap hg1 0
    have c1 := cell_heap hg1 1
    go_wp2_with fail
    refine (digits_any neg _ xs _ (HS.out.below hbw) L1.out hl1).mono ?_
    rintro e w2 ⟨va, ds, rfl, hsa, hda, hta, hva, hb⟩
    have hg2 := (hb.block w.heap.size hz1').trans hg1
    replace hbw := hbw.trans (hb.mono hbw.size)
    clear hb hg1 c0 c1 hz1'
    have c0 := cell_heap hg2 0
    have HSA := Lib.hid hsa
    obtain ⟨q1, ao2, cap2, rfl, q2, q3⟩ := hsa
    have hdl := dig_len' L1.out K1.out hda hta hva
    have HDA := Lib.hid hda
    have HTA := Lib.hid hta
    have HVA := Lib.hid hva
    clear hda hta hva q1 q2 q3
    rcases (by omega : 19 < ds.length ∨ ds.length ≤ 19) with hlong | hle
    · have hd : decide ((19 : Int) < (ds.length : Int)) = true := by simp; omega
      have HL := Lib.hid (twenty HTA.out hlong)
      clear hlong
      go_wp2
      go_ret2
      exact ⟨0, false, rfl, hbw, .inr ⟨rfl, rfl, fun h => by
        have h1 := h.2
        have h2 := most_hi neg
        have h3 := HL.out
        rw [HVA.out] at h3
        omega⟩⟩
    · have hd : decide ((19 : Int) < (ds.length : Int)) = false := by simp; omega
      go_wp2_with fail
      go_loop [5, 6] (fun u i => ∃ k U : Nat, k ≤ ds.length ∧ i = .int .i64 ((k : Int) - 1) ∧ u = .int .u64 (U : Nat) ∧ U = Dh ds k) (fun _ i => (intOf i + 1).toNat)
      case atStart => exact ⟨ds.length, 0, Nat.le_refl _, rfl, rfl, (Dh_end ds).symm⟩
      case round =>
        obtain ⟨k, U, hk, rfl, rfl, hU⟩ := hrel
        have HH := Lib.hid hU; clear hU
        rcases k with _ | k
        · have hv : U = val xs := HH.out.trans ((Dh_zero ds).trans HVA.out)
          have HV := Lib.hid hv; clear hv
          have hUlt : U < 10000000000000000000 := by rw [HH.out]; exact Dh_lt HDA.out hle 0
          cases neg
          · by_cases hM : U ≤ 9223372036854775807
            · have hbk := back_pos U hM
              have HM := Lib.hid hM
              have hd2 : decide ((9223372036854775807 : Int) < (U : Int)) = false := by rw [decide_eq_false_iff_not]; omega
              clear hM hUlt
              go_wp2
              go_ret2
              exact ⟨U, true, rfl, hbw, .inl ⟨rfl, G.out, by rw [← HV.out]; exact HM.out, by unfold ival; rw [← HV.out]; rfl⟩⟩
            · have HM := Lib.hid hM
              have hd2 : decide ((9223372036854775807 : Int) < (U : Int)) = true := by rw [decide_eq_true_iff]; omega
              clear hM hUlt
              go_wp2
              go_ret2
              exact ⟨0, false, rfl, hbw, .inr ⟨rfl, rfl, fun h => HM.out (by rw [HV.out]; exact h.2)⟩⟩
          · by_cases hM : U ≤ 9223372036854775808
            · have hbk := back_neg U hM
              have HM := Lib.hid hM
              have hd2 : decide ((9223372036854775808 : Int) < (U : Int)) = false := by rw [decide_eq_false_iff_not]; omega
              clear hM hUlt
              go_wp2
              go_ret2
              exact ⟨-(U : Int), true, rfl, hbw, .inl ⟨rfl, G.out, by rw [← HV.out]; exact HM.out, by unfold ival; rw [← HV.out]; rfl⟩⟩
            · have HM := Lib.hid hM
              have hd2 : decide ((9223372036854775808 : Int) < (U : Int)) = true := by rw [decide_eq_true_iff]; omega
              clear hM hUlt
              go_wp2
              go_ret2
              exact ⟨0, false, rfl, hbw, .inr ⟨rfl, rfl, fun h => HM.out (by rw [HV.out]; exact h.2)⟩⟩
        · have hdk := HDA.out k
          have HST := Lib.hid (Dh_step (ds := ds) (i := k) (by omega))
          have hnew := Dh_lt HDA.out hle k
          rw [HST.out, ← HH.out] at hnew
          obtain ⟨b2, o2, hao, hlt2, hc2⟩ := sl_at HSA.out (show k < ds.length by omega)
          subst hao
          have e2 : IntKind.u64.wrap ((U : Int) * 10) = (U : Int) * 10 := IntWalk.u64_in _ (by omega)
          have e3 : IntKind.u64.wrap ((U : Int) * 10 + (limb ds k : Nat)) = (U : Int) * 10 + (limb ds k : Nat) := IntWalk.u64_in _ (by omega)
          clear hnew
          go_wp2
          go_round
          case rel => exact ⟨k, limb ds k + 10 * U, by omega, by go_num, by go_num, by rw [HST.out, ← HH.out]⟩
          case measure => simp only [intOf]; omega
  · have G := Lib.hid g; clear g
    go_enter Tryd.func16, Tryd.ntmps16
    go_wp2_with fail
    refine (rsound_any neg _ xs _ (HS.out.below hb1) HX.out).mono ?_
    rintro e w1 ⟨rfl, hb2⟩
    rw [sndB_false G.out]
    go_wp2
    go_ret2
    exact ⟨0, false, rfl, hb1.trans (hb2.mono (by simp)), .inr ⟨rfl, rfl, fun h => G.out h.1⟩⟩
end Go.Proofs.YtommakdomnaclaaDoor
