/- ref.Sound | ref.Same | answers of the law of token; ref.Same of leaves | The statements' own chars: a text's characters. -/
import Derived.Test.YtpahfhjgcflifaaGreatDoorLook
import Derived.Deep.QuietTactic
import Derived.BigQuiet
import Derived.Test.YtpahfhjgcflifaaGreatDoorTkRows
import Derived.Test.YtpahfhjgcflifaaGreatDoorUOne
import Derived.Test.YtpahfhjgcflifaaGreatDoorTkLit
namespace Go.Proofs.YtpahfhjgcflifaaGreatDoor
open Go.RowKit

set_option maxRecDepth 100000 in
set_option maxHeartbeats 1000000 in
theorem rsound_any (neg : Bool) (sv : Value) (xs : List Nat) (w : World) (hs : Sl .u32 w sv xs) (hx : ∀ i, limb xs i < 4294967296) :
    Calls Tryz.prog 48 #[.agg #[.bool neg, sv]] w fun e w' => e = .returned (.bool (sndB neg xs)) ∧ Below w.heap.size w w' := by
  obtain ⟨hm, ao, cap, rfl, hcap, h⟩ := hs
  unfold maxLen at hm
  have HX := Lib.hid hx; clear hx
  have hb1 : Below w.heap.size w (w.alloc (.cells #[.bool neg, .slice ao xs.length cap] 24)) := (Below.refl _ w).alloc (Nat.le_refl _) _
  rcases (by omega : xs.length < 1 ∨ 64 < xs.length ∨ (1 ≤ xs.length ∧ xs.length ≤ 64)) with h0 | h64 | ⟨h1, h64⟩
  · clear h
    obtain rfl : xs = [] := List.eq_nil_of_length_eq_zero (by omega)
    have hv : sndB neg [] = !neg := by
      cases neg
      · exact sndB_true ⟨by simp, fun i => by rw [limb_out (by simp)]; omega, fun _ => rfl, fun h => absurd rfl h⟩
      · exact sndB_false fun h => by have := h.2.2.1 rfl; cases this
    have HV := Lib.hid hv; clear hv
    cases neg
    · go_enter Tryz.func48, Tryz.ntmps48
      go_wp2
      refine wp_loop_rounds 1 ?_
      rw [rounds_succ]
      go_wp2
      go_ret
      exact ⟨ret_bool HV.out.symm, hb1⟩
    · go_enter Tryz.func48, Tryz.ntmps48
      go_wp2
      go_ret
      exact ⟨ret_bool HV.out.symm, hb1⟩
  · clear h
    have HV := Lib.hid (sndB_false (neg := neg) (xs := xs) fun h => by have := h.1; omega)
    have hd : decide ((64 : Int) < (xs.length : Int)) = true := by simp; omega
    go_enter Tryz.func48, Tryz.ntmps48
    go_wp2
    go_ret
    exact ⟨ret_bool HV.out.symm, hb1⟩
  · rcases h with ⟨h, _⟩ | ⟨b, off, rfl, hb, hcell⟩
    · rw [h] at h1; simp at h1
    have HC : Hid (∀ j, j < xs.length → (w.alloc (.cells #[.bool neg, .slice (some ⟨b, off, none⟩) xs.length cap] 24)).cell? ⟨b, off + j, none⟩ = some (.int .u32 (limb xs j : Nat))) := Lib.hid fun j hj => by
      rw [hb1.cell (p := ⟨b, off + j, none⟩) hb]; exact hcell j hj
    clear hcell
    have hd : decide ((64 : Int) < (xs.length : Int)) = false := by simp; omega
    have hd0 : ((xs.length : Int) == 0) = false := by rw [beq_eq_false_iff_ne]; omega
    go_enter Tryz.func48, Tryz.ntmps48
    go_wp2
    go_loop [4] (fun i => ∃ k : Nat, k ≤ xs.length ∧ i = .int .i64 k ∧ ∀ j, j < k → limb xs j < 1000000000) (fun i => xs.length - (intOf i).toNat)
    case atStart => exact ⟨0, by omega, rfl, fun j hj => by omega⟩
    case round =>
      obtain ⟨k, hk, rfl, hall⟩ := hrel
      have HL := Lib.hid hall; clear hall
      by_cases hkl : k < xs.length
      · have hxk := HX.out k
        have hck := HC.out k hkl
        rcases Nat.lt_or_ge (limb xs k) 1000000000 with hlt | hge
        · have hd2 : decide ((1000000000 : Int) ≤ ((limb xs k : Nat) : Int)) = false := by rw [decide_eq_false_iff_not]; omega
          have HT := Lib.hid hlt; clear hlt
          go_wp2
          go_round
          case rel => exact ⟨k + 1, by omega, by first | rfl | go_num, fun j hj => by
            by_cases e : j = k
            · subst e; exact HT.out
            · exact HL.out j (by omega)⟩
          case measure => simp only [intOf]; omega
        · have HV := Lib.hid (sndB_false (neg := neg) (xs := xs) fun h => by have := h.2.1 k; omega)
          have hd2 : decide ((1000000000 : Int) ≤ ((limb xs k : Nat) : Int)) = true := by rw [decide_eq_true_iff]; omega
          clear hge
          go_wp2
          go_ret
          exact ⟨ret_bool HV.out.symm, hb1⟩
      · have hall : Lb xs := fun i => by
          by_cases e : i < xs.length
          · exact HL.out i (by omega)
          · rw [limb_out (by omega)]; omega
        have hct := HC.out (xs.length - 1) (by omega)
        rcases Nat.eq_zero_or_pos (limb xs (xs.length - 1)) with hz | hp
        · have hzb : (((limb xs (xs.length - 1) : Nat) : Int) != 0) = false := by rw [hz]; rfl
          have HV := Lib.hid (sndB_false (neg := neg) (xs := xs) fun h => by have := h.2.2.2 (by intro e; rw [e] at h1; simp at h1); omega)
          clear hz hall
          go_wp2
          go_ret
          exact ⟨ret_bool HV.out.symm, hb1⟩
        · have hzb : (((limb xs (xs.length - 1) : Nat) : Int) != 0) = true := by simp; omega
          have HV := Lib.hid (sndB_true (neg := neg) (xs := xs) ⟨h64, hall, fun e => by rw [e] at h1; simp at h1, fun _ => by omega⟩)
          clear hall
          go_wp2
          go_ret
          exact ⟨ret_bool HV.out.symm, hb1⟩

end Go.Proofs.YtpahfhjgcflifaaGreatDoor
namespace Go.Proofs.YtpahfhjgcflifaaGreatDoor
open Go.RowKit

theorem list_eq {xs ys : List Nat} (hl : xs.length = ys.length) (h : ∀ i, i < xs.length → limb xs i = limb ys i) : xs = ys := by
  apply List.ext_getElem hl
  intro i h1 h2
  have := h i h1
  rwa [limb_lt h1, limb_lt h2] at this

end Go.Proofs.YtpahfhjgcflifaaGreatDoor
namespace Go.Proofs.YtpahfhjgcflifaaGreatDoor
open Go.RowKit

/-- The j-th word's cells. -/
theorem TkSl.at' {w : World} {B : Nat} {v : Value} {ps : List (Wd × Value)} (h : TkSl w B v ps) {j : Nat} (hj : j < ps.length) : ∃ g cap, v = .slice (some ⟨g, 0, none⟩) ps.length cap ∧ ps.length ≤ cap ∧ g < w.heap.size ∧
    ∀ i u, (wdL (ps[j]).1 (ps[j]).2)[i]? = some u → w.cell? ⟨g, j * 9 + i, none⟩ = some u := by
  rcases h.own.2 with ⟨_, h0⟩ | ⟨g, cap, cur, rfl, _, hh, hc, _, _, ht, _⟩
  · omega
  · refine ⟨g, cap, rfl, hc, (Array.getElem?_eq_some_iff.1 hh).1, fun i u hu => ?_⟩
    rw [cell_of_row w g _ cur _ (0, 0) hh]
    have hi : i < 9 := by
      have := (List.getElem?_eq_some_iff.1 hu).1
      simpa [wdL] using this
    have key : ∀ (qs : List (Wd × Value)) (j : Nat) (hj : j < qs.length), (wcells qs)[j * 9 + i]? = (wdL (qs[j]).1 (qs[j]).2)[i]? := by
      intro qs
      induction qs with
      | nil => intro j hj; simp at hj
      | cons q qs ih =>
        intro j hj
        have e : wcells (q :: qs) = wdL q.1 q.2 ++ wcells qs := by simp [wcells]
        have hl : (wdL q.1 q.2).length = 9 := rfl
        rw [e]
        cases j with
        | zero => rw [List.getElem?_append_left (by omega)]; simp
        | succ j =>
          rw [List.getElem?_append_right (by omega), hl]
          rw [show (j + 1) * 9 + i - 9 = j * 9 + i by omega]
          rw [ih j (by simpa using hj)]
          rfl
    have := key ps j hj
    rw [hu, ← ht] at this
    rw [List.getElem?_take] at this
    split at this
    · simpa using this
    · cases this

theorem bt_mk {bs : List Nat} (hby : By bs) (j : Nat) : bt (mkB bs) j = limb bs j := by rw [← bt_byt, byt_mk hby]
theorem by_of {u : List Nat} (h : u.all (fun x => decide (x < 128)) = true) : By u := by
  intro i
  rcases Nat.lt_or_ge i u.length with hi | hi
  · have e : limb u i = u[i] := by unfold limb; rw [List.getD_eq_getElem?_getD, List.getElem?_eq_getElem hi]; rfl
    rw [e]
    have := List.all_eq_true.1 h _ (List.getElem_mem hi)
    simp at this
    omega
  · rw [limb_out hi]; omega
theorem mText_no34 : ∀ k : Fin 12, (mText k.val).length ≠ 0 ∧ limb (mText k.val) 0 ≠ 34 := by decide
/-- A symbol's text is that symbol. -/
theorem atmA_symb {bs : List Nat} (hby : By bs) (h : symA bs = true) : atmA bs = some ⟨4, bs, false, []⟩ := by
  have hs := h
  unfold symA at hs
  simp only [Bool.and_eq_true, decide_eq_true_iff, Bool.not_eq_true'] at hs
  obtain ⟨⟨⟨⟨h1, _, _, h4⟩, h5⟩, _⟩, _⟩ := hs
  have hp : (parA (mkB bs)).2.2 = false := by
    cases hp : (parA (mkB bs)).2.2 with
    | false => rfl
    | true =>
      exfalso
      obtain ⟨k1, k2⟩ := parA_ok hp
      rw [mkB_size] at k1 k2
      unfold numeA at h5
      simp only [Bool.or_eq_false_iff, Bool.and_eq_false_iff] at h5
      unfold fromA at k1 k2
      rw [mkB_size] at k1 k2
      split at k1
      · rename_i hc
        rw [if_pos hc] at k2
        have d1 := k2 1 (by omega) k1
        rw [bt_mk hby] at d1
        have hsg := hc.2
        rw [bt_mk hby] at hsg
        rcases h5.2 with h6 | h6
        · unfold sgnN at h6; simp at h6; omega
        · unfold digN at h6; simp at h6; omega
      · rename_i hc
        rw [if_neg hc] at k2
        have d0 := k2 0 (by omega) k1
        rw [bt_mk hby] at d0
        have h6 := h5.1
        unfold digN at h6; simp at h6; omega
  have n1 : ¬ (bs = tTrue ∨ bs = tTrue') := by rintro (rfl | rfl) <;> exact h4 rfl
  have n2 : ¬ (bs = tFalse ∨ bs = tFalse') := by rintro (rfl | rfl) <;> exact h4 rfl
  unfold atmA
  rw [if_neg n1, if_neg n2, hp, if_neg (by simp), if_pos h]

end Go.Proofs.YtpahfhjgcflifaaGreatDoor
namespace Go.Proofs.YtpahfhjgcflifaaGreatDoor
open Go.RowKit

end Go.Proofs.YtpahfhjgcflifaaGreatDoor
