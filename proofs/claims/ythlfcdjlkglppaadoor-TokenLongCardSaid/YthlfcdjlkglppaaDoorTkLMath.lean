/- Long strings, long symbols: what TokenLong's texts are. No walk here. -/
import Derived.Test.YthlfcdjlkglppaaDoorTkRAtom
namespace Go.Proofs.YthlfcdjlkglppaaDoor
open Go.RowKit

/-- A string of m times the character x. -/
def longT (x m : Nat) : List Nat := 34 :: (List.replicate m x ++ [34])
theorem longT_len (x m : Nat) : (longT x m).length = m + 2 := by simp [longT]
theorem longT_first (x m : Nat) : limb (longT x m) 0 = 34 := rfl
theorem longT_mid {x m j : Nat} (h : j < m) : limb (longT x m) (j + 1) = x := by
  unfold limb longT
  rw [List.getD_eq_getElem?_getD, List.getElem?_cons_succ, List.getElem?_append_left (by simpa using h), List.getElem?_replicate, if_pos h]
  rfl
theorem longT_last (x m : Nat) : limb (longT x m) (m + 1) = 34 := by
  unfold limb longT
  rw [List.getD_eq_getElem?_getD, List.getElem?_cons_succ, List.getElem?_append_right (by simp)]
  simp
theorem longT_quo {x m : Nat} (hx : 97 ≤ x ∧ x ≤ 122) : ∀ d a, a + d = m → a ≤ 4096 → quoA (longT x m) (a + 1) (List.replicate a x) = if m ≤ 4096 then some (List.replicate m x, m + 2) else none := by
  intro d
  induction d with
  | zero =>
    intro a h h4
    have : a = m := by omega
    subst this
    rw [quoA_quote (by rw [longT_len]; omega) (longT_last x a), if_pos h4]
  | succ d ih =>
    intro a h h4
    have hm := longT_mid (x := x) (m := m) (j := a) (by omega)
    have hn : nxA (longT x m) (a + 1) = some (x, a + 1 + 1) := by
      unfold nxA
      rw [hm, if_neg (by omega)]
    by_cases h5 : a = 4096
    · rw [quoA_long (by rw [longT_len]; omega) (by rw [hm]; omega) hn (by simpa using h5), if_neg (by omega)]
    · rw [quoA_step (by rw [longT_len]; omega) (by rw [hm]; omega) hn (by simpa using h5), ← List.replicate_succ']
      exact ih (a + 1) (by omega) (by omega)
theorem mText_no34 : ∀ k : Fin 12, (mText k.val).length ≠ 0 ∧ limb (mText k.val) 0 ≠ 34 := by decide
theorem longT_mark (x m : Nat) : markA (longT x m) 0 = none := by
  refine markA_none fun j hj => ?_
  have h2 := mText_no34 ⟨j, hj⟩
  cases h : pfx (mText j) (longT x m) 0 with
  | false => rfl
  | true =>
    exfalso
    rcases pfx_iff.1 h with ⟨_, h1⟩ | h1
    · have h3 := h1 0 (by have := h2.1; simp only at this; omega)
      rw [Nat.zero_add, longT_first] at h3
      exact h2.2 h3.symm
    · exact h2.1 (by show (mText j).length = 0; rw [h1]; rfl)
theorem longT_skp (x m : Nat) : skp (longT x m) 0 = 0 := skp_stop (by rw [longT_len]; omega) (by rw [longT_first]; decide) (by rw [longT_first]; decide)
theorem longT_scan {x m : Nat} (hx : 97 ≤ x ∧ x ≤ 122) :
    scanA ((longT x m).map fun (c : Nat) => (c : Int)) = if m ≤ 4096 then ([leafW ⟨5, encL (List.replicate m x), false, []⟩ 0], 0, 0) else ([], 0, 3) := by
  have hz : idxZ (fun c => !scB c) ((longT x m).map fun (c : Nat) => (c : Int)) < 0 := by
    rw [idxZ_none]
    · omega
    · intro j hj
      rw [List.length_map] at hj
      have e : ((longT x m).map fun (c : Nat) => (c : Int)).getD j 0 = (limb (longT x m) j : Nat) := by
        unfold limb
        rw [List.getD_eq_getElem?_getD, List.getElem?_map, List.getD_eq_getElem?_getD, List.getElem?_eq_getElem hj]; rfl
      rw [e]
      have hl : limb (longT x m) j = 34 ∨ limb (longT x m) j = x := by
        rw [longT_len] at hj
        cases j with
        | zero => exact .inl (longT_first x m)
        | succ j =>
          rcases Nat.lt_or_ge j m with h | h
          · exact .inr (longT_mid h)
          · have : j = m := by omega
            subst this
            exact .inl (longT_last x j)
      rcases hl with h | h <;> rw [h]
      · decide
      · have : scB (x : Int) = true := by unfold scB; simp; omega
        simp [this]
  have hm : ((longT x m).map fun (c : Nat) => (c : Int)).map Int.toNat = longT x m := by
    rw [List.map_map]
    have : (Int.toNat ∘ fun (c : Nat) => (c : Int)) = id := by funext c; simp
    rw [this, List.map_id]
  have hs := longT_skp x m
  have hq := longT_quo (m := m) hx m 0 (by omega) (by omega)
  have hw : scanW (longT x m) = if m ≤ 4096 then ([leafW ⟨5, encL (List.replicate m x), false, []⟩ 0], 0, 0) else ([], 0, 3) := by
    by_cases h4 : m ≤ 4096
    · rw [if_pos h4] at hq ⊢
      have hwd : wrdA (longT x m) (skp (longT x m) 0) = some (leafW ⟨5, encL (List.replicate m x), false, []⟩ 0, m + 2) := by
        rw [hs, wrdA_quo (longT_mark x m) (longT_first x m)]
        unfold quoW
        show (quoA (longT x m) (0 + 1) []).map _ = _
        rw [show ([] : List Nat) = List.replicate 0 x from rfl, hq]
        rfl
      unfold scanW
      rw [wdsA_step (by rw [hs, longT_len]; omega) hwd, wdsA_end (by rw [skp_end (by rw [longT_len]; omega), longT_len]; omega)]
      rfl
    · rw [if_neg h4] at hq ⊢
      have hwd : wrdA (longT x m) (skp (longT x m) 0) = none := by
        rw [hs, wrdA_quo (longT_mark x m) (longT_first x m)]
        unfold quoW
        show (quoA (longT x m) (0 + 1) []).map _ = _
        rw [show ([] : List Nat) = List.replicate 0 x from rfl, hq]
        rfl
      unfold scanW
      rw [wdsA_bad (by rw [hs, longT_len]; omega) hwd, hs]
  unfold scanA
  rw [if_pos hz, hm, hw]
  by_cases h4 : m ≤ 4096
  · rw [if_pos h4, if_pos h4]; rfl
  · rw [if_neg h4, if_neg h4]; rfl
theorem encL_rep {x : Nat} (hx : 97 ≤ x ∧ x ≤ 122) (m : Nat) : encL (List.replicate m x) = List.replicate m x := by
  have h1 : encN x = [x] := by unfold encN; rw [if_pos (by omega)]
  induction m with
  | zero => rfl
  | succ m ih => rw [List.replicate_succ]; show encN x ++ encL (List.replicate m x) = _; rw [h1, ih]; rfl
theorem rep_by {x : Nat} (hx : 97 ≤ x ∧ x ≤ 122) (m : Nat) : By (List.replicate m x) := by
  intro i
  unfold limb
  rw [List.getD_eq_getElem?_getD, List.getElem?_replicate]
  split
  · show x < 256; omega
  · decide
/-- A symbol may have 64 bytes, and no more. -/
theorem atmA_rep {x k : Nat} (hx : 97 ≤ x ∧ x ≤ 122) (hk : 7 ≤ k) : (atmA (List.replicate k x)).isSome = decide (k ≤ 64) := by
  have h0 : limb (List.replicate k x) 0 = x := by
    unfold limb; rw [List.getD_eq_getElem?_getD, List.getElem?_replicate, if_pos (by omega)]; rfl
  have hne : ∀ l : List Nat, l.length < 7 → List.replicate k x ≠ l := by
    intro l hl he
    have := congrArg List.length he
    rw [List.length_replicate] at this
    omega
  have hch : chars (List.replicate k x) 0 = (List.replicate k x, none) := by
    have := chars_enc (List.replicate k x) (by intro c hc; rw [(List.mem_replicate.1 hc).2]; unfold scN; omega)
    rwa [encL_rep hx] at this
  have hnu : numeA (List.replicate k x) = false := by
    unfold numeA digN sgnN
    rw [h0]
    simp
    omega
  have hsy : ∀ h : k ≤ 64, symA (List.replicate k x) = true := fun h => symA_yes (hne [] (by decide)) (hne [46] (by decide)) (by simpa using h) (by rw [h0]; omega) hnu (by rw [hch]) (by
    rw [hch, List.any_eq_false]
    intro c hc
    rw [(List.mem_replicate.1 hc).2]
    unfold enN enB
    simp
    omega)
  by_cases h : k ≤ 64
  · rw [atmA_symb (rep_by hx k) (hsy h)]
    simp [h]
  · have hp : (parA (mkB (List.replicate k x))).2.2 = false := by
      cases hp : (parA (mkB (List.replicate k x))).2.2 with
      | false => rfl
      | true =>
        exfalso
        obtain ⟨k1, k2⟩ := parA_ok hp
        rw [mkB_size] at k1 k2
        unfold fromA at k1 k2
        rw [mkB_size] at k1 k2
        have hf : (bt (mkB (List.replicate k x)) 0 : Nat) = x := by rw [bt_mk (rep_by hx k), h0]
        split at k1
        · rename_i hc
          have := hc.2
          omega
        · rename_i hc
          rw [if_neg hc] at k2
          have d1 := k2 0 (by omega) k1
          omega
    rw [show atmA (List.replicate k x) = none from by
      rcases hq : parA (mkB (List.replicate k x)) with ⟨n, r, o⟩
      rw [hq] at hp
      have : o = false := hp
      subst this
      refine atmA_none' ?_ ?_ hq (.inr (.inr (.inl (by simp; omega))))
      · rintro (h1 | h1) <;> exact hne _ (by decide) h1
      · rintro (h1 | h1) <;> exact hne _ (by decide) h1]
    simp [h]
end Go.Proofs.YthlfcdjlkglppaaDoor
