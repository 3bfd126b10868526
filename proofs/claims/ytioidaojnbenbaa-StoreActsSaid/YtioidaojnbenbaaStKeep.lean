/- Collect: keep, and the whole. -/
import Derived.Test.YtioidaojnbenbaaStKept
namespace Go.Proofs.Ytioidaojnbenbaa
open Go.RowKit

/-- What each slot list is when k objects have been gone through. -/
def slK (K : Nat → Bool) (ms : List OM) (k i : Nat) : List (Int × Int) := match ms[i]? with
  | some m => if i < k ∧ K i = true then m.o.s.map (mvV K) else m.o.s
  | none => []
theorem slK_succ_no {K : Nat → Bool} {ms : List OM} {k : Nat} (hK : K k = false) : slK K ms (k + 1) = slK K ms k := by
  funext i
  unfold slK
  cases ms[i]? with
  | none => rfl
  | some m =>
    simp only
    by_cases h : i < k ∧ K i = true
    · rw [if_pos h, if_pos ⟨by omega, h.2⟩]
    · rw [if_neg h, if_neg]
      rintro ⟨h1, h2⟩
      rcases Nat.lt_or_eq_of_le (Nat.le_of_lt_succ h1) with h3 | rfl
      · exact h ⟨h3, h2⟩
      · rw [hK] at h2; cases h2
theorem slK_succ_yes {K : Nat → Bool} {ms : List OM} {k : Nat} (hK : K k = true) (hk : k < ms.length) : slK K ms (k + 1) = fun i => if i = k then (ms[k]'hk).o.s.map (mvV K) else slK K ms k i := by
  funext i
  by_cases hik : i = k
  · subst hik
    rw [if_pos rfl]
    unfold slK
    rw [List.getElem?_eq_getElem hk]
    simp only
    rw [if_pos ⟨by omega, hK⟩]
  · rw [if_neg hik]
    unfold slK
    cases ms[i]? with
    | none => rfl
    | some m =>
      simp only
      by_cases h : i < k ∧ K i = true
      · rw [if_pos h, if_pos ⟨by omega, h.2⟩]
      · rw [if_neg h, if_neg]
        rintro ⟨h1, h2⟩
        exact h ⟨by omega, h2⟩
theorem slK_zero {K : Nat → Bool} {ms : List OM} : slK K ms 0 = slS ms := by
  funext i
  unfold slK slS
  cases ms[i]? with
  | none => rfl
  | some m => simp
theorem slK_at {K : Nat → Bool} {ms : List OM} {k : Nat} (hk : k < ms.length) : slK K ms k k = (ms[k]'hk).o.s := by
  unfold slK
  rw [List.getElem?_eq_getElem hk]
  simp
theorem slK_full {K : Nat → Bool} {ms : List OM} {i : Nat} (hi : i < ms.length) (hK : K i = true) : slK K ms ms.length i = (ms[i]'hi).o.s.map (mvV K) := by
  unfold slK
  rw [List.getElem?_eq_getElem hi]
  simp [hi, hK]
/-- The objects' row when k have been gone through: what is kept, then what lay there. -/
def rowK (K : Nat → Bool) (ms : List OM) (k : Nat) : List Value := omLs (kpt K (OM.mv K) ms k) ++ (omLs ms).drop (plc K k * 4)
theorem rowK_len {K : Nat → Bool} {ms : List OM} {k : Nat} (hk : k ≤ ms.length) : (rowK K ms k).length = ms.length * 4 := by
  have := plc_le K k
  unfold rowK
  rw [List.length_append, omLs_len, kpt_len hk, List.length_drop, omLs_len]
  omega
theorem rowK_at {K : Nat → Bool} {ms : List OM} {k : Nat} (hk : k < ms.length) (j : Nat) : (rowK K ms k)[k * 4 + j]? = (omLs ms)[k * 4 + j]? := by
  have := plc_le K k
  unfold rowK
  rw [List.getElem?_append_right (by rw [omLs_len, kpt_len (by omega)]; omega), omLs_len, kpt_len (by omega), List.getElem?_drop]
  congr 1
  omega
theorem rowK_succ_no {K : Nat → Bool} {ms : List OM} {k : Nat} (hK : K k = false) (hk : k < ms.length) : rowK K ms (k + 1) = rowK K ms k := by
  unfold rowK
  rw [kpt_succ hk, plc_succ, hK]
  simp
theorem rowK_succ_yes {K : Nat → Bool} {ms : List OM} {k : Nat} (hK : K k = true) (hk : k < ms.length) : rowK K ms (k + 1) = (rowK K ms k).take (plc K k * 4) ++ omL (ms[k]'hk) ++ (rowK K ms k).drop (plc K k * 4 + 4) := by
  have h1 := plc_le K k
  have hl : (omLs (kpt K (OM.mv K) ms k)).length = plc K k * 4 := by rw [omLs_len, kpt_len (by omega)]
  have e1 : (rowK K ms k).take (plc K k * 4) = omLs (kpt K (OM.mv K) ms k) := by
    unfold rowK
    rw [← hl, List.take_left]
  have e2 : (rowK K ms k).drop (plc K k * 4 + 4) = (omLs ms).drop (plc K k * 4 + 4) := by
    unfold rowK
    rw [List.drop_append, List.drop_of_length_le (by omega), List.nil_append, hl, List.drop_drop]
    congr 1
    omega
  rw [e1, e2]
  unfold rowK
  rw [kpt_succ hk, plc_succ, hK, if_pos rfl, if_pos rfl, omLs_append, omLs_one, omL_mv]
  congr 2
  omega
theorem rowK_full {K : Nat → Bool} {ms : List OM} : (rowK K ms ms.length).take (plc K ms.length * 4) = omLs (kpt K (OM.mv K) ms ms.length) := by
  have hl : (omLs (kpt K (OM.mv K) ms ms.length)).length = plc K ms.length * 4 := by rw [omLs_len, kpt_len (Nat.le_refl _)]
  unfold rowK
  rw [← hl, List.take_left]
/-- What is used when k have been gone through. -/
def useK (K : Nat → Bool) (ms : List OM) (k : Nat) : Nat := ((kpt K (OM.mv K) ms k).map fun m => m.o.c).sum
theorem useK_succ {K : Nat → Bool} {ms : List OM} {k : Nat} (hk : k < ms.length) : useK K ms (k + 1) = useK K ms k + if K k then (ms[k]'hk).o.c else 0 := by
  unfold useK
  rw [kpt_succ hk, List.map_append, List.sum_append]
  cases K k <;> simp [OM.mv, Ob.mv]
theorem useK_left {w : World} {g : Nat} {R : Nat → Nat} {s : St} {ms : List OM} {ov nv mv : Value} (h : StM w g R s ms ov nv mv) (K : Nat → Bool) : useK K ms ms.length = (s.left K).U := by
  show _ = ((kpt K (Ob.mv K) s.os s.os.length).map Ob.c).sum
  have h1 := kpt_map (K := K) (f := OM.mv K) (f' := Ob.mv K) OM.o (fun _ => rfl) (l := ms) ms.length (Nat.le_refl _)
  rw [h.eqs, List.length_map, ← h1, List.map_map]
  rfl
theorem useK_le {w : World} {g : Nat} {R : Nat → Nat} {s : St} {ms : List OM} {ov nv mv : Value} (h : StM w g R s ms ov nv mv) (K : Nat → Bool) {k : Nat} (hk : k ≤ ms.length) : useK K ms k ≤ s.U := by
  have h2 := kpt_sum_le (K := K) (l := s.os) k (by rw [h.len]; exact hk)
  have h3 : ((s.os.take k).map Ob.c).sum ≤ s.U := by
    rw [← h.ok.sum]
    conv => rhs; rw [← List.take_append_drop k s.os, List.map_append, List.sum_append]
    omega
  have h1 := kpt_map (K := K) (f := OM.mv K) (f' := Ob.mv K) OM.o (fun _ => rfl) (l := ms) k hk
  rw [h.eqs, ← h1, List.map_map] at h2
  rw [h.eqs] at h3
  exact Nat.le_trans h2 h3
/-- A sound value's new number is that of where its object is then. -/
theorem rn_mv {K : Nat → Bool} {n nn : Nat} {v : Int × Int} (h : sdV n nn v = true) (hK : ∀ m : Nat, v = (7, (m : Int)) → K m = true) : rn (nums K n) v = mvV K v := by
  unfold rn mvV
  by_cases h7 : v.1 = 7
  · obtain ⟨m, rfl, hm⟩ := sd_in h h7
    rw [if_pos rfl, if_pos rfl]
    have := nums_at K hm
    rw [hK m rfl, if_pos rfl] at this
    simp [List.getD_eq_getElem?_getD, List.getElem?_eq_getElem (show m < (nums K n).length by rw [nums_len]; exact hm), this]
  · rw [if_neg h7, if_neg h7]
/-- The row behind is cleared, and what is kept is the store's. -/
theorem KpI.fin {w wr w4 : World} {g : Nat} {R : Nat → Nat} {s : St} {ms : List OM} {b cap : Nat} {nv mv : Value} {K : Nat → Bool} (h0 : StM w g R s ms (.slice (some ⟨b, 0, none⟩) ms.length cap) nv mv) (hK : ∀ (m n : Nat) (o : Ob), K m = true → s.os[m]? = some o → ((7 : Int), (n : Int)) ∈ o.s → K n = true)
    (h : KpI w wr g R s ms b cap nv mv (useK K ms ms.length) (rowK K ms ms.length) (slK K ms ms.length)) (hown : w4.ownsRow 0 73 4 (.slice (some ⟨b, 0, none⟩) (plc K ms.length) cap) (plc K ms.length) ((rowK K ms ms.length).take (plc K ms.length * 4))) (hg : wr.grownBy w4 (some b)) :
    StW (w4.setCell ⟨g, 2, none⟩ (.slice (some ⟨b, 0, none⟩) (plc K ms.length) cap)) g (Rleft K R) (s.left K) ∧ Fr R w (w4.setCell ⟨g, 2, none⟩ (.slice (some ⟨b, 0, none⟩) (plc K ms.length) cap)) := by
  have hgR := h0.gR
  have hbR := h0.oR b rfl
  have hgb : g ≠ b := fun e => by rw [e] at hgR; omega
  have hk1 : Keeps (fun b' => b' ≠ b) wr w4 := Keeps.of_grown hg fun b' e hn => hn (Option.some.inj e).symm
  have hk2 : Keeps (fun b' => b' ≠ g) w4 (w4.setCell ⟨g, 2, none⟩ (.slice (some ⟨b, 0, none⟩) (plc K ms.length) cap)) := (Keeps.refl _ _).set (fun h => h rfl) _
  have hk : Keeps (fun b' => b' ≠ b ∧ b' ≠ g) wr (w4.setCell ⟨g, 2, none⟩ (.slice (some ⟨b, 0, none⟩) (plc K ms.length) cap)) := (hk1.mono fun _ _ h => h.1).trans (hk2.mono fun _ _ h => h.2)
  have hx4 := (hk1.2 g (Array.getElem?_eq_some_iff.1 h.box).1 hgb).trans h.box
  have hx5 := rowSet hx4 2 (.slice (some ⟨b, 0, none⟩) (plc K ms.length) cap)
  refine ⟨⟨_, _, _, _, h0.leave (cap := cap) hbR hK ?_ ?_ (fun i hi hKi => ?_) (h.kp.trans (hk.mono fun b' _ hb' => ⟨fun e => by subst e; omega, fun e => by subst e; omega⟩))⟩, (h.fr.grown hg fun b' e => .inr (by injection e with e; rw [← e]; omega)).set (.inr (by show R g ≠ 0; omega)) _⟩
  · rw [hx5, useK_left h0]
    rfl
  · rw [← rowK_full]
    exact ownsRow_keep hown hk2 fun b' hb' e => hgb (by injection hb' with hb'; simp only at hb'; omega)
  · have h1 := h.srow i hi
    rw [slK_full hi hKi] at h1
    exact ownsRow_keep h1 hk fun b' hb' => by have := h0.sR i hi b' hb'; exact ⟨fun e => by subst e; omega, fun e => by subst e; omega⟩
end Go.Proofs.Ytioidaojnbenbaa
