/- Texts of datums: their characters, their bytes, and their leaves' words. No walk here. | A datum's text, wherever it stands, is read as the datum, or there is not room enough. No walk here. -/
import Derived.Test.YtpahfhjgcflifaaGreatDoorRdMath
import Derived.Test.YtpahfhjgcflifaaGreatDoorDmSame
import Derived.Test.YtpahfhjgcflifaaGreatDoorTkSMath
import Derived.Test.YtpahfhjgcflifaaGreatDoorAns
namespace Go.Proofs.YtpahfhjgcflifaaGreatDoor
open Go.RowKit

/-- Is one of kind K in it? -/
def hasK (K : Int) : Dm → Bool
  | .mk k _ _ _ l _ => decide (k = K) || (l.attach.map fun ⟨d, _⟩ => hasK K d).any id
theorem hasK_mk (K k : Int) (t : List Nat) (n : Bool) (r : List Nat) (l : List Dm) (a : Int) : hasK K (.mk k t n r l a) = (decide (k = K) || l.any (hasK K)) := by
  unfold hasK
  rw [List.attach_map_val (l := l) (f := hasK K), List.any_map]
  rfl
/-- May it be read again? -/
def plainA (d : Dm) : Bool := !hasK 10 d && !hasK 11 d
theorem plain_mk {k : Int} {t : List Nat} {n : Bool} {r : List Nat} {l : List Dm} {a : Int} (h : plainA (.mk k t n r l a) = true) : k ≠ 10 ∧ k ≠ 11 ∧ ∀ (j : Nat) (hj : j < l.length), plainA (l[j]'hj) = true := by
  unfold plainA at h
  rw [hasK_mk, hasK_mk] at h
  simp only [Bool.and_eq_true, Bool.not_eq_true', Bool.or_eq_false_iff, decide_eq_false_iff_not, List.any_eq_false] at h
  refine ⟨h.1.1, h.2.1, fun j hj => ?_⟩
  unfold plainA
  have h1 := h.1.2 _ (List.getElem_mem hj)
  have h2 := h.2.2 _ (List.getElem_mem hj)
  simp only [Bool.not_eq_true] at h1 h2
  rw [h1, h2]
  rfl
theorem plain_of {k : Int} {t : List Nat} {n : Bool} {r : List Nat} {l : List Dm} {a : Int} (h1 : k ≠ 10) (h2 : k ≠ 11) (h : ∀ (j : Nat) (hj : j < l.length), plainA (l[j]'hj) = true) : plainA (.mk k t n r l a) = true := by
  unfold plainA
  rw [hasK_mk, hasK_mk]
  have key : ∀ K, K = 10 ∨ K = 11 → l.any (hasK K) = false := by
    intro K hK
    rw [List.any_eq_false]
    intro x hx
    obtain ⟨j, hj, rfl⟩ := List.mem_iff_getElem.1 hx
    have := h j hj
    unfold plainA at this
    simp only [Bool.and_eq_true, Bool.not_eq_true'] at this
    rcases hK with rfl | rfl
    · simp [this.1]
    · simp [this.2]
  rw [key 10 (.inl rfl), key 11 (.inr rfl), decide_eq_false h1, decide_eq_false h2]
  rfl
/-- All its texts are bytes. -/
inductive DBy : Dm → Prop
  | mk {k : Int} {t : List Nat} {n : Bool} {r : List Nat} {l : List Dm} {a : Int} (ht : By t) (hin : ∀ (i : Nat) (h : i < l.length), DBy (l[i]'h)) : DBy (.mk k t n r l a)
theorem Lay.dby {w : World} {d : Dm} {us : List Value} (h : Lay w d us) : DBy d := by
  induction h with
  | mk hby hlt hlim hr hrow hin ih => exact .mk hby ih
theorem DBy.open' {k : Int} {t : List Nat} {n : Bool} {r : List Nat} {l : List Dm} {a : Int} (h : DBy (.mk k t n r l a)) : By t ∧ ∀ (i : Nat) (h : i < l.length), DBy (l[i]'h) := by
  cases h with
  | mk ht hin => exact ⟨ht, hin⟩

/-- What stands ahead of the i-th of n things in a list. -/
def sepT (dot : Bool) (n i : Nat) : List Nat := (if 0 < i then [32] else []) ++ (if dot = true ∧ i + 1 = n then [46, 32] else [])
/-- The first i things in a list. -/
def preT (dot : Bool) (n : Nat) (xs : List (List Nat)) : Nat → List Nat
  | 0 => []
  | i + 1 => preT dot n xs i ++ (sepT dot n i ++ xs.getD i [])
def hdT (k : Int) : List Nat := if k = 3 then [35, 40] else [40]
/-- A list, or a vector. -/
def lisT (k : Int) (xs : List (List Nat)) : List Nat := hdT k ++ (preT (decide (k = 2)) xs.length xs xs.length ++ [41])
theorem preT_succ (dot : Bool) (n : Nat) (xs : List (List Nat)) (i : Nat) : preT dot n xs (i + 1) = preT dot n xs i ++ (sepT dot n i ++ xs.getD i []) := rfl
/-- What comes behind the first i. -/
theorem preT_more (dot : Bool) (n : Nat) (xs : List (List Nat)) (i : Nat) : ∀ d, (∃ r, preT dot n xs (i + d) = preT dot n xs i ++ r) ∧ (0 < d → 0 < i → ∃ r, preT dot n xs (i + d) = preT dot n xs i ++ 32 :: r) := by
  intro d
  induction d with
  | zero => exact ⟨⟨[], by simp⟩, fun h => absurd h (by omega)⟩
  | succ d ih =>
    obtain ⟨⟨r, hr⟩, h2⟩ := ih
    refine ⟨⟨r ++ (sepT dot n (i + d) ++ xs.getD (i + d) []), by rw [← Nat.add_assoc, preT_succ, hr, List.append_assoc]⟩, fun _ h0 => ?_⟩
    rw [← Nat.add_assoc, preT_succ]
    by_cases hd : 0 < d
    · obtain ⟨r2, hr2⟩ := h2 hd h0
      exact ⟨r2 ++ (sepT dot n (i + d) ++ xs.getD (i + d) []), by rw [hr2, List.append_assoc]; rfl⟩
    · obtain rfl : d = 0 := by omega
      refine ⟨(if dot = true ∧ i + 0 + 1 = n then [46, 32] else []) ++ xs.getD (i + 0) [], ?_⟩
      unfold sepT
      rw [if_pos (show 0 < i + 0 by omega)]
      rfl
theorem preT_map (f : List Nat → List Nat) (hf : ∀ a b, f (a ++ b) = f a ++ f b) (h0 : f [] = []) (h1 : f [32] = [32]) (h2 : f [46, 32] = [46, 32]) (dot : Bool) (n : Nat) (xs : List (List Nat)) : ∀ i, f (preT dot n xs i) = preT dot n (xs.map f) i := by
  intro i
  induction i with
  | zero => exact h0
  | succ i ih =>
    rw [preT_succ, preT_succ, hf, hf, ih]
    have e1 : f (sepT dot n i) = sepT dot n i := by
      unfold sepT
      rw [hf]
      congr 1
      · split
        · exact h1
        · exact h0
      · split
        · exact h2
        · exact h0
    have e2 : f (xs.getD i []) = (xs.map f).getD i [] := by
      rw [List.getD_eq_getElem?_getD, List.getD_eq_getElem?_getD, List.getElem?_map]
      cases xs[i]? with
      | none => exact h0
      | some x => rfl
    rw [e1, e2]
/-- A text of a datum, by the texts of its leaves. -/
def Dm.tg (g : Int → List Nat → Bool → List Nat → List Nat) : Dm → List Nat
  | .mk k t n r l _ => if k = 1 ∨ k = 2 ∨ k = 3 then lisT k (l.attach.map fun ⟨d, _⟩ => Dm.tg g d) else g k t n r
theorem tg_mk (g : Int → List Nat → Bool → List Nat → List Nat) (k : Int) (t : List Nat) (n : Bool) (r : List Nat) (l : List Dm) (a : Int) : (Dm.mk k t n r l a).tg g = if k = 1 ∨ k = 2 ∨ k = 3 then lisT k (l.map (Dm.tg g)) else g k t n r := by
  unfold Dm.tg
  rw [List.attach_map_val (l := l) (f := Dm.tg g)]
theorem tg_node {g : Int → List Nat → Bool → List Nat → List Nat} {k : Int} {t : List Nat} {n : Bool} {r : List Nat} {l : List Dm} {a : Int} (h : k = 1 ∨ k = 2 ∨ k = 3) : (Dm.mk k t n r l a).tg g = lisT k (l.map (Dm.tg g)) := by rw [tg_mk, if_pos h]
theorem tg_leaf {g : Int → List Nat → Bool → List Nat → List Nat} {k : Int} {t : List Nat} {n : Bool} {r : List Nat} {l : List Dm} {a : Int} (h : ¬ (k = 1 ∨ k = 2 ∨ k = 3)) : (Dm.mk k t n r l a).tg g = g k t n r := by rw [tg_mk, if_neg h]
/-- A number's digits. -/
def numT (n : Bool) (r : List Nat) : List Nat := (txt n r).map UInt8.toNat
/-- A leaf's characters. -/
def leafX (k : Int) (t : List Nat) (n : Bool) (r : List Nat) : List Nat :=
  if k = 4 then (chA t).1 else if k = 5 then quoT (chA t).1 else if k = 6 then 35 :: 92 :: nmL (limb (chA t).1 0) else if k = 7 then numT n r else if k = 8 then [35, 116] else [35, 102]
/-- A leaf's bytes. -/
def leafB (k : Int) (t : List Nat) (n : Bool) (r : List Nat) : List Nat :=
  if k = 4 then t else if k = 5 then quoT t else if k = 6 then 35 :: 92 :: nameA (limb (chA t).1 0) else if k = 7 then numT n r else if k = 8 then [35, 116] else if k = 9 then [35, 102]
  else if k = 10 then [35, 60, 118, 111, 105, 100, 62] else 35 :: 60 :: (t ++ [62])
/-- A datum's characters, and its bytes. -/
def Dm.tx (d : Dm) : List Nat := d.tg leafX
def Dm.tb (d : Dm) : List Nat := d.tg leafB

theorem enN_facts {c : Nat} (h : enN c = false) : c ≠ 59 ∧ blN c = false := by
  unfold enN enB at h
  unfold blN blB
  simp only [decide_eq_false_iff_not] at h ⊢
  omega
theorem numT_mem {n : Bool} {r : List Nat} (h : Snd n r) : numT n r ≠ [] ∧ ∀ c ∈ numT n r, c = 45 ∨ (48 ≤ c ∧ c ≤ 57) := by
  obtain ⟨d, e, h1, h2, _⟩ := txt_parts h
  unfold numT
  rw [e]
  refine ⟨by cases d with | nil => exact absurd rfl h2 | cons x d => simp, fun c hc => ?_⟩
  obtain ⟨x, hx, rfl⟩ := List.mem_map.1 hc
  rcases List.mem_append.1 hx with hx | hx
  · cases n with
    | false => cases hx
    | true =>
      obtain rfl := List.mem_singleton.1 hx
      exact .inl rfl
  · exact .inr (h1 x hx)
theorem numT_mk (n : Bool) (r : List Nat) : mkB (numT n r) = ⟨(txt n r).toArray⟩ := by
  unfold mkB numT
  congr 2
  rw [List.map_map]
  have : (fun x : Nat => x.toUInt8) ∘ UInt8.toNat = id := by funext c; simp
  rw [this, List.map_id]
theorem numT_atm {n : Bool} {r : List Nat} (h : Snd n r) : atmA (numT n r) = some ⟨7, [], n, r⟩ := by
  obtain ⟨h0, hm⟩ := numT_mem h
  have hne : ∀ l : List Nat, numT n r ≠ 35 :: l := by
    intro l e
    have := hm 35 (by rw [e]; simp)
    omega
  refine atmA_num ?_ ?_ ?_
  · rintro (e | e) <;> exact hne _ e
  · rintro (e | e) <;> exact hne _ e
  · obtain ⟨k1, k2, k3⟩ := back_plain (s := mkB (numT n r)) h (by rw [numT_mk])
    exact parA_eq (.inl ⟨k1, rfl, h, k2.symm, fun hr => (k3 hr).symm⟩)
theorem numT_low {n : Bool} {r : List Nat} (h : Snd n r) : ∀ c ∈ numT n r, c < 128 := fun c hc => by
  have := (numT_mem h).2 c hc
  omega
theorem wrd_num {n : Bool} {r cs : List Nat} {i : Nat} (h : Snd n r) (hl : Lies (numT n r) cs i) (hend : EndsAt cs (i + (numT n r).length)) : wrdA cs i = some (leafW ⟨7, [], n, r⟩ i, i + (numT n r).length) := by
  obtain ⟨h0, hm⟩ := numT_mem h
  have hp : 0 < (numT n r).length := List.length_pos_iff.2 h0
  have hen : ∀ c ∈ numT n r, enN c = false := fun c hc => by
    have := hm c hc
    unfold enN enB
    simp only [decide_eq_false_iff_not]
    omega
  have e0 : limb cs i = limb (numT n r) 0 := hl.at (j := 0) hp
  have hm0 : limb (numT n r) 0 ∈ numT n r := by rw [limb_lt hp]; exact List.getElem_mem _
  have h35 : limb cs i ≠ 35 := by
    have := hm _ hm0
    rw [e0]
    omega
  have hlow := encL_low (numT_low h)
  refine wrd_lies hl hp hend hen (mark_none_of (by rw [e0]; exact hen _ hm0) h35) ?_ ?_ (by rw [hlow]; exact numT_atm h)
  · cases hpf : pfx [35, 92] cs i with
    | false => rfl
    | true =>
      exfalso
      rcases pfx_iff.1 hpf with ⟨_, h3⟩ | h3
      · exact h35 (h3 0 (by simp))
      · cases h3
  · rw [hlow]
    intro e
    have := hm 46 (by rw [e]; simp)
    omega
theorem symbA_sym {t : List Nat} (h : symbA t = true) : symA t = true := by
  unfold symbA at h
  cases hm : atmA t with
  | none => rw [hm] at h; cases h
  | some d =>
    rw [hm] at h
    have hd : d.k = 4 := by simpa using h
    unfold atmA at hm
    split at hm
    · injection hm with hm; subst hm; cases hd
    · split at hm
      · injection hm with hm; subst hm; cases hd
      · split at hm
        · injection hm with hm; subst hm; cases hd
        · split at hm
          · assumption
          · cases hm
/-- What a leaf that may be is. -/
theorem leaf_parts {g : Nat} {k : Int} {t : List Nat} {n : Bool} {r : List Nat} {l : List Dm} {a : Int} (h : okD g (.mk k t n r l a) = true) (hk : ¬ (k = 1 ∨ k = 2 ∨ k = 3)) (h10 : k ≠ 10) (h11 : k ≠ 11) :
    l = [] ∧ ((k = 7 ∧ t = [] ∧ Snd n r) ∨ (n = false ∧ r = [] ∧ ((k = 4 ∧ symA t = true) ∨ (k = 5 ∧ ∃ cs, chars t 0 = (cs, none) ∧ cs.length ≤ 4096) ∨ (k = 6 ∧ ∃ c, chars t 0 = ([c], none)) ∨ (k = 8 ∧ t = []) ∨ (k = 9 ∧ t = [])))) := by
  cases g with
  | zero => rw [okD_zero] at h; cases h
  | succ g =>
    by_cases h7 : k = 7
    · subst h7
      rw [okD_int] at h
      simp only [Bool.and_eq_true, decide_eq_true_iff] at h
      refine ⟨List.eq_nil_of_length_eq_zero h.2, .inl ⟨rfl, h.1.1, ?_⟩⟩
      apply Classical.byContradiction
      intro hs
      rw [sndB_false hs] at h
      cases h.1.2
    · rw [okD_leaf hk h7] at h
      simp only [Bool.and_eq_true, decide_eq_true_iff] at h
      obtain ⟨⟨hw, hb⟩, hl⟩ := h
      unfold blankA at hb
      simp only [Bool.and_eq_true, Bool.not_eq_true', decide_eq_true_iff] at hb
      refine ⟨List.eq_nil_of_length_eq_zero hl, .inr ⟨hb.1, List.eq_nil_of_length_eq_zero hb.2, ?_⟩⟩
      have hlen : ∀ m, lenA t = some m → ∃ cs, chars t 0 = (cs, none) ∧ cs.length = m := by
        intro m hm
        unfold lenA at hm
        split at hm
        · cases hm
        · split at hm
          · rename_i hc
            injection hm with hm
            exact ⟨(chars t 0).1, by rw [← hc], hm⟩
          · cases hm
      unfold wrtA at hw
      by_cases h4 : k = 4
      · rw [if_pos h4] at hw
        exact .inl ⟨h4, symbA_sym hw⟩
      rw [if_neg h4] at hw
      by_cases h5 : k = 5
      · rw [if_pos h5] at hw
        cases hm : lenA t with
        | none => rw [hm] at hw; cases hw
        | some m =>
          rw [hm] at hw
          obtain ⟨cs, h1, h2⟩ := hlen m hm
          exact .inr (.inl ⟨h5, cs, h1, by rw [h2]; simpa using hw⟩)
      rw [if_neg h5] at hw
      by_cases h6 : k = 6
      · rw [if_pos h6] at hw
        cases hm : lenA t with
        | none => rw [hm] at hw; cases hw
        | some m =>
          rw [hm] at hw
          obtain ⟨cs, h1, h2⟩ := hlen m hm
          have hm1 : m = 1 := by simpa using hw
          subst hm1
          obtain ⟨c, rfl⟩ := List.length_eq_one_iff.1 h2
          exact .inr (.inr (.inl ⟨h6, c, h1⟩))
      rw [if_neg h6] at hw
      split at hw
      · rename_i h8
        have ht : t = [] := by simpa using hw
        rcases h8 with h8 | h8 | h8
        · exact .inr (.inr (.inr (.inl ⟨h8, ht⟩)))
        · exact .inr (.inr (.inr (.inr ⟨h8, ht⟩)))
        · exact absurd h8 h10
      · exact absurd (by simpa using hw) h11
/-- A leaf's word, wherever it stands. -/
theorem leaf_word {g : Nat} {k : Int} {t : List Nat} {n : Bool} {r : List Nat} {l : List Dm} {a : Int} (h : okD g (.mk k t n r l a) = true) (hk : ¬ (k = 1 ∨ k = 2 ∨ k = 3)) (h10 : k ≠ 10) (h11 : k ≠ 11) (hby : By t) {cs : List Nat} {i : Nat} (hl : Lies (leafX k t n r) cs i) (hend : EndsAt cs (i + (leafX k t n r).length)) :
    ∃ dt, wrdA cs i = some (leafW dt i, i + (leafX k t n r).length) ∧ (leafD (leafW dt i)).strip = (Dm.mk k t n r l a).strip := by
  have h' := leaf_parts h hk h10 h11
  clear h
  obtain ⟨rfl, h'⟩ := h'
  rcases h' with ⟨rfl, rfl, hs⟩ | ⟨rfl, rfl, h⟩
  · have e : leafX 7 [] n r = numT n r := rfl
    rw [e] at hl hend ⊢
    exact ⟨_, wrd_num hs hl hend, by unfold leafD leafW; rw [strip_mk, strip_mk]; rfl⟩
  · rcases h with ⟨rfl, hs⟩ | ⟨rfl, u, hc, hlen⟩ | ⟨rfl, c, hc⟩ | ⟨rfl, rfl⟩ | ⟨rfl, rfl⟩
    · have e : leafX 4 t false [] = (chA t).1 := rfl
      rw [e] at hl hend ⊢
      exact ⟨_, wrd_sym hby hs hl hend, by unfold leafD leafW; rw [strip_mk, strip_mk]; rfl⟩
    · have e : leafX 5 t false [] = quoT u := by show quoT (chA t).1 = _; rw [chA_ok hc]
      rw [e] at hl hend ⊢
      have he := (enc_chars hby _ 0 u (Nat.le_refl _) (Nat.zero_le _) hc).1
      rw [List.drop_zero] at he
      refine ⟨_, wrd_str hlen hl, ?_⟩
      unfold leafD leafW
      rw [strip_mk, strip_mk, he]
      rfl
    · have e : leafX 6 t false [] = 35 :: 92 :: nmL c := by show 35 :: 92 :: nmL (limb (chA t).1 0) = _; rw [chA_ok hc]; rfl
      rw [e] at hl hend ⊢
      obtain ⟨he, hsc⟩ := enc_chars hby _ 0 [c] (Nat.le_refl _) (Nat.zero_le _) hc
      rw [List.drop_zero] at he
      have he2 : encN c = t := by rw [← he]; simp [encL]
      have hl2 : (35 :: 92 :: nmL c).length = (nmL c).length + 2 := by simp
      rw [hl2] at hend ⊢
      refine ⟨_, wrd_chr (hsc c (by simp)) hl hend, ?_⟩
      unfold leafD leafW
      rw [strip_mk, strip_mk, he2]
      rfl
    · have e : leafX 8 [] false [] = [35, 116] := rfl
      rw [e] at hl hend ⊢
      refine ⟨_, wrd_bool (x := 116) (.inl rfl) hl hend, ?_⟩
      unfold leafD leafW
      rw [strip_mk, strip_mk]
      rfl
    · have e : leafX 9 [] false [] = [35, 102] := rfl
      rw [e] at hl hend ⊢
      refine ⟨_, wrd_bool (x := 102) (.inr rfl) hl hend, ?_⟩
      unfold leafD leafW
      rw [strip_mk, strip_mk]
      rfl
theorem hdT_facts (k : Int) : 0 < (hdT k).length ∧ ((hdT k = [35, 40] ∧ k = 3) ∨ (hdT k = [40] ∧ k ≠ 3)) := by
  unfold hdT
  split
  · exact ⟨by simp, .inl ⟨rfl, by assumption⟩⟩
  · exact ⟨by simp, .inr ⟨rfl, by assumption⟩⟩
/-- How a leaf begins. -/
theorem leaf_first {g : Nat} {k : Int} {t : List Nat} {n : Bool} {r : List Nat} {l : List Dm} {a : Int} (h : okD g (.mk k t n r l a) = true) (hk : ¬ (k = 1 ∨ k = 2 ∨ k = 3)) (h10 : k ≠ 10) (h11 : k ≠ 11) (hby : By t) :
    0 < (leafX k t n r).length ∧ limb (leafX k t n r) 0 ≠ 59 ∧ blN (limb (leafX k t n r) 0) = false ∧ (∀ c ∈ leafX k t n r, scN c) ∧ encL (leafX k t n r) = leafB k t n r := by
  have h' := leaf_parts h hk h10 h11
  clear h
  obtain ⟨rfl, h'⟩ := h'
  rcases h' with ⟨rfl, rfl, hs⟩ | ⟨rfl, rfl, h⟩
  · obtain ⟨h0, hm⟩ := numT_mem hs
    have hp : 0 < (numT n r).length := List.length_pos_iff.2 h0
    have hm0 : limb (numT n r) 0 ∈ numT n r := by rw [limb_lt hp]; exact List.getElem_mem _
    have h1 := hm _ hm0
    show 0 < (numT n r).length ∧ limb (numT n r) 0 ≠ 59 ∧ blN (limb (numT n r) 0) = false ∧ (∀ c ∈ numT n r, scN c) ∧ encL (numT n r) = numT n r
    refine ⟨hp, by omega, ?_, fun c hc => ?_, encL_low (numT_low hs)⟩
    · unfold blN blB
      simp only [decide_eq_false_iff_not]
      omega
    · have := hm c hc
      unfold scN
      omega
  · rcases h with ⟨rfl, hs⟩ | ⟨rfl, u, hc, hlen⟩ | ⟨rfl, c, hc⟩ | ⟨rfl, rfl⟩ | ⟨rfl, rfl⟩
    · obtain ⟨u, hc, he, hu, hno, h35, h46, hsc⟩ := sym_facts hby hs
      have e : leafX 4 t false [] = u := by show (chA t).1 = _; rw [chA_ok hc]
      rw [e]
      have h2 := enN_facts (hno (limb u 0) (by rw [limb_lt hu]; exact List.getElem_mem _))
      exact ⟨hu, h2.1, h2.2, hsc, he⟩
    · have e : leafX 5 t false [] = quoT u := by show quoT (chA t).1 = _; rw [chA_ok hc]
      obtain ⟨he, hsc⟩ := enc_chars hby _ 0 u (Nat.le_refl _) (Nat.zero_le _) hc
      rw [List.drop_zero] at he
      rw [e]
      refine ⟨by simp [quoT], by show (34 : Nat) ≠ 59; decide, by show blN 34 = false; decide, quoT_sc hsc, ?_⟩
      show _ = quoT t
      rw [← quoT_enc hsc, he]
    · have e : leafX 6 t false [] = 35 :: 92 :: nmL c := by show 35 :: 92 :: nmL (limb (chA t).1 0) = _; rw [chA_ok hc]; rfl
      have e2 : leafB 6 t false [] = 35 :: 92 :: nameA c := by show 35 :: 92 :: nameA (limb (chA t).1 0) = _; rw [chA_ok hc]; rfl
      obtain ⟨he, hsc⟩ := enc_chars hby _ 0 [c] (Nat.le_refl _) (Nat.zero_le _) hc
      rw [e, e2]
      refine ⟨by simp, by show (35 : Nat) ≠ 59; decide, by show blN 35 = false; decide, fun a ha => ?_, ?_⟩
      · rcases List.mem_cons.1 ha with rfl | ha
        · unfold scN; omega
        rcases List.mem_cons.1 ha with rfl | ha
        · unfold scN; omega
        · exact nm_sc (hsc c (by simp)) a ha
      · show encN 35 ++ (encN 92 ++ encL (nmL c)) = _
        rw [nm_enc]
        rfl
    · exact ⟨by decide, by decide, by decide, fun c hc => by
        have h2 : c = 35 ∨ c = 116 := by simpa [leafX] using hc
        unfold scN
        omega, by decide⟩
    · exact ⟨by decide, by decide, by decide, fun c hc => by
        have h2 : c = 35 ∨ c = 102 := by simpa [leafX] using hc
        unfold scN
        omega, by decide⟩
theorem okD_parts {g : Nat} {k : Int} {t : List Nat} {n : Bool} {r : List Nat} {l : List Dm} {a : Int} (h : okD g (.mk k t n r l a) = true) (hk : k = 1 ∨ k = 2 ∨ k = 3) : ∃ f, g = f + 1 ∧ t = [] ∧ n = false ∧ r = [] ∧ endA k l = true ∧ ∀ (j : Nat) (hj : j < l.length), okD f (l[j]'hj) = true := by
  cases g with
  | zero => rw [okD_zero] at h; cases h
  | succ f =>
    rw [okD_node hk] at h
    unfold blankA at h
    simp only [Bool.and_eq_true, Bool.not_eq_true', decide_eq_true_iff, List.all_eq_true] at h
    exact ⟨f, rfl, h.1.1.1, h.1.1.2.1, List.eq_nil_of_length_eq_zero h.1.1.2.2, h.1.2, fun j hj => h.2 _ (List.getElem_mem hj)⟩
/-- All of a text is characters, whose bytes are the datum's. -/
theorem tx_enc : ∀ (m : Nat) (d : Dm), d.sz ≤ m → ∀ g, okD g d = true → plainA d = true → DBy d → (∀ c ∈ d.tx, scN c) ∧ encL d.tx = d.tb ∧ 0 < d.tx.length ∧ limb d.tx 0 ≠ 59 ∧ blN (limb d.tx 0) = false := by
  intro m
  induction m with
  | zero => intro d h; have := sz_pos d; omega
  | succ m ih =>
    intro d hm g hok hpl hdb
    obtain ⟨k, t, n, r, l, a⟩ := d
    obtain ⟨h10, h11, hpl2⟩ := plain_mk hpl
    obtain ⟨hby, hdb2⟩ := hdb.open'
    by_cases hk : k = 1 ∨ k = 2 ∨ k = 3
    · obtain ⟨f, _, _, _, _, _, hall⟩ := okD_parts hok hk
      have hin : ∀ (j : Nat) (hj : j < l.length), _ := fun j hj => ih (l[j]'hj) (by
        have := Dm.sz_mem (d := .mk k t n r l a) (x := l[j]'hj) (List.getElem_mem hj)
        omega) f (hall j hj) (hpl2 j hj) (hdb2 j hj)
      unfold Dm.tx Dm.tb
      rw [tg_node hk, tg_node hk]
      obtain ⟨_, hh⟩ := hdT_facts k
      have hsep : ∀ dot n i, ∀ c ∈ sepT dot n i, scN c := by
        intro dot n i c hc
        have : c = 32 ∨ c = 46 := by
          unfold sepT at hc
          rcases List.mem_append.1 hc with hc | hc
          · split at hc
            · exact .inl (List.mem_singleton.1 hc)
            · cases hc
          · split at hc
            · simp at hc; omega
            · cases hc
        unfold scN
        omega
      have hget : ∀ i, ∀ c ∈ (l.map (Dm.tg leafX)).getD i [], scN c := by
        intro i c hc
        rw [List.getD_eq_getElem?_getD, List.getElem?_map] at hc
        by_cases hi : i < l.length
        · rw [List.getElem?_eq_getElem hi] at hc
          exact (hin i hi).1 c hc
        · rw [List.getElem?_eq_none (by omega)] at hc
          cases hc
      have hpre : ∀ dot n i, ∀ c ∈ preT dot n (l.map (Dm.tg leafX)) i, scN c := by
        intro dot n i
        induction i with
        | zero => intro c hc; cases hc
        | succ i ihi =>
          intro c hc
          rw [preT_succ] at hc
          rcases List.mem_append.1 hc with hc | hc
          · exact ihi c hc
          rcases List.mem_append.1 hc with hc | hc
          · exact hsep _ _ _ c hc
          · exact hget i c hc
      have hmap : (l.map (Dm.tg leafX)).map encL = l.map (Dm.tg leafB) := by
        rw [List.map_map]
        apply List.ext_getElem (by simp)
        intro j h1 h2
        simp only [List.length_map] at h1
        rw [List.getElem_map, List.getElem_map]
        exact (hin j h1).2.1
      have henc : encL (lisT k (l.map (Dm.tg leafX))) = lisT k (l.map (Dm.tg leafB)) := by
        unfold lisT
        rw [encL_app, encL_app, preT_map encL encL_app rfl (by decide) (by decide), hmap, List.length_map, List.length_map]
        congr 1
        rcases hh with ⟨h, _⟩ | ⟨h, _⟩ <;> rw [h] <;> decide
      refine ⟨fun c hc => ?_, henc, ?_, ?_, ?_⟩
      · unfold lisT at hc
        rcases List.mem_append.1 hc with hc | hc
        · rcases hh with ⟨h, _⟩ | ⟨h, _⟩
          · rw [h] at hc
            have : c = 35 ∨ c = 40 := by simpa using hc
            unfold scN; omega
          · rw [h] at hc
            have : c = 40 := by simpa using hc
            unfold scN; omega
        rcases List.mem_append.1 hc with hc | hc
        · exact hpre _ _ _ c hc
        · have : c = 41 := by simpa using hc
          unfold scN; omega
      · unfold lisT; simp; omega
      · unfold lisT
        rcases hh with ⟨h, _⟩ | ⟨h, _⟩ <;> rw [h]
        · show (35 : Nat) ≠ 59; decide
        · show (40 : Nat) ≠ 59; decide
      · unfold lisT
        rcases hh with ⟨h, _⟩ | ⟨h, _⟩ <;> rw [h]
        · show blN 35 = false; decide
        · show blN 40 = false; decide
    · have h := leaf_first hok hk h10 h11 hby
      unfold Dm.tx Dm.tb
      rw [tg_leaf hk, tg_leaf hk]
      exact ⟨h.2.2.2.1, h.2.2.2.2, h.1, h.2.1, h.2.2.1⟩
end Go.Proofs.YtpahfhjgcflifaaGreatDoor
namespace Go.Proofs.YtpahfhjgcflifaaGreatDoor
open Go.RowKit

/-- From i on there are these words, and then it goes on at j. -/
def Scs (cs : List Nat) (i : Nat) (ws : List Wd) (j : Nat) : Prop := ∀ acc, wdsA cs i acc = wdsA cs j (acc ++ ws)
theorem Scs.refl (cs : List Nat) (i : Nat) : Scs cs i [] i := fun acc => by rw [List.append_nil]
theorem Scs.trans {cs : List Nat} {i j k : Nat} {ws vs : List Wd} (h : Scs cs i ws j) (h' : Scs cs j vs k) : Scs cs i (ws ++ vs) k := fun acc => by rw [h, h', List.append_assoc]
theorem wdsA_skp {cs : List Nat} {i j : Nat} (h : skp cs i = skp cs j) (acc : List Wd) : wdsA cs i acc = wdsA cs j acc := by
  rcases Nat.lt_or_ge (skp cs i) cs.length with hl | hl
  · cases hw : wrdA cs (skp cs i) with
    | none => rw [wdsA_bad hl hw, wdsA_bad (by rw [← h]; exact hl) (by rw [← h]; exact hw), h]
    | some p =>
      obtain ⟨x, q⟩ := p
      rw [wdsA_step hl hw, wdsA_step (i := j) (by rw [← h]; exact hl) (by rw [← h]; exact hw)]
  · rw [wdsA_end hl, wdsA_end (by rw [← h]; exact hl)]
theorem Scs.blank {cs : List Nat} {i : Nat} (hi : i < cs.length) (h : limb cs i = 32) : Scs cs i [] (i + 1) := fun acc => by
  rw [List.append_nil]
  exact wdsA_skp (skp_blank hi (by rw [h]; decide) (by rw [h]; decide)) acc
theorem Scs.one {cs : List Nat} {i j : Nat} {x : Wd} (hi : i < cs.length) (h59 : limb cs i ≠ 59) (hbl : blN (limb cs i) = false) (hw : wrdA cs i = some (x, j)) : Scs cs i [x] j := fun acc => by
  have hs := skp_stop hi h59 hbl
  exact wdsA_step (by rw [hs]; exact hi) (by rw [hs]; exact hw)
theorem Lies.left {u v cs : List Nat} {i : Nat} (h : Lies (u ++ v) cs i) : Lies u cs i := by
  obtain ⟨rest, h⟩ := h
  exact ⟨v ++ rest, by rw [h, List.append_assoc]⟩
theorem Lies.lt {u cs : List Nat} {i : Nat} (h : Lies u cs i) (hu : 0 < u.length) : i < cs.length := by have := h.le hu; omega
/-- The signs. -/
theorem scs_open {cs : List Nat} {i : Nat} (h : Lies [40] cs i) : Scs cs i [markW 0 i] (i + 1) := by
  have h0 : limb cs i = 40 := h.at (j := 0) (by simp)
  refine Scs.one (h.lt (by simp)) (by rw [h0]; decide) (by rw [h0]; decide) (wrdA_mark ?_)
  obtain ⟨rest, hr⟩ := h
  unfold markA pfx
  rw [hr]
  simp [List.range, List.range.loop, mText, mtab]
theorem scs_shut {cs : List Nat} {i : Nat} (h : Lies [41] cs i) : Scs cs i [markW 1 i] (i + 1) := by
  have h0 : limb cs i = 41 := h.at (j := 0) (by simp)
  refine Scs.one (h.lt (by simp)) (by rw [h0]; decide) (by rw [h0]; decide) (wrdA_mark ?_)
  obtain ⟨rest, hr⟩ := h
  unfold markA pfx
  rw [hr]
  simp [List.range, List.range.loop, mText, mtab]
theorem scs_vec {cs : List Nat} {i : Nat} (h : Lies [35, 40] cs i) : Scs cs i [markW 6 i] (i + 2) := by
  have h0 : limb cs i = 35 := h.at (j := 0) (by simp)
  refine Scs.one (h.lt (by simp)) (by rw [h0]; decide) (by rw [h0]; decide) (wrdA_mark ?_)
  obtain ⟨rest, hr⟩ := h
  unfold markA pfx
  rw [hr]
  simp [List.range, List.range.loop, mText, mtab]
theorem scs_dot {cs : List Nat} {i : Nat} (h : Lies [46, 32] cs i) : Scs cs i [dotW i] (i + 2) := by
  have h0 : limb cs i = 46 := h.at (j := 0) (by simp)
  have h1 : limb cs (i + 1) = 32 := h.at (j := 1) (by simp)
  have hle := h.le (by simp)
  simp only [List.length_cons, List.length_nil] at hle
  have hl : Lies [46] cs i := Lies.left (u := [46]) (v := [32]) h
  have hend : EndsAt cs (i + 1) := .inr ⟨by omega, by rw [h1]; decide⟩
  have ht := til_end_lies hl (by simp) hend (by decide)
  have hm : markA cs i = none := mark_none_of (by rw [h0]; decide) (by rw [h0]; decide)
  have hp : pfx [35, 92] cs i = false := by
    cases hp : pfx [35, 92] cs i with
    | false => rfl
    | true =>
      exfalso
      rcases pfx_iff.1 hp with ⟨_, h3⟩ | h3
      · have := h3 0 (by simp)
        rw [Nat.add_zero, h0] at this
        exact absurd this (by decide)
      · cases h3
  have hw : wrdA cs i = some (dotW i, i + 1) := by
    rw [wrdA_atm hm (by rw [h0]; decide) hp]
    unfold atmW
    rw [ht, hl.cut, if_pos (by decide)]
    rfl
  have h2 := (Scs.one (by omega) (by rw [h0]; decide) (by rw [h0]; decide) hw).trans (Scs.blank (by omega) h1)
  exact h2

/-- Where r goes: on, if there is room; else it ends with too deep or too large. -/
def Goes (good okk okc : Prop) (r ok : Except (Nat × Nat) (List Pt)) : Prop := (good → r = ok) ∧ (¬ good → ∃ a e, r = .error (a, e) ∧ (e = 5 ∨ e = 6) ∧ (okk → e = 6) ∧ (okc → e = 5))
theorem Goes.trans {g1 g2 k1 k2 c1 c2 : Prop} {r r1 r2 : Except (Nat × Nat) (List Pt)} (h : Goes g1 k1 c1 r r1) (h' : g1 → Goes g2 k2 c2 r1 r2) : Goes (g1 ∧ g2) (k1 ∧ k2) (c1 ∧ c2) r r2 := by
  refine ⟨fun hg => (h.1 hg.1).trans ((h' hg.1).1 hg.2), fun hn => ?_⟩
  by_cases h1 : g1
  · obtain ⟨a, e, e1, e2, e3, e4⟩ := (h' h1).2 fun h2 => hn ⟨h1, h2⟩
    exact ⟨a, e, (h.1 h1).trans e1, e2, fun hk => e3 hk.2, fun hc => e4 hc.2⟩
  · obtain ⟨a, e, e1, e2, e3, e4⟩ := h.2 h1
    exact ⟨a, e, e1, e2, fun hk => e3 hk.1, fun hc => e4 hc.1⟩
theorem Goes.cong {g g' k k' c c' : Prop} {r ok : Except (Nat × Nat) (List Pt)} (h : Goes g k c r ok) (hg : g ↔ g') (hk : k' → k) (hc : c' → c) : Goes g' k' c' r ok :=
  ⟨fun x => h.1 (hg.2 x), fun x => by
    obtain ⟨a, e, e1, e2, e3, e4⟩ := h.2 fun y => x (hg.1 y)
    exact ⟨a, e, e1, e2, fun y => e3 (hk y), fun y => e4 (hc y)⟩⟩
/-- One word. -/
theorem takesA_go {depth c : Nat} {ps qs : List Pt} {w : Wd} {ws : List Wd} {c' : Nat} (h : takeA depth c ps w = .ok (c', qs)) : takesA depth c ps (w :: ws) = takesA depth c' qs ws := by
  simp only [takesA, h]
theorem takesA_no {depth c : Nat} {ps : List Pt} {w : Wd} {ws : List Wd} {e : Nat} (h : takeA depth c ps w = .error e) : takesA depth c ps (w :: ws) = .error (w.pl, e) := by
  simp only [takesA, h]
/-- A word with which a datum begins. -/
theorem goes_begin {depth c f : Nat} {q : Pt} {ps : List Pt} {w : Wd} (more : List Wd) (hq : fullA q = false) (h2 : w.kind ≠ 2) (h4 : w.kind ≠ 4) (h5 : w.kind ≠ 5) (hd : deepA (q :: ps) + f = depth) :
    Goes (szW w ≤ f ∧ c + szW w ≤ 8192) (szW w ≤ f) (c + szW w ≤ 8192) (takesA depth c (q :: ps) (w :: more)) (if w.kind = 7 then takesA depth (c + 1) (addA (q :: ps) (leafD w)) more else takesA depth (c + szW w) (⟨w, [], 0⟩ :: q :: ps) more) := by
  have hb : takeA depth c (q :: ps) w = if depth < deepA (q :: ps) + szW w then .error 5 else if 8192 < c + szW w then .error 6
      else if w.kind = 7 then .ok (c + 1, addA (q :: ps) (leafD w)) else .ok (c + szW w, ⟨w, [], 0⟩ :: q :: ps) := by
    unfold takeA
    simp only
    rw [if_neg h2, if_neg h4, if_neg h5, if_neg (by rw [hq]; decide)]
  refine ⟨fun ⟨h1, h3⟩ => ?_, fun hn => ?_⟩
  · rw [if_neg (by omega), if_neg (by omega)] at hb
    by_cases h7 : w.kind = 7
    · rw [if_pos h7] at hb ⊢
      exact takesA_go hb
    · rw [if_neg h7] at hb ⊢
      exact takesA_go hb
  · by_cases h1 : szW w ≤ f
    · rw [if_neg (by omega), if_pos (by omega)] at hb
      exact ⟨_, 6, takesA_no hb, .inr rfl, fun _ => rfl, fun h => absurd ⟨h1, h⟩ hn⟩
    · rw [if_pos (by omega)] at hb
      exact ⟨_, 5, takesA_no hb, .inl rfl, fun h => absurd h h1, fun _ => rfl⟩
theorem addA_put' {p : Pt} {ps : List Pt} {d : Dm} (h6 : p.w.kind ≠ 6) (h5 : p.w.kind ≠ 5) : addA (p :: ps) d = { p with l := p.l ++ [d] } :: ps := by
  show (if p.w.kind = 6 then addA ps (abbA p.w d) else if p.w.kind = 5 then ps else { p with l := p.l ++ [d] } :: ps) = _
  rw [if_neg h6, if_neg h5]
theorem deepA_in {q : Pt} {ps : List Pt} (h : q.w.kind ≠ 0 ∧ q.w.kind ≠ 5) : deepA (q :: ps) = deepA ps + 1 := by
  unfold deepA
  rw [List.countP_cons_of_pos (by simpa using h)]
theorem deepA_set {q q' : Pt} {ps : List Pt} (h : q'.w = q.w) : deepA (q' :: ps) = deepA (q :: ps) := by
  unfold deepA
  rw [List.countP_cons, List.countP_cons, h]
/-- Words that are read as d, wherever it may stand. -/
def ReadsAs (ws : List Wd) (d : Dm) : Prop := ∃ d' : Dm, d'.strip = d.strip ∧ ∀ (depth c f : Nat) (q : Pt) (ps : List Pt) (more : List Wd), fullA q = false → deepA (q :: ps) + f = depth → c ≤ 8192 →
  Goes (okD f d = true ∧ c + d.sz ≤ 8192) (okD f d = true) (c + d.sz ≤ 8192) (takesA depth c (q :: ps) (ws ++ more)) (takesA depth (c + d.sz) (addA (q :: ps) d') more)
theorem strip_k {d e : Dm} (h : d.strip = e.strip) : d.k = e.k := by
  obtain ⟨k, t, n, r, l, a⟩ := d
  obtain ⟨k', t', n', r', l', a'⟩ := e
  rw [strip_mk, strip_mk] at h
  injection h
theorem leaf_sz {k : Int} {t : List Nat} {n : Bool} {r : List Nat} {a : Int} : (Dm.mk k t n r [] a).sz = 1 := by rw [sz_sumA]; rfl
/-- A leaf's level does not matter. -/
theorem okD_lev {f g : Nat} {k : Int} {t : List Nat} {n : Bool} {r : List Nat} {l : List Dm} {a : Int} (h : okD g (.mk k t n r l a) = true) (hk : ¬ (k = 1 ∨ k = 2 ∨ k = 3)) : okD f (.mk k t n r l a) = true ↔ 1 ≤ f := by
  cases g with
  | zero => rw [okD_zero] at h; cases h
  | succ g =>
    cases f with
    | zero => rw [okD_zero]; simp
    | succ f =>
      by_cases h7 : k = 7
      · subst h7
        rw [okD_int] at h ⊢
        rw [h]
        simp
      · rw [okD_leaf hk h7] at h ⊢
        rw [h]
        simp
theorem readsAs_leaf {g : Nat} {k : Int} {t : List Nat} {n : Bool} {r : List Nat} {l : List Dm} {a : Int} {dt : Dt} {i : Nat} (h : okD g (.mk k t n r l a) = true) (hk : ¬ (k = 1 ∨ k = 2 ∨ k = 3)) (hl : l = []) (hst : (leafD (leafW dt i)).strip = (Dm.mk k t n r l a).strip) :
    ReadsAs [leafW dt i] (.mk k t n r l a) := by
  subst hl
  refine ⟨_, hst, fun depth c f q ps more hq hd _ => ?_⟩
  have hb := goes_begin (c := c) (w := leafW dt i) more hq (by show (7 : Nat) ≠ 2; decide) (by show (7 : Nat) ≠ 4; decide) (by show (7 : Nat) ≠ 5; decide) hd
  have h7 : (leafW dt i).kind = 7 := rfl
  have hs : szW (leafW dt i) = 1 := rfl
  rw [if_pos h7, hs] at hb
  rw [leaf_sz]
  exact hb.cong (by rw [okD_lev h hk]) (fun h2 => (okD_lev h hk).1 h2) (fun h2 => h2)
/-- Where the dot is, behind the first i of n things. -/
def dotN (dot : Bool) (n i : Nat) : Nat := if dot = true ∧ i = n then n - 1 else 0
theorem dotN_no {dot : Bool} {n i : Nat} (h : i ≠ n) : dotN dot n i = 0 := if_neg fun x => h x.2
theorem szs_le {l : List Dm} {i : Nat} (h : i ≤ l.length) : szs l i ≤ szs l l.length := szs_mono h (Nat.le_refl _)
/-- What has been read of a list. -/
def ListAt (k : Int) (l : List Dm) (i : Nat) (ws : List Wd) : Prop := ∃ l' : List Dm, l'.length = i ∧ (∀ (j : Nat) (h : j < l'.length) (h2 : j < l.length), (l'[j]'h).strip = (l[j]'h2).strip) ∧
  ∀ (depth c f : Nat) (w0 : Wd) (ps : List Pt) (more : List Wd), (w0.kind = 1 ∨ (w0.kind = 3 ∧ k ≠ 2)) → deepA (⟨w0, [], 0⟩ :: ps) + f = depth → c ≤ 8192 →
    Goes ((∀ (j : Nat) (h : j < l.length), j < i → okD f (l[j]'h) = true) ∧ c + szs l i ≤ 8192) (∀ (j : Nat) (h : j < l.length), j < i → okD f (l[j]'h) = true) (c + szs l i ≤ 8192)
      (takesA depth c (⟨w0, [], 0⟩ :: ps) (ws ++ more)) (takesA depth (c + szs l i) (⟨w0, l', dotN (decide (k = 2)) l.length i⟩ :: ps) more)
theorem ListAt.zero (k : Int) (l : List Dm) (h : k = 2 → 0 < l.length) : ListAt k l 0 [] := by
  refine ⟨[], rfl, fun j h => by simp at h, fun depth c f w0 ps more hw hd hc => ?_⟩
  have e : dotN (decide (k = 2)) l.length 0 = 0 := by
    unfold dotN
    split
    · rename_i hh
      have := h (of_decide_eq_true hh.1)
      omega
    · rfl
  rw [e, szs_zero]
  exact ⟨fun _ => rfl, fun hn => absurd ⟨fun j h hj => absurd hj (by omega), by omega⟩ hn⟩
/-- One more. -/
theorem ListAt.step {k : Int} {l : List Dm} {i : Nat} {ws wd : List Wd} {p : Nat} (h : ListAt k l i ws) (hi : i < l.length) (h2 : k = 2 → 2 ≤ l.length) (hd : ReadsAs wd (l[i]'hi)) : ListAt k l (i + 1) (ws ++ ((if decide (k = 2) = true ∧ i + 1 = l.length then [dotW p] else []) ++ wd)) := by
  obtain ⟨l', hl, hst, hgo⟩ := h
  obtain ⟨d', hd', hrd⟩ := hd
  refine ⟨l' ++ [d'], by simp [hl], fun j h1 h3 => ?_, fun depth c f w0 ps more hw hdp hc => ?_⟩
  · rcases Nat.lt_or_ge j l'.length with h4 | h4
    · rw [List.getElem_append_left h4]; exact hst j h4 h3
    · have : j = i := by simp at h1; omega
      subst this
      rw [List.getElem_append_right h4]
      simpa using hd'
  · have a1 := hgo depth c f w0 ps (((if decide (k = 2) = true ∧ i + 1 = l.length then [dotW p] else []) ++ wd) ++ more) hw hdp hc
    rw [← List.append_assoc] at a1
    rw [dotN_no (by omega)] at a1
    have hset : ∀ (m : List Dm) (dt : Nat), deepA (⟨w0, m, dt⟩ :: ps) + f = depth := fun m dt => by rw [deepA_set (q := ⟨w0, [], 0⟩) (q' := ⟨w0, m, dt⟩) rfl]; exact hdp
    have hkind : w0.kind ≠ 6 ∧ w0.kind ≠ 5 := by rcases hw with h | h <;> omega
    have e1 : szs l (i + 1) = szs l i + (l[i]'hi).sz := szs_succ hi
    have fin : ∀ dt, (dt = 0 ∨ dt = i) → dotN (decide (k = 2)) l.length (i + 1) = dt → c + szs l i ≤ 8192 → Goes (okD f (l[i]'hi) = true ∧ c + szs l i + (l[i]'hi).sz ≤ 8192) (okD f (l[i]'hi) = true) (c + szs l i + (l[i]'hi).sz ≤ 8192) (takesA depth (c + szs l i) (⟨w0, l', dt⟩ :: ps) (wd ++ more)) (takesA depth (c + szs l (i + 1)) (⟨w0, l' ++ [d'], dotN (decide (k = 2)) l.length (i + 1)⟩ :: ps) more) := by
      intro dt hdt he hcc
      have b1 := hrd depth (c + szs l i) f ⟨w0, l', dt⟩ ps more (by
        unfold fullA
        rcases hdt with rfl | rfl
        · simp
        · simp [hl]) (hset _ _) hcc
      rw [addA_put' (p := ⟨w0, l', dt⟩) hkind.1 hkind.2, Nat.add_assoc, ← e1] at b1
      rw [he]
      rw [Nat.add_assoc, ← e1]
      exact b1
    have whole : ∀ {r1 : Except (Nat × Nat) (List Pt)}, (c + szs l i ≤ 8192 → Goes (okD f (l[i]'hi) = true ∧ c + szs l i + (l[i]'hi).sz ≤ 8192) (okD f (l[i]'hi) = true) (c + szs l i + (l[i]'hi).sz ≤ 8192) r1 (takesA depth (c + szs l (i + 1)) (⟨w0, l' ++ [d'], dotN (decide (k = 2)) l.length (i + 1)⟩ :: ps) more)) →
        Goes ((∀ (j : Nat) (h : j < l.length), j < i → okD f (l[j]'h) = true) ∧ c + szs l i ≤ 8192) (∀ (j : Nat) (h : j < l.length), j < i → okD f (l[j]'h) = true) (c + szs l i ≤ 8192) (takesA depth c (⟨w0, [], 0⟩ :: ps) (ws ++ ((if decide (k = 2) = true ∧ i + 1 = l.length then [dotW p] else []) ++ wd) ++ more)) r1 →
        Goes ((∀ (j : Nat) (h : j < l.length), j < i + 1 → okD f (l[j]'h) = true) ∧ c + szs l (i + 1) ≤ 8192) (∀ (j : Nat) (h : j < l.length), j < i + 1 → okD f (l[j]'h) = true) (c + szs l (i + 1) ≤ 8192) (takesA depth c (⟨w0, [], 0⟩ :: ps) (ws ++ ((if decide (k = 2) = true ∧ i + 1 = l.length then [dotW p] else []) ++ wd) ++ more)) (takesA depth (c + szs l (i + 1)) (⟨w0, l' ++ [d'], dotN (decide (k = 2)) l.length (i + 1)⟩ :: ps) more) := by
      intro r1 g2 g1
      refine (g1.trans fun hg => g2 hg.2).cong ?_ ?_ (fun _ => ⟨by omega, by omega⟩)
      · constructor
        · rintro ⟨⟨x1, x2⟩, x3, x4⟩
          refine ⟨fun j h hj => ?_, by omega⟩
          rcases Nat.lt_or_ge j i with h5 | h5
          · exact x1 j h h5
          · obtain rfl : j = i := by omega
            exact x3
        · rintro ⟨x1, x2⟩
          exact ⟨⟨fun j h hj => x1 j h (by omega), by omega⟩, x1 i hi (by omega), by omega⟩
      · exact fun x1 => ⟨fun j h hj => x1 j h (by omega), x1 i hi (by omega)⟩
    by_cases hdot : decide (k = 2) = true ∧ i + 1 = l.length
    · have hk2 : k = 2 := of_decide_eq_true hdot.1
      have hn2 := h2 hk2
      have hw1 : w0.kind = 1 := by rcases hw with h | h; exact h; exact absurd hk2 h.2
      have hdn : dotN (decide (k = 2)) l.length (i + 1) = i := by unfold dotN; rw [if_pos ⟨hdot.1, hdot.2⟩]; omega
      refine whole (r1 := takesA depth (c + szs l i) (⟨w0, l', i⟩ :: ps) (wd ++ more)) (fin i (.inr rfl) hdn) ?_
      have ht : takeA depth (c + szs l i) (⟨w0, l', 0⟩ :: ps) (dotW p) = .ok (c + szs l i, ⟨w0, l', i⟩ :: ps) := by
        have h2 : ¬ (dotW p).kind = 2 := by show ¬ (4 : Nat) = 2; decide
        have h4 : (dotW p).kind = 4 := rfl
        unfold takeA
        simp only
        rw [if_neg h2, if_pos h4, if_neg (by rintro (h | h | h); exact h hw1; omega; omega), hl]
      have e2 : (if decide (k = 2) = true ∧ i + 1 = l.length then [dotW p] else []) ++ wd ++ more = dotW p :: (wd ++ more) := by rw [if_pos hdot]; rfl
      have e3 := takesA_go (ws := wd ++ more) ht
      rw [e2, e3] at a1
      rw [List.append_assoc, e2]
      rw [List.append_assoc, e2] at a1
      exact a1
    · have hdn : dotN (decide (k = 2)) l.length (i + 1) = 0 := if_neg hdot
      refine whole (r1 := takesA depth (c + szs l i) (⟨w0, l', 0⟩ :: ps) (wd ++ more)) (fin 0 (.inl rfl) hdn) ?_
      have e2 : (if decide (k = 2) = true ∧ i + 1 = l.length then [dotW p] else []) ++ wd ++ more = wd ++ more := by rw [if_neg hdot]; rfl
      rw [e2] at a1
      exact a1
/-- The list or vector that was read. -/
theorem dat_strip {k : Int} {l l' : List Dm} {w0 : Wd} {a : Int} (hk : k = 1 ∨ k = 2 ∨ k = 3) (hw : (k = 3 ∧ w0.kind = 3) ∨ (k ≠ 3 ∧ w0.kind = 1)) (he : endA k l = true) (hl : l'.length = l.length) (hst : ∀ (j : Nat) (h : j < l'.length) (h2 : j < l.length), (l'[j]'h).strip = (l[j]'h2).strip) :
    (datA ⟨w0, l', dotN (decide (k = 2)) l.length l.length⟩).strip = (Dm.mk k [] false [] l a).strip := by
  have hmap : l'.map Dm.strip = l.map Dm.strip := by
    apply List.ext_getElem (by simp [hl])
    intro j h1 h2
    simp only [List.length_map] at h1 h2
    rw [List.getElem_map, List.getElem_map]
    exact hst j h1 h2
  unfold datA
  simp only
  rcases hw with ⟨rfl, h3⟩ | ⟨h3, h1⟩
  · rw [if_pos h3, strip_mk, strip_mk, hmap]
  · rw [if_neg (by omega)]
    by_cases h2 : k = 2
    · subst h2
      unfold endA at he
      rw [if_pos rfl] at he
      cases hla : l.getLast? with
      | none => rw [hla] at he; cases he
      | some x =>
        rw [hla] at he
        simp only [Bool.and_eq_true, decide_eq_true_iff, Bool.not_eq_true', decide_eq_false_iff_not] at he
        have hdn : dotN (decide ((2 : Int) = 2)) l.length l.length = l.length - 1 := by unfold dotN; rw [if_pos ⟨by decide, rfl⟩]
        rw [hdn, if_pos (by omega)]
        have hli : l.length - 1 < l'.length := by omega
        have hli2 : l.length - 1 < l.length := by omega
        have hx : l[l.length - 1]'hli2 = x := by
          rw [List.getLast?_eq_getElem?, List.getElem?_eq_getElem hli2] at hla
          exact Option.some.inj hla
        have hkx : (l'[l.length - 1]'hli).k = x.k := by rw [← hx]; exact strip_k (hst _ hli hli2)
        rw [List.getElem?_eq_getElem hli]
        show (joinA (l'.take (l.length - 1)) (l'[l.length - 1]'hli) _).strip = _
        unfold joinA
        rw [if_neg (by rw [hkx]; exact he.2), strip_mk, strip_mk]
        have e : l'.take (l.length - 1) ++ [l'[l.length - 1]'hli] = l' := by
          rw [List.take_append_getElem hli, show l.length - 1 + 1 = l'.length by omega, List.take_length]
        rw [e, hmap]
    · have hdn : dotN (decide (k = 2)) l.length l.length = 0 := by unfold dotN; rw [if_neg (by simp [h2])]
      rw [hdn, if_neg (by omega)]
      obtain rfl : k = 1 := by omega
      rw [strip_mk, strip_mk, hmap]
theorem readsAs_node {g : Nat} {k : Int} {t : List Nat} {n : Bool} {r : List Nat} {l : List Dm} {a : Int} {wl : List Wd} {w0 : Wd} {p : Nat} (h : okD g (.mk k t n r l a) = true) (hk : k = 1 ∨ k = 2 ∨ k = 3) (hw : (k = 3 ∧ w0.kind = 3) ∨ (k ≠ 3 ∧ w0.kind = 1)) (hl : ListAt k l l.length wl) : ReadsAs (w0 :: (wl ++ [markW 1 p])) (.mk k t n r l a) := by
  obtain ⟨f0, _, rfl, rfl, rfl, he, _⟩ := okD_parts h hk
  obtain ⟨l', hl1, hst, hgo⟩ := hl
  refine ⟨_, dat_strip hk hw he hl1 hst, fun depth c f q ps more hq hd hc => ?_⟩
  have hwk : w0.kind = 1 ∨ w0.kind = 3 := by rcases hw with h | h <;> omega
  have hwk' : w0.kind = 1 ∨ (w0.kind = 3 ∧ k ≠ 2) := by rcases hw with h | h <;> omega
  have hs : szW w0 = 1 := by unfold szW; rw [if_neg (by omega)]
  have b1 := goes_begin (c := c) (w := w0) ((wl ++ [markW 1 p]) ++ more) hq (by omega) (by omega) (by omega) hd
  rw [if_neg (by omega), hs] at b1
  have hsz : (Dm.mk k [] false [] l a).sz = 1 + szs l l.length := sz_node
  have hnode : okD f (.mk k [] false [] l a) = true ↔ (1 ≤ f ∧ ∀ (j : Nat) (h : j < l.length), j < l.length → okD (f - 1) (l[j]'h) = true) := by
    cases f with
    | zero => rw [okD_zero]; simp
    | succ f =>
      rw [okD_node hk, he]
      simp only [Nat.succ_sub_one, decide_true, blankA, Bool.not_false, List.length_nil, Bool.and_self, Bool.true_and]
      constructor
      · intro h
        refine ⟨by omega, fun j hj _ => ?_⟩
        exact List.all_eq_true.1 h _ (List.getElem_mem hj)
      · rintro ⟨_, h⟩
        exact all_upto fun j hj => h j hj hj
  rw [hsz]
  have hclose : takesA depth (c + 1 + szs l l.length) (⟨w0, l', dotN (decide (k = 2)) l.length l.length⟩ :: q :: ps) (markW 1 p :: more) = takesA depth (c + (1 + szs l l.length)) (addA (q :: ps) (datA ⟨w0, l', dotN (decide (k = 2)) l.length l.length⟩)) more := by
    rw [← Nat.add_assoc]
    refine takesA_go ?_
    have h2 : (markW 1 p).kind = 2 := rfl
    have hlk : lacksA ⟨w0, l', dotN (decide (k = 2)) l.length l.length⟩ = false := by
      unfold lacksA dotN
      simp only [hl1]
      split
      · have : ¬ (0 < l.length - 1 ∧ l.length = l.length - 1) := by omega
        simp only [Bool.and_eq_false_iff, decide_eq_false_iff_not]
        omega
      · simp
    unfold takeA
    simp only
    rw [if_pos h2, if_neg (by rintro (h | h); omega; rw [hlk] at h; cases h)]
  refine (b1.trans (g2 := (∀ (j : Nat) (h : j < l.length), j < l.length → okD (f - 1) (l[j]'h) = true) ∧ c + 1 + szs l l.length ≤ 8192) (k2 := ∀ (j : Nat) (h : j < l.length), j < l.length → okD (f - 1) (l[j]'h) = true) (c2 := c + 1 + szs l l.length ≤ 8192) (r2 := takesA depth (c + (1 + szs l l.length)) (addA (q :: ps) (datA ⟨w0, l', dotN (decide (k = 2)) l.length l.length⟩)) more) fun hg => ?_).cong ?_ ?_ (fun _ => ⟨by omega, by omega⟩)
  · have hd2 : deepA (⟨w0, [], 0⟩ :: q :: ps) + (f - 1) = depth := by
      rw [deepA_in (q := ⟨w0, [], 0⟩) (by show w0.kind ≠ 0 ∧ w0.kind ≠ 5; omega)]
      omega
    have b2 := hgo depth (c + 1) (f - 1) w0 (q :: ps) ([markW 1 p] ++ more) hwk' hd2 hg.2
    rw [← List.append_assoc] at b2
    rw [show [markW 1 p] ++ more = markW 1 p :: more from rfl, hclose] at b2
    exact b2
  · rw [hnode]
    constructor
    · rintro ⟨⟨x1, x2⟩, x3, x4⟩
      exact ⟨⟨x1, x3⟩, by omega⟩
    · rintro ⟨⟨x1, x3⟩, x4⟩
      exact ⟨⟨x1, by omega⟩, x3, by omega⟩
  · exact fun x => hnode.1 x
theorem lies_next {u r cs : List Nat} {c p : Nat} (h : Lies (u ++ c :: r) cs p) : limb cs (p + u.length) = c ∧ p + u.length < cs.length := by
  have h2 : Lies (c :: r) cs (p + u.length) := h.tail
  have h3 := h2.at (j := 0) (by simp)
  rw [Nat.add_zero] at h3
  exact ⟨h3, h2.lt (by simp)⟩
theorem getD_map {α β : Type} {f : α → List β} {l : List α} {i : Nat} (h : i < l.length) : (l.map f).getD i [] = f (l[i]'h) := by
  rw [List.getD_eq_getElem?_getD, List.getElem?_map, List.getElem?_eq_getElem h]
  rfl
theorem scs_sep {dot : Bool} {n i : Nat} {x cs : List Nat} {s : Nat} (h : Lies (sepT dot n i ++ x) cs s) : Scs cs s (if dot = true ∧ i + 1 = n then [dotW (s + (if 0 < i then 1 else 0))] else []) (s + (sepT dot n i).length) := by
  by_cases h0 : 0 < i
  · by_cases hd : dot = true ∧ i + 1 = n
    · have e : sepT dot n i = [32] ++ [46, 32] := by unfold sepT; rw [if_pos h0, if_pos hd]
      rw [e] at h ⊢
      rw [if_pos hd, if_pos h0]
      have h1 : limb cs s = 32 := (h.left).at (j := 0) (by simp)
      have h2 : Lies [46, 32] cs (s + 1) := (h.left).tail
      exact (Scs.blank ((h.left).lt (by simp)) h1).trans (scs_dot h2)
    · have e : sepT dot n i = [32] := by unfold sepT; rw [if_pos h0, if_neg hd]; rfl
      rw [e] at h ⊢
      rw [if_neg hd]
      have h1 : limb cs s = 32 := (h.left).at (j := 0) (by simp)
      exact Scs.blank ((h.left).lt (by simp)) h1
  · by_cases hd : dot = true ∧ i + 1 = n
    · have e : sepT dot n i = [46, 32] := by unfold sepT; rw [if_neg h0, if_pos hd]; rfl
      rw [e] at h ⊢
      rw [if_pos hd, if_neg h0]
      exact scs_dot (h.left)
    · have e : sepT dot n i = [] := by unfold sepT; rw [if_neg h0, if_neg hd]; rfl
      rw [e, if_neg hd]
      exact Scs.refl _ _
/-- A datum's text, wherever it stands, is read as it. -/
theorem reads_dm : ∀ (m : Nat) (d : Dm), d.sz ≤ m → ∀ g, okD g d = true → plainA d = true → DBy d → ∀ (cs : List Nat) (p : Nat), Lies d.tx cs p → EndsAt cs (p + d.tx.length) → ∃ ws, Scs cs p ws (p + d.tx.length) ∧ ReadsAs ws d := by
  intro m
  induction m with
  | zero => intro d h; have := sz_pos d; omega
  | succ m ih =>
    intro d hm g hok hpl hdb cs p hlie hend
    have htx := tx_enc _ d (Nat.le_refl _) g hok hpl hdb
    obtain ⟨k, t, n, r, l, a⟩ := d
    obtain ⟨h10, h11, hpl2⟩ := plain_mk hpl
    obtain ⟨hby, hdb2⟩ := hdb.open'
    by_cases hk : k = 1 ∨ k = 2 ∨ k = 3
    · obtain ⟨f, _, _, _, _, he, hall⟩ := okD_parts hok hk
      have hmem : ∀ (j : Nat) (hj : j < l.length), (l[j]'hj).sz ≤ m := fun j hj => by
        have := Dm.sz_mem (d := .mk k t n r l a) (x := l[j]'hj) (List.getElem_mem hj)
        omega
      have hk2 : k = 2 → 2 ≤ l.length := by
        intro h2
        unfold endA at he
        rw [if_pos h2] at he
        cases hla : l.getLast? with
        | none => rw [hla] at he; cases he
        | some x =>
          rw [hla] at he
          simp only [Bool.and_eq_true, decide_eq_true_iff] at he
          exact he.1
      unfold Dm.tx at hlie hend ⊢
      rw [tg_node hk] at hlie hend ⊢
      unfold lisT at hlie hend ⊢
      rw [List.length_map] at hlie hend ⊢
      generalize hxs : l.map (Dm.tg leafX) = xs at *
      have hbody : Lies (preT (decide (k = 2)) l.length xs l.length ++ [41]) cs (p + (hdT k).length) := hlie.tail
      have loop : ∀ i, i ≤ l.length → ∃ ws, Scs cs (p + (hdT k).length) ws (p + (hdT k).length + (preT (decide (k = 2)) l.length xs i).length) ∧ ListAt k l i ws := by
        intro i
        induction i with
        | zero => intro _; exact ⟨[], Scs.refl _ _, ListAt.zero k l (fun h2 => by have := hk2 h2; omega)⟩
        | succ i ihi =>
          intro hi
          obtain ⟨ws, hsc, hat⟩ := ihi (by omega)
          have hx : xs.getD i [] = (l[i]'(by omega)).tx := by rw [← hxs]; exact getD_map (by omega)
          have hx1 := tx_enc _ (l[i]'(by omega)) (Nat.le_refl _) f (hall i (by omega)) (hpl2 i (by omega)) (hdb2 i (by omega))
          -- what follows the thing
          have hnext : EndsAt cs (p + (hdT k).length + (preT (decide (k = 2)) l.length xs (i + 1)).length) := by
            have key : ∃ c r, Lies (preT (decide (k = 2)) l.length xs (i + 1) ++ c :: r) cs (p + (hdT k).length) ∧ enN c = true := by
              by_cases hlast : i + 1 = l.length
              · rw [hlast]
                exact ⟨41, [], hbody, by decide⟩
              · obtain ⟨r, hr⟩ := (preT_more (decide (k = 2)) l.length xs (i + 1) (l.length - (i + 1))).2 (by omega) (by omega)
                rw [show i + 1 + (l.length - (i + 1)) = l.length by omega] at hr
                rw [hr] at hbody
                exact ⟨32, r ++ [41], by rw [← List.cons_append, ← List.append_assoc]; exact hbody, by decide⟩
            obtain ⟨c, r, h1, h2⟩ := key
            obtain ⟨h3, h4⟩ := lies_next h1
            exact .inr ⟨h4, by rw [h3]; exact h2⟩
          have hpre : Lies (preT (decide (k = 2)) l.length xs (i + 1)) cs (p + (hdT k).length) := by
            obtain ⟨r, hr⟩ := (preT_more (decide (k = 2)) l.length xs (i + 1) (l.length - (i + 1))).1
            rw [show i + 1 + (l.length - (i + 1)) = l.length by omega] at hr
            rw [hr, List.append_assoc] at hbody
            exact hbody.left
          rw [preT_succ] at hpre hnext
          have hsx : Lies (sepT (decide (k = 2)) l.length i ++ xs.getD i []) cs (p + (hdT k).length + (preT (decide (k = 2)) l.length xs i).length) := hpre.tail
          rw [preT_succ]
          obtain ⟨s, hs⟩ : ∃ s, s = p + (hdT k).length + (preT (decide (k = 2)) l.length xs i).length := ⟨_, rfl⟩
          rw [← hs] at hsx hsc
          have e0 : p + (hdT k).length + (preT (decide (k = 2)) l.length xs i ++ (sepT (decide (k = 2)) l.length i ++ xs.getD i [])).length = s + (sepT (decide (k = 2)) l.length i).length + (xs.getD i []).length := by
            rw [List.length_append, List.length_append]; omega
          rw [e0] at hnext ⊢
          have hsep := scs_sep hsx
          have hxl : Lies (l[i]'(by omega)).tx cs (s + (sepT (decide (k = 2)) l.length i).length) := by rw [← hx]; exact hsx.tail
          rw [hx] at hnext ⊢
          obtain ⟨wd, hwd, hrd⟩ := ih (l[i]'(by omega)) (hmem i (by omega)) f (hall i (by omega)) (hpl2 i (by omega)) (hdb2 i (by omega)) cs _ hxl hnext
          exact ⟨_, (hsc.trans (hsep.trans hwd)), ListAt.step hat (by omega) hk2 hrd⟩
      obtain ⟨wl, hsc, hat⟩ := loop l.length (Nat.le_refl _)
      have hshut := scs_shut (hbody.tail)
      have hlen : p + (hdT k ++ (preT (decide (k = 2)) l.length xs l.length ++ [41])).length = p + (hdT k).length + (preT (decide (k = 2)) l.length xs l.length).length + 1 := by
        rw [List.length_append, List.length_append]; simp; omega
      rw [hlen]
      obtain ⟨_, hh⟩ := hdT_facts k
      have hhd := hlie.left
      rcases hh with ⟨h1, h3⟩ | ⟨h1, h3⟩
      · rw [h1] at hhd hsc hshut ⊢
        exact ⟨_, (scs_vec hhd).trans (hsc.trans hshut), readsAs_node hok hk (.inl ⟨h3, rfl⟩) hat⟩
      · rw [h1] at hhd hsc hshut ⊢
        exact ⟨_, (scs_open hhd).trans (hsc.trans hshut), readsAs_node hok hk (.inr ⟨h3, rfl⟩) hat⟩
    · have hx : (Dm.mk k t n r l a).tx = leafX k t n r := by unfold Dm.tx; exact tg_leaf hk
      rw [hx] at hlie hend htx ⊢
      obtain ⟨dt, hw, hst⟩ := leaf_word hok hk h10 h11 hby hlie hend
      exact ⟨_, Scs.one (hlie.lt htx.2.2.1) (by rw [show limb cs p = limb (leafX k t n r) 0 from hlie.at (j := 0) htx.2.2.1]; exact htx.2.2.2.1) (by rw [show limb cs p = limb (leafX k t n r) 0 from hlie.at (j := 0) htx.2.2.1]; exact htx.2.2.2.2) hw, readsAs_leaf hok hk (leaf_parts hok hk h10 h11).1 hst⟩
/-- An Abbrev ahead of what is read as d. -/
theorem readsAs_abb {wd : List Wd} {d : Dm} {w0 : Wd} {a a' : Int} (h : ReadsAs wd d) (hw : w0.kind = 6) (hs : symbA w0.txt = true) : ReadsAs (w0 :: wd) (.mk 1 [] false [] [.mk 4 w0.txt false [] [] a', d] a) := by
  obtain ⟨d', hd', hgo⟩ := h
  refine ⟨abbA w0 d', ?_, fun depth c f q ps more hq hd hc => ?_⟩
  · unfold abbA
    rw [strip_mk, strip_mk]
    simp only [List.map_cons, List.map_nil, strip_mk, hd']
  · have hsz : szW w0 = 2 := by unfold szW; rw [if_pos hw]
    have hz : (Dm.mk 1 [] false [] [.mk 4 w0.txt false [] [] a', d] a).sz = 2 + d.sz := by
      rw [sz_sumA]
      simp only [sumA, List.map_cons, List.map_nil, List.sum_cons, List.sum_nil, sz_sumA]
      omega
    have hok : okD f (.mk 1 [] false [] [.mk 4 w0.txt false [] [] a', d] a) = true ↔ (2 ≤ f ∧ okD (f - 1) d = true) := by
      cases f with
      | zero => rw [okD_zero]; simp
      | succ f =>
        rw [okD_node (.inl rfl)]
        have e1 : endA 1 [Dm.mk 4 w0.txt false [] [] a', d] = true := rfl
        rw [e1]
        simp only [Nat.succ_sub_one, decide_true, blankA, Bool.not_false, List.length_nil, Bool.and_self, Bool.true_and, List.all_cons, List.all_nil, Bool.and_true, Bool.and_eq_true]
        constructor
        · rintro ⟨_, h2⟩
          refine ⟨?_, h2⟩
          cases f with
          | zero => rw [okD_zero] at h2; cases h2
          | succ f => omega
        · rintro ⟨h1, h2⟩
          refine ⟨?_, h2⟩
          obtain ⟨f, rfl⟩ : ∃ g, f = g + 1 := ⟨f - 1, by omega⟩
          rw [okD_leaf (by omega) (by omega)]
          unfold wrtA
          rw [if_pos rfl, hs]
          rfl
    have b1 := goes_begin (c := c) (w := w0) (wd ++ more) hq (by omega) (by omega) (by omega) hd
    rw [if_neg (by omega), hsz] at b1
    rw [hz]
    refine (b1.trans (g2 := okD (f - 1) d = true ∧ c + 2 + d.sz ≤ 8192) (k2 := okD (f - 1) d = true) (c2 := c + 2 + d.sz ≤ 8192) (r2 := takesA depth (c + (2 + d.sz)) (addA (q :: ps) (abbA w0 d')) more) fun hg => ?_).cong ?_ ?_ (fun _ => ⟨by omega, by omega⟩)
    · have hd2 : deepA (⟨w0, [], 0⟩ :: q :: ps) + (f - 1) = depth := by
        rw [deepA_in (q := ⟨w0, [], 0⟩) (by show w0.kind ≠ 0 ∧ w0.kind ≠ 5; omega)]
        omega
      have b2 := hgo depth (c + 2) (f - 1) ⟨w0, [], 0⟩ (q :: ps) more (by simp [fullA]) hd2 hg.2
      have e : addA (⟨w0, [], 0⟩ :: q :: ps) d' = addA (q :: ps) (abbA w0 d') := by
        show (if w0.kind = 6 then _ else _) = _
        rw [if_pos hw]
      rw [e, Nat.add_assoc] at b2
      rw [Nat.add_assoc]
      exact b2
    · rw [hok]
      constructor
      · rintro ⟨⟨x1, x2⟩, x3, x4⟩
        exact ⟨⟨x1, x3⟩, by omega⟩
      · rintro ⟨⟨x1, x3⟩, x4⟩
        exact ⟨⟨x1, by omega⟩, x3, by omega⟩
    · exact fun x => hok.1 x
/-- A Skip ahead of what is read as d: nothing. -/
theorem skips_of {wd : List Wd} {d : Dm} {w0 : Wd} (h : ReadsAs wd d) (hw : w0.kind = 5) {depth c f : Nat} {q : Pt} {ps : List Pt} (more : List Wd) (hd : deepA (q :: ps) + f = depth) (hc : c ≤ 8192) :
    Goes (okD f d = true ∧ c + d.sz ≤ 8192) (okD f d = true) (c + d.sz ≤ 8192) (takesA depth c (q :: ps) (w0 :: (wd ++ more))) (takesA depth (c + d.sz) (q :: ps) more) := by
  obtain ⟨d', _, hgo⟩ := h
  have hp : takeA depth c (q :: ps) w0 = .ok (c, ⟨w0, [], 0⟩ :: q :: ps) := by
    unfold takeA
    simp only
    rw [if_neg (by omega), if_neg (by omega), if_pos hw]
  rw [takesA_go hp]
  have e0 : deepA (⟨w0, [], 0⟩ :: q :: ps) = deepA (q :: ps) := by
    unfold deepA
    rw [List.countP_cons_of_neg (by simp [hw])]
  have b := hgo depth c f ⟨w0, [], 0⟩ (q :: ps) more (by simp [fullA]) (by rw [e0]; exact hd) hc
  have e : addA (⟨w0, [], 0⟩ :: q :: ps) d' = q :: ps := by
    show (if w0.kind = 6 then _ else if w0.kind = 5 then _ else _) = _
    rw [if_neg (by omega), if_pos hw]
  rw [e] at b
  exact b
/-- Characters that, wherever they stand, are read as d. -/
structure Writes (s : List Nat) (d : Dm) : Prop where
  pos : 0 < s.length
  reads : ∀ (cs : List Nat) (p : Nat), Lies s cs p → EndsAt cs (p + s.length) → ∃ ws, Scs cs p ws (p + s.length) ∧ ReadsAs ws d
theorem writes_dm {d : Dm} {g : Nat} (hok : okD g d = true) (hpl : plainA d = true) (hdb : DBy d) : Writes d.tx d :=
  ⟨(tx_enc _ d (Nat.le_refl _) g hok hpl hdb).2.2.1, fun cs p h1 h2 => reads_dm _ d (Nat.le_refl _) g hok hpl hdb cs p h1 h2⟩
theorem Lies.mk {a u b : List Nat} : Lies u (a ++ u ++ b) a.length := ⟨b, by rw [List.append_assoc, List.drop_left]⟩
/-- In parentheses. -/
theorem Writes.paren {s : List Nat} {d : Dm} {g : Nat} {a : Int} (h : Writes s d) (hok : okD g d = true) : Writes (40 :: (s ++ [41])) (.mk 1 [] false [] [d] a) := by
  refine ⟨by simp, fun cs p hl _ => ?_⟩
  have hl2 : Lies (s ++ [41]) cs (p + 1) := Lies.tail (u := [40]) hl
  obtain ⟨h3, h4⟩ := lies_next (u := s) (c := 41) (r := []) hl2
  obtain ⟨ws, h5, h6⟩ := h.reads cs (p + 1) hl2.left (.inr ⟨h4, by rw [h3]; decide⟩)
  have hat := ListAt.step (p := 0) (ListAt.zero 1 [d] (fun h => absurd h (by decide))) (by simp) (fun h => absurd h (by decide)) (wd := ws) h6
  have hsh := scs_shut (cs := cs) (i := p + 1 + s.length) hl2.tail
  have hl3 : (40 :: (s ++ [41])).length = s.length + 2 := by simp
  have hlen : p + (40 :: (s ++ [41])).length = p + 1 + s.length + 1 := by rw [hl3]; omega
  rw [hlen]
  have hokl : okD (g + 1) (.mk 1 [] false [] [d] a) = true := by
    rw [okD_node (.inl rfl)]
    simp [blankA, endA, hok]
  have e0 : (if decide ((1 : Int) = 2) = true ∧ 0 + 1 = [d].length then [dotW 0] else []) ++ ws = ws := by rw [if_neg (fun h => absurd h.1 (by decide))]; rfl
  rw [e0] at hat
  exact ⟨_, (scs_open (Lies.left (u := [40]) hl)).trans (h5.trans hsh), readsAs_node (l := [d]) hokl (.inl rfl) (.inr ⟨by decide, rfl⟩) hat⟩
theorem symb_quote : symbA (mName 2) = true := by
  have hm : mName 2 = [113, 117, 111, 116, 101] := rfl
  have hby : By (mName 2) := by_of (by decide)
  have hch : chars (mName 2) 0 = (mName 2, none) := by
    have h1 := chars_enc (mName 2) (fun c hc => by
      have h2 : c = 113 ∨ c = 117 ∨ c = 111 ∨ c = 116 ∨ c = 101 := by simpa [hm] using hc
      unfold scN
      omega)
    rwa [show encL (mName 2) = mName 2 by decide] at h1
  have hs : symA (mName 2) = true := symA_yes (by decide) (by decide) (by decide) (by decide) (by decide) (by rw [hch]) (by rw [hch]; decide)
  unfold symbA
  rw [atmA_symb hby hs]
  rfl
/-- Behind a quote. -/
theorem Writes.quote {s : List Nat} {d : Dm} {a a' : Int} (h : Writes s d) : Writes (39 :: s) (.mk 1 [] false [] [.mk 4 (mName 2) false [] [] a', d] a) := by
  refine ⟨by simp, fun cs p hl hend => ?_⟩
  have hl2 : Lies s cs (p + 1) := Lies.tail (u := [39]) hl
  have hlen : p + (39 :: s).length = p + 1 + s.length := by simp; omega
  rw [hlen] at hend ⊢
  obtain ⟨ws, h5, h6⟩ := h.reads cs (p + 1) hl2 hend
  have h0 : limb cs p = 39 := hl.at (j := 0) (by simp)
  have hq : Scs cs p [markW 2 p] (p + 1) := by
    refine Scs.one (hl.lt (by simp)) (by rw [h0]; decide) (by rw [h0]; decide) (wrdA_mark ?_)
    obtain ⟨rest, hr⟩ := hl
    unfold markA pfx
    rw [hr]
    simp [List.range, List.range.loop, mText, mtab]
  exact ⟨_, hq.trans h5, readsAs_abb h6 rfl symb_quote⟩
/-- All words of a text. -/
theorem scanW_of {cs : List Nat} {ws : List Wd} (h : Scs cs 0 ws cs.length) : scanW cs = (ws, 0, 0) := by
  unfold scanW
  rw [h [], wdsA_end (by rw [skp_end (Nat.le_refl _)]; exact Nat.le_refl _)]
  rfl
theorem deepA_zero : deepA [zP] = 0 := by simp [deepA, zP, zW]
/-- What words that are read as d, alone, are. -/
theorem words_of {ws : List Wd} {d : Dm} (h : ReadsAs ws d) (depth len : Nat) :
    (okD depth d = true ∧ d.sz ≤ 8192 → ∃ d', d'.strip = d.strip ∧ wordsA depth len ws = ([d'], 0, 0)) ∧ (¬ (okD depth d = true ∧ d.sz ≤ 8192) → ∃ a e, wordsA depth len ws = ([], a, e) ∧ (e = 5 ∨ e = 6) ∧ (okD depth d = true → e = 6) ∧ (d.sz ≤ 8192 → e = 5)) := by
  obtain ⟨d', hd', hgo⟩ := h
  have b := hgo depth 0 depth zP [] [] (by simp [fullA, zP]) (by rw [deepA_zero]; omega) (by omega)
  rw [List.append_nil, Nat.zero_add] at b
  refine ⟨fun hg => ⟨d', hd', ?_⟩, fun hn => ?_⟩
  · have e := b.1 hg
    have e2 : addA [zP] d' = [⟨zW, [d'], 0⟩] := rfl
    rw [e2] at e
    unfold wordsA
    rw [e]
    rfl
  · obtain ⟨a, e, e1, e2, e3, e4⟩ := b.2 hn
    refine ⟨a, e, ?_, e2, e3, e4⟩
    unfold wordsA
    rw [e1]
end Go.Proofs.YtpahfhjgcflifaaGreatDoor
