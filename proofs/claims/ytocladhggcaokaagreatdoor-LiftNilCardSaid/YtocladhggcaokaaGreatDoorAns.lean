/- answers | ref.Text, and num.Text of any number | What a number's text parses to, with noughts before it or without. No walk here. -/
import Derived.Test.YtocladhggcaokaaGreatDoorAnsU
import Derived.Test.YtocladhggcaokaaGreatDoorAdd
import Derived.Test.YtocladhggcaokaaGreatDoorBuild
import Derived.Test.YtocladhggcaokaaGreatDoorApp
import Derived.Test.YtocladhggcaokaaGreatDoorRTrim
import Derived.Test.YtocladhggcaokaaGreatDoorRSound
namespace Go.Proofs.YtocladhggcaokaaGreatDoor
open Go.RowKit

theorem ans_txt {neg : Bool} {rs : List Nat} (h : Snd neg rs) (hv : ival neg rs = -1000000007) : txt neg rs = [45, 49, 48, 48, 48, 48, 48, 48, 48, 48, 55] := by
  have hs : Snd true [7, 1] := ⟨by simp, Lb.of_mem (by simp), fun h => by simp at h, fun _ => by simp [limb]⟩
  obtain ⟨rfl, rfl⟩ := snd_unique h hs (by rw [hv]; simp [ival, val, V, limb])
  have e1 : limb [7, 1] 1 = 1 := rfl
  have e0 : limb [7, 1] 0 = 7 := rfl
  unfold txt
  rw [if_neg (by simp)]
  show ([45] : List UInt8) ++ (Lib.itoa ((limb [7, 1] 1 : Nat) : Int) ++ ((Lib.itoa (1000000000 + ((limb [7, 1] 0 : Nat) : Int))).drop 1 ++ [])) = _
  rw [e1, e0]
  have i1 : Lib.itoa ((1 : Nat) : Int) = [49] := by rw [Lib.itoa_nonneg, Lib.decDigits_one (by omega)]; rfl
  have i2 : Lib.itoa (1000000000 + ((7 : Nat) : Int)) = [49, 48, 48, 48, 48, 48, 48, 48, 48, 55] := by
    have e9 : (1000000000 : Int) + ((7 : Nat) : Int) = ((1000000007 : Nat) : Int) := by omega
    rw [e9, Lib.itoa_nonneg]
    iterate 9 (rw [Lib.decDigits, dif_neg (by omega)])
    rw [Lib.decDigits_one (by omega)]
    rfl
  rw [i1, i2]
  rfl
end Go.Proofs.YtocladhggcaokaaGreatDoor
namespace Go.Proofs.YtocladhggcaokaaGreatDoor
open Go.RowKit

open Classical in
/-- A number's text, or none. -/
noncomputable def txtA (neg : Bool) (rs : List Nat) : List UInt8 := if Snd neg rs then txt neg rs else []
theorem txtA_snd {neg : Bool} {rs : List Nat} (h : Snd neg rs) : txtA neg rs = txt neg rs := by unfold txtA; rw [if_pos h]
theorem txtA_not {neg : Bool} {rs : List Nat} (h : ¬ Snd neg rs) : txtA neg rs = [] := by unfold txtA; rw [if_neg h]

/-- What is written when the digits from the k-th on have been. -/
def pre (neg : Bool) : List Nat := if neg then [45] else []
def outTxt (neg : Bool) (ds : List Nat) (k : Nat) : List Nat := pre neg ++ ((ds.drop k).reverse.map fun d => 48 + d)
theorem outTxt_start (neg : Bool) (ds : List Nat) : outTxt neg ds ds.length = pre neg := by unfold outTxt; simp
theorem outTxt_step (neg : Bool) {ds : List Nat} {k : Nat} (h : k < ds.length) : outTxt neg ds k = outTxt neg ds (k + 1) ++ [48 + limb ds k] := by
  unfold outTxt
  have e : ds.drop k = limb ds k :: ds.drop (k + 1) := by rw [limb_lt h]; exact List.drop_eq_getElem_cons h
  rw [e]
  simp
theorem outTxt_len (neg : Bool) (ds : List Nat) (k : Nat) : (outTxt neg ds k).length ≤ 1 + (ds.length - k) := by
  unfold outTxt pre
  split <;> simp <;> omega
theorem outTxt_done (neg : Bool) {rs ds : List Nat} (hs : Snd neg rs) (hb : Db ds) (ht : Top ds) (hv : dval ds = val rs) (hne : ds ≠ []) : strOf (outTxt neg ds 0) = ⟨(txt neg rs).toArray⟩ := by
  have hr : rs ≠ [] := by
    intro e
    subst e
    have h1 := ht.le hne
    have h2 : 1 ≤ 10 ^ (ds.length - 1) := Nat.pow_pos (by omega)
    have h3 : val [] = 0 := rfl
    omega
  rw [txt_dec hs hr, ← hv, ← revTxt_dec ds hb ht hne]
  unfold strOf outTxt pre revTxt
  congr 2
  cases neg <;> simp
theorem txt_zero {neg : Bool} {rs : List Nat} (hs : Snd neg rs) (h0 : val rs = 0) : txt neg rs = [48] := by
  have : rs = [] := Classical.byContradiction fun hne => by have := snd_pos hs hne; omega
  unfold txt
  rw [if_pos this]

end Go.Proofs.YtocladhggcaokaaGreatDoor
namespace Go.Proofs.YtocladhggcaokaaGreatDoor
open Go.RowKit

theorem digsL_snoc (l : List UInt8) (c : UInt8) : digsL (l ++ [c]) = (c.toNat - 48) :: digsL l := by simp [digsL]
theorem DigL.append {a b : List UInt8} (ha : DigL a) (hb : DigL b) : DigL (a ++ b) := fun c hc => by
  rcases List.mem_append.1 hc with h | h
  · exact ha c h
  · exact hb c h
theorem dig_toNat {d : Nat} (h : d < 10) : (UInt8.ofNat (48 + d)).toNat = 48 + d := by
  rw [UInt8.toNat_ofNat']; omega
theorem dec_small {n : Nat} (h : n < 10) : Lib.decDigits n = [UInt8.ofNat (48 + n)] := by rw [Lib.decDigits, dif_pos h]
theorem dec_digL : ∀ n, DigL (Lib.decDigits n) := by
  intro n
  induction n using Nat.strongRecOn with
  | ind n ih =>
    rcases Nat.lt_or_ge n 10 with h | h
    · rw [dec_small h]
      intro c hc
      obtain rfl := List.mem_singleton.1 hc
      rw [dig_toNat h]; omega
    · rw [dec_step h]
      refine (ih (n / 10) (by omega)).append fun c hc => ?_
      obtain rfl := List.mem_singleton.1 hc
      rw [dig_toNat (by omega)]; omega
theorem dec_dval : ∀ n, dval (digsL (Lib.decDigits n)) = n := by
  intro n
  induction n using Nat.strongRecOn with
  | ind n ih =>
    rcases Nat.lt_or_ge n 10 with h | h
    · rw [dec_small h, show ([UInt8.ofNat (48 + n)] : List UInt8) = [] ++ [UInt8.ofNat (48 + n)] from rfl, digsL_snoc, dig_toNat h, dval_cons]
      show 48 + n - 48 + 10 * 0 = n
      omega
    · rw [dec_step h, digsL_snoc, dig_toNat (by omega), dval_cons, ih (n / 10) (by omega)]
      omega
theorem noughts_digL (k : Nat) : DigL (List.replicate k 48) := fun c hc => by
  obtain rfl := List.eq_of_mem_replicate hc
  decide
theorem noughts_dval (k : Nat) (l : List UInt8) : dval (digsL (List.replicate k 48 ++ l)) = dval (digsL l) := by
  induction k with
  | zero => rfl
  | succ k ih =>
    rw [List.replicate_succ, List.cons_append, digsL_cons, dval_snoc, ih]
    show dval (digsL l) + 0 * _ = _
    omega

/-- A sign or none, and digits. -/
theorem body_of {s : ByteArray} {p d : List UInt8} (hs : s.data.toList = p ++ d) (hp : p = [] ∨ p = [43] ∨ p = [45]) (hd : DigL d) (hne : d ≠ []) :
    okA s ∧ dval (bodyA s) = dval (digsL d) ∧ negA s = decide (p = [45]) := by
  have hlen : s.size = p.length + d.length := by
    have := congrArg List.length hs
    simpa using this
  have hdl : 0 < d.length := List.length_pos_iff.2 hne
  have hb : bt s 0 = ((p ++ d).getD 0 0).toNat := by unfold bt; rw [hs]
  have hf : fromA s = p.length ∧ negA s = decide (p = [45]) := by
    rcases hp with rfl | rfl | rfl
    · obtain ⟨c, l, rfl⟩ := List.exists_cons_of_ne_nil hne
      have hc := hd c List.mem_cons_self
      have hb' : bt s 0 = c.toNat := hb
      unfold fromA negA
      refine ⟨?_, ?_⟩
      · rw [if_neg (by omega)]; rfl
      · rw [decide_eq_false (by omega)]; rfl
    · have hb' : bt s 0 = 43 := hb
      unfold fromA negA
      refine ⟨?_, ?_⟩
      · rw [if_pos ⟨by omega, by omega⟩]; rfl
      · rw [decide_eq_false (by omega)]; rfl
    · have hb' : bt s 0 = 45 := hb
      unfold fromA negA
      refine ⟨?_, ?_⟩
      · rw [if_pos ⟨by omega, by omega⟩]; rfl
      · rw [decide_eq_true (by omega)]; rfl
  have hT : (⟨d.toArray⟩ : ByteArray).data.toList = s.data.toList.drop (fromA s) := by
    rw [hf.1, hs, List.drop_left]
  obtain ⟨e1, _, _⟩ := body_ext hT
  refine ⟨okA_iff hT (by show 0 < d.toArray.size; simpa using hdl) ?_, by rw [← e1, digs_list], hf.2⟩
  unfold allD
  show d.all _ = true
  rw [List.all_eq_true]
  intro c hc
  unfold dgB
  exact decide_eq_true (hd c hc)

/-- The digits of a sound number's text, without its sign. -/
theorem txt_parts {neg : Bool} {rs : List Nat} (h : Snd neg rs) : ∃ d, txt neg rs = (if neg then [45] else []) ++ d ∧ DigL d ∧ d ≠ [] ∧ dval (digsL d) = val rs := by
  by_cases e : rs = []
  · subst e
    have hn : neg = false := h.2.2.1 rfl
    subst hn
    refine ⟨[48], rfl, fun c hc => ?_, by simp, by kernel_rfl⟩
    obtain rfl := List.mem_singleton.1 hc
    decide
  · exact ⟨Lib.decDigits (val rs), txt_dec h e, dec_digL _, dec_ne _, dec_dval _⟩

/-- A text of a sound number's digits parses to that number. -/
theorem parse_back {s : ByteArray} {neg n' o' : Bool} {rs r' : List Nat} (hsnd : Snd neg rs) (hok : okA s) (hv : dval (bodyA s) = val rs) (hng : rs ≠ [] → negA s = neg)
    (h : (okA s ∧ o' = true ∧ Snd n' r' ∧ val r' = dval (bodyA s) ∧ (r' ≠ [] → n' = negA s)) ∨ (o' = false ∧ n' = false ∧ r' = [] ∧ (okA s → 1000000000 ^ 64 ≤ dval (bodyA s)))) :
    n' = neg ∧ r' = rs ∧ o' = true := by
  obtain ⟨a, b, c⟩ := parse_unique h (.inl ⟨hok, rfl, hsnd, hv.symm, fun hr => (hng hr).symm⟩)
  exact ⟨a, b, c⟩

/-- The text itself. -/
theorem back_plain {s : ByteArray} {neg : Bool} {rs : List Nat} (h : Snd neg rs) (hs : s.data.toList = txt neg rs) : okA s ∧ dval (bodyA s) = val rs ∧ (rs ≠ [] → negA s = neg) := by
  obtain ⟨d, e, h1, h2, h3⟩ := txt_parts h
  rw [e] at hs
  obtain ⟨a, b, c⟩ := body_of hs (by cases neg <;> simp) h1 h2
  refine ⟨a, by rw [b, h3], fun _ => ?_⟩
  rw [c]
  cases neg <;> rfl
/-- The text with noughts, of a number that is not below nought. -/
theorem back_plus {s T : ByteArray} {rs : List Nat} (k : Nat) (h : Snd false rs) (hs : s.data.toList = txt false rs) (hT : T.data.toList = [43] ++ List.replicate k 48 ++ s.data.toList) : okA T ∧ dval (bodyA T) = val rs ∧ (rs ≠ [] → negA T = false) := by
  obtain ⟨d, e, h1, h2, h3⟩ := txt_parts h
  have e' : s.data.toList = d := by rw [hs, e]; rfl
  rw [e', List.append_assoc] at hT
  obtain ⟨a, b, c⟩ := body_of hT (by simp) ((noughts_digL k).append h1) (by simp [h2])
  refine ⟨a, by rw [b, noughts_dval, h3], fun _ => ?_⟩
  rw [c]
  rfl
/-- The text with noughts, of a number below nought. -/
theorem back_minus {s U T : ByteArray} {rs : List Nat} (k : Nat) (h : Snd true rs) (hs : s.data.toList = txt true rs) (hU : U.data.toList = s.data.toList.drop 1) (hT : T.data.toList = [45] ++ List.replicate k 48 ++ U.data.toList) : okA T ∧ dval (bodyA T) = val rs ∧ (rs ≠ [] → negA T = true) := by
  obtain ⟨d, e, h1, h2, h3⟩ := txt_parts h
  have e' : U.data.toList = d := by rw [hU, hs, e]; rfl
  rw [e', List.append_assoc] at hT
  obtain ⟨a, b, c⟩ := body_of hT (by simp) ((noughts_digL k).append h1) (by simp [h2])
  refine ⟨a, by rw [b, noughts_dval, h3], fun _ => ?_⟩
  rw [c]
  rfl
theorem dec_len : ∀ k n, n < 10 ^ k → (Lib.decDigits n).length ≤ k + 1 := by
  intro k
  induction k with
  | zero =>
    intro n h
    rw [dec_small (by simp at h; omega)]; simp
  | succ k ih =>
    intro n h
    rcases Nat.lt_or_ge n 10 with h1 | h1
    · rw [dec_small h1]; simp
    · rw [dec_step h1, List.length_append]
      have := ih (n / 10) (by rw [Nat.pow_succ] at h; omega)
      simp; omega
/-- A sound number's text is short. -/
theorem txt_short {neg : Bool} {rs : List Nat} (h : Snd neg rs) : 1 ≤ (txt neg rs).length ∧ (txt neg rs).length ≤ 600 := by
  by_cases e : rs = []
  · subst e
    exact ⟨Nat.le_refl 1, (by omega : 1 ≤ 600)⟩
  · rw [txt_dec h e, List.length_append]
    have h1 : val rs < 1000000000 ^ 64 := Nat.lt_of_lt_of_le (val_lt h.2.1) (Nat.pow_le_pow_right (by omega) h.1)
    obtain ⟨m, hm⟩ : ∃ m, m = 64 := ⟨_, rfl⟩
    rw [← hm, show (1000000000 : Nat) = 10 ^ 9 from rfl, ← Nat.pow_mul] at h1
    have h2 := dec_len _ _ h1
    have h3 : 1 ≤ (Lib.decDigits (val rs)).length := List.length_pos_iff.2 (dec_ne _)
    have h4 : ((if neg then [45] else []) : List UInt8).length ≤ 1 := by cases neg <;> simp
    constructor <;> omega
/-- One more nought in its place. -/
theorem rep_set (k m : Nat) : (List.replicate k 48 ++ List.replicate (m + 1) 0).set k 48 = List.replicate (k + 1) 48 ++ List.replicate m 0 := by
  rw [List.set_append_right _ _ (by simp), List.replicate_succ' (n := k), List.replicate_succ (n := m)]
  simp
theorem rep_str (k : Nat) : (strOf (List.replicate k 48)).data.toList = List.replicate k 48 := by
  unfold strOf
  simp
end Go.Proofs.YtocladhggcaokaaGreatDoor
