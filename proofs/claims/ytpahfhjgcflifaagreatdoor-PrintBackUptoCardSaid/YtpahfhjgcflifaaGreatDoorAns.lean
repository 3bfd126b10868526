/- answers | ref.Text, and num.Text of any number | What a number's text parses to, with noughts before it or without. No walk here. -/
import Derived.Test.YtpahfhjgcflifaaGreatDoorAnsU
import Derived.Test.YtpahfhjgcflifaaGreatDoorAdd
import Derived.Test.YtpahfhjgcflifaaGreatDoorBuild
import Derived.Test.YtpahfhjgcflifaaGreatDoorApp
import Derived.Test.YtpahfhjgcflifaaGreatDoorRTrim
import Derived.Test.YtpahfhjgcflifaaGreatDoorTkAns
namespace Go.Proofs.YtpahfhjgcflifaaGreatDoor
open Go.RowKit

end Go.Proofs.YtpahfhjgcflifaaGreatDoor
namespace Go.Proofs.YtpahfhjgcflifaaGreatDoor
open Go.RowKit

/-- What is written when the digits from the k-th on have been. -/
def pre (neg : Bool) : List Nat := if neg then [45] else []
end Go.Proofs.YtpahfhjgcflifaaGreatDoor
namespace Go.Proofs.YtpahfhjgcflifaaGreatDoor
open Go.RowKit

theorem digsL_snoc (l : List UInt8) (c : UInt8) : digsL (l ++ [c]) = (c.toNat - 48) :: digsL l := by simp [digsL]
theorem DigL.append {a b : List UInt8} (ha : DigL a) (hb : DigL b) : DigL (a ++ b) := fun c hc => by
  rcases List.mem_append.1 hc with h | h
  · exact ha c h
  · exact hb c h
theorem dig_toNat {d : Nat} (h : d < 10) : (UInt8.ofNat (48 + d)).toNat = 48 + d := by
  rw [UInt8.toNat_ofNat']; omega
theorem dec_small {n : Nat} (h : n < 10) : Lib.decDigits n = [UInt8.ofNat (48 + n)] := by rw [Lib.decDigits, dif_pos h]
theorem dec_digL : ∀ n, DigL (Lib.decDigits n) := by
  intro n
  induction n using Nat.strongRecOn with
  | ind n ih =>
    rcases Nat.lt_or_ge n 10 with h | h
    · rw [dec_small h]
      intro c hc
      obtain rfl := List.mem_singleton.1 hc
      rw [dig_toNat h]; omega
    · rw [dec_step h]
      refine (ih (n / 10) (by omega)).append fun c hc => ?_
      obtain rfl := List.mem_singleton.1 hc
      rw [dig_toNat (by omega)]; omega
theorem dec_dval : ∀ n, dval (digsL (Lib.decDigits n)) = n := by
  intro n
  induction n using Nat.strongRecOn with
  | ind n ih =>
    rcases Nat.lt_or_ge n 10 with h | h
    · rw [dec_small h, show ([UInt8.ofNat (48 + n)] : List UInt8) = [] ++ [UInt8.ofNat (48 + n)] from rfl, digsL_snoc, dig_toNat h, dval_cons]
      show 48 + n - 48 + 10 * 0 = n
      omega
    · rw [dec_step h, digsL_snoc, dig_toNat (by omega), dval_cons, ih (n / 10) (by omega)]
      omega
/-- A sign or none, and digits. -/
theorem body_of {s : ByteArray} {p d : List UInt8} (hs : s.data.toList = p ++ d) (hp : p = [] ∨ p = [43] ∨ p = [45]) (hd : DigL d) (hne : d ≠ []) :
    okA s ∧ dval (bodyA s) = dval (digsL d) ∧ negA s = decide (p = [45]) := by
  have hlen : s.size = p.length + d.length := by
    have := congrArg List.length hs
    simpa using this
  have hdl : 0 < d.length := List.length_pos_iff.2 hne
  have hb : bt s 0 = ((p ++ d).getD 0 0).toNat := by unfold bt; rw [hs]
  have hf : fromA s = p.length ∧ negA s = decide (p = [45]) := by
    rcases hp with rfl | rfl | rfl
    · obtain ⟨c, l, rfl⟩ := List.exists_cons_of_ne_nil hne
      have hc := hd c List.mem_cons_self
      have hb' : bt s 0 = c.toNat := hb
      unfold fromA negA
      refine ⟨?_, ?_⟩
      · rw [if_neg (by omega)]; rfl
      · rw [decide_eq_false (by omega)]; rfl
    · have hb' : bt s 0 = 43 := hb
      unfold fromA negA
      refine ⟨?_, ?_⟩
      · rw [if_pos ⟨by omega, by omega⟩]; rfl
      · rw [decide_eq_false (by omega)]; rfl
    · have hb' : bt s 0 = 45 := hb
      unfold fromA negA
      refine ⟨?_, ?_⟩
      · rw [if_pos ⟨by omega, by omega⟩]; rfl
      · rw [decide_eq_true (by omega)]; rfl
  have hT : (⟨d.toArray⟩ : ByteArray).data.toList = s.data.toList.drop (fromA s) := by
    rw [hf.1, hs, List.drop_left]
  obtain ⟨e1, _, _⟩ := body_ext hT
  refine ⟨okA_iff hT (by show 0 < d.toArray.size; simpa using hdl) ?_, by rw [← e1, digs_list], hf.2⟩
  unfold allD
  show d.all _ = true
  rw [List.all_eq_true]
  intro c hc
  unfold dgB
  exact decide_eq_true (hd c hc)

/-- The digits of a sound number's text, without its sign. -/
theorem txt_parts {neg : Bool} {rs : List Nat} (h : Snd neg rs) : ∃ d, txt neg rs = (if neg then [45] else []) ++ d ∧ DigL d ∧ d ≠ [] ∧ dval (digsL d) = val rs := by
  by_cases e : rs = []
  · subst e
    have hn : neg = false := h.2.2.1 rfl
    subst hn
    refine ⟨[48], rfl, fun c hc => ?_, by simp, by kernel_rfl⟩
    obtain rfl := List.mem_singleton.1 hc
    decide
  · exact ⟨Lib.decDigits (val rs), txt_dec h e, dec_digL _, dec_ne _, dec_dval _⟩

/-- The text itself. -/
theorem back_plain {s : ByteArray} {neg : Bool} {rs : List Nat} (h : Snd neg rs) (hs : s.data.toList = txt neg rs) : okA s ∧ dval (bodyA s) = val rs ∧ (rs ≠ [] → negA s = neg) := by
  obtain ⟨d, e, h1, h2, h3⟩ := txt_parts h
  rw [e] at hs
  obtain ⟨a, b, c⟩ := body_of hs (by cases neg <;> simp) h1 h2
  refine ⟨a, by rw [b, h3], fun _ => ?_⟩
  rw [c]
  cases neg <;> rfl
theorem dec_len : ∀ k n, n < 10 ^ k → (Lib.decDigits n).length ≤ k + 1 := by
  intro k
  induction k with
  | zero =>
    intro n h
    rw [dec_small (by simp at h; omega)]; simp
  | succ k ih =>
    intro n h
    rcases Nat.lt_or_ge n 10 with h1 | h1
    · rw [dec_small h1]; simp
    · rw [dec_step h1, List.length_append]
      have := ih (n / 10) (by rw [Nat.pow_succ] at h; omega)
      simp; omega
/-- A sound number's text is short. -/
theorem txt_short {neg : Bool} {rs : List Nat} (h : Snd neg rs) : 1 ≤ (txt neg rs).length ∧ (txt neg rs).length ≤ 600 := by
  by_cases e : rs = []
  · subst e
    exact ⟨Nat.le_refl 1, (by omega : 1 ≤ 600)⟩
  · rw [txt_dec h e, List.length_append]
    have h1 : val rs < 1000000000 ^ 64 := Nat.lt_of_lt_of_le (val_lt h.2.1) (Nat.pow_le_pow_right (by omega) h.1)
    obtain ⟨m, hm⟩ : ∃ m, m = 64 := ⟨_, rfl⟩
    rw [← hm, show (1000000000 : Nat) = 10 ^ 9 from rfl, ← Nat.pow_mul] at h1
    have h2 := dec_len _ _ h1
    have h3 : 1 ≤ (Lib.decDigits (val rs)).length := List.length_pos_iff.2 (dec_ne _)
    have h4 : ((if neg then [45] else []) : List UInt8).length ≤ 1 := by cases neg <;> simp
    constructor <;> omega
end Go.Proofs.YtpahfhjgcflifaaGreatDoor
