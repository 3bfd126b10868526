/- What is read of a text of many datums, some of them passed over. No walk here. -/
import Derived.Test.YtpahfhjgcflifaaDoorRdShortM
namespace Go.Proofs.YtpahfhjgcflifaaDoor
open Go.RowKit

def mE (sk : Bool) (i : Nat) : List Nat := if sk = true ∧ i % 1000 = 0 then [35, 59] else []
def mT (sk : Bool) : Nat → List Nat
  | 0 => []
  | i + 1 => mT sk i ++ (mE sk i ++ [97, 32])
def goneA (sk : Bool) : Nat → Nat
  | 0 => 0
  | i + 1 => goneA sk i + (if sk = true ∧ i % 1000 = 0 then 1 else 0)
theorem gone_no (k : Nat) : goneA false k = 0 := by
  induction k with
  | zero => rfl
  | succ k ih => unfold goneA; rw [ih, if_neg (by simp)]
theorem gone_yes (k : Nat) : goneA true k = (k + 999) / 1000 := by
  induction k with
  | zero => rfl
  | succ k ih =>
    unfold goneA
    rw [ih]
    by_cases h : k % 1000 = 0
    · rw [if_pos ⟨rfl, h⟩]; omega
    · rw [if_neg (by simp [h])]; omega
theorem mE_len (sk : Bool) (i : Nat) : (mE sk i).length ≤ 2 := by unfold mE; split <;> simp
theorem mT_len (sk : Bool) (i : Nat) : 2 * i ≤ (mT sk i).length ∧ (mT sk i).length ≤ 4 * i := by
  induction i with
  | zero => simp [mT]
  | succ i ih =>
    have := mE_len sk i
    simp only [mT, List.length_append, List.length_cons, List.length_nil]
    omega
theorem mT_low (sk : Bool) : ∀ i, ∀ c ∈ mT sk i, c < 128
  | 0, c, h => by cases h
  | i + 1, c, h => by
    rcases List.mem_append.1 h with h | h
    · exact mT_low sk i c h
    rcases List.mem_append.1 h with h | h
    · unfold mE at h
      split at h
      · simp only [List.mem_cons, List.not_mem_nil, or_false] at h; omega
      · cases h
    · simp only [List.mem_cons, List.not_mem_nil, or_false] at h; omega
theorem mT_pre (sk : Bool) (i : Nat) : ∀ d, ∃ r, mT sk (i + d) = mT sk i ++ r
  | 0 => ⟨[], by simp⟩
  | d + 1 => by
    obtain ⟨r, h⟩ := mT_pre sk i d
    exact ⟨r ++ (mE sk (i + d) ++ [97, 32]), by rw [show i + (d + 1) = (i + d) + 1 by omega, mT, h]; simp⟩
theorem mT_lies {sk : Bool} {i K : Nat} (h : i < K) : Lies (mE sk i ++ [97, 32]) (mT sk K) (mT sk i).length := by
  obtain ⟨r, hr⟩ := mT_pre sk (i + 1) (K - (i + 1))
  rw [show i + 1 + (K - (i + 1)) = K by omega] at hr
  refine ⟨r, ?_⟩
  rw [hr, mT, List.append_assoc, List.drop_left]
/-- The words of one more datum. -/
theorem mT_words {sk : Bool} {i K : Nat} (h : i < K) : ∃ dt, Scs (mT sk K) (mT sk i).length ((if sk = true ∧ i % 1000 = 0 then [markW 7 (mT sk i).length] else []) ++ [leafW dt ((mT sk i).length + (mE sk i).length)]) (mT sk (i + 1)).length := by
  have hl := mT_lies (sk := sk) h
  have hl2 : Lies [97, 32] (mT sk K) ((mT sk i).length + (mE sk i).length) := hl.tail
  obtain ⟨h32, hlt⟩ := lies_next (u := [97]) (c := 32) (r := []) hl2
  have e4 : leafX 4 [97] false [] = [97] := by
    have h1 : chars [97] 0 = ([97], none) := chars_enc [97] (by intro c hc; rw [List.mem_singleton] at hc; subst hc; decide)
    show (chA [97]).1 = _
    rw [chA_ok h1]
  obtain ⟨dt, hw, _⟩ := leaf_word (a := 0) ((aD_ok 1).2 (Nat.le_refl _)) (by omega) (by omega) (by omega) (by_of (by decide)) (cs := mT sk K) (i := (mT sk i).length + (mE sk i).length) (by rw [e4]; exact Lies.left (u := [97]) hl2) (by rw [e4]; exact .inr ⟨hlt, by rw [h32]; decide⟩)
  rw [e4] at hw
  have h97 : limb (mT sk K) ((mT sk i).length + (mE sk i).length) = 97 := hl2.at (j := 0) (by simp)
  have s2 := Scs.one (Lies.lt hl2 (by simp)) (by rw [h97]; decide) (by rw [h97]; decide) hw
  have s3 := Scs.blank hlt h32
  have s23 := s2.trans s3
  rw [List.append_nil] at s23
  have hlen : (mT sk (i + 1)).length = (mT sk i).length + (mE sk i).length + [97].length + 1 := by
    rw [mT]
    simp only [List.length_append, List.length_cons, List.length_nil]
    omega
  refine ⟨dt, ?_⟩
  rw [hlen]
  by_cases hs : sk = true ∧ i % 1000 = 0
  · rw [if_pos hs]
    have e : mE sk i = [35, 59] := if_pos hs
    have s1 := scs_skip (Lies.left (u := [35, 59]) (v := [97, 32]) (by rw [← e]; exact hl))
    rw [e] at s23 ⊢
    exact s1.trans s23
  · rw [if_neg hs]
    have e : mE sk i = [] := if_neg hs
    rw [e] at s23 ⊢
    exact s23
theorem deep_z (l : List Dm) : deepA [⟨zW, l, 0⟩] = 0 := by rw [deepA_set (q := zP) (q' := ⟨zW, l, 0⟩) rfl]; exact deepA_zero
theorem take_a {c : Nat} {q : Pt} {ps : List Pt} {dt : Dt} {i : Nat} (hq : fullA q = false) (hd : deepA (q :: ps) = 0) : takeA 3 c (q :: ps) (leafW dt i) = if 8192 < c + 1 then .error 6 else .ok (c + 1, addA (q :: ps) (leafD (leafW dt i))) := by
  have h2 : ¬ (leafW dt i).kind = 2 := by show ¬ (7 : Nat) = 2; decide
  have h4 : ¬ (leafW dt i).kind = 4 := by show ¬ (7 : Nat) = 4; decide
  have h5 : ¬ (leafW dt i).kind = 5 := by show ¬ (7 : Nat) = 5; decide
  have h7 : (leafW dt i).kind = 7 := rfl
  have hs : szW (leafW dt i) = 1 := rfl
  unfold takeA
  simp only
  rw [if_neg h2, if_neg h4, if_neg h5, if_neg (by rw [hq]; decide), hs, if_neg (by omega), if_pos h7]
theorem take_skip {c i : Nat} {ps : List Pt} {p : Pt} : takeA 3 c (p :: ps) (markW 7 i) = .ok (c, ⟨markW 7 i, [], 0⟩ :: p :: ps) := by
  have h2 : ¬ (markW 7 i).kind = 2 := by show ¬ (5 : Nat) = 2; decide
  have h4 : ¬ (markW 7 i).kind = 4 := by show ¬ (5 : Nat) = 4; decide
  have h5 : (markW 7 i).kind = 5 := rfl
  unfold takeA
  simp only
  rw [if_neg h2, if_neg h4, if_pos h5]
theorem many_words (sk : Bool) (K : Nat) : ∀ i, i ≤ K → i ≤ 8192 → ∃ ws, Scs (mT sk K) 0 ws (mT sk i).length ∧ ∃ l : List Dm, l.length + goneA sk i = i ∧ ∀ more, takesA 3 0 [zP] (ws ++ more) = takesA 3 i [⟨zW, l, 0⟩] more
  | 0, _, _ => ⟨[], Scs.refl _ _, [], rfl, fun _ => rfl⟩
  | i + 1, hK, h8 => by
    obtain ⟨ws, s, l, hl, ht⟩ := many_words sk K i (by omega) (by omega)
    obtain ⟨dt, s2⟩ := mT_words (sk := sk) (i := i) (K := K) (by omega)
    refine ⟨_, s.trans s2, ?_⟩
    by_cases hs : sk = true ∧ i % 1000 = 0
    · refine ⟨l, by unfold goneA; rw [if_pos hs]; omega, fun more => ?_⟩
      rw [if_pos hs, List.append_assoc, ht]
      show takesA 3 i [⟨zW, l, 0⟩] (markW 7 _ :: (leafW dt _ :: more)) = _
      have hd : deepA [⟨markW 7 (mT sk i).length, [], 0⟩, ⟨zW, l, 0⟩] = 0 := by
        have : deepA (⟨markW 7 (mT sk i).length, [], 0⟩ :: [⟨zW, l, 0⟩]) = deepA [⟨zW, l, 0⟩] := by
          unfold deepA
          rw [List.countP_cons_of_neg (by show ¬ (decide ((5 : Nat) ≠ 0 ∧ (5 : Nat) ≠ 5)) = true; decide)]
        rw [this, deep_z]
      have t2 := take_a (c := i) (dt := dt) (i := (mT sk i).length + (mE sk i).length) (q := ⟨markW 7 (mT sk i).length, [], 0⟩) (ps := [⟨zW, l, 0⟩]) (by simp [fullA]) hd
      rw [if_neg (by omega)] at t2
      rw [takesA_go take_skip, takesA_go t2]
      rfl
    · refine ⟨l ++ [leafD (leafW dt ((mT sk i).length + (mE sk i).length))], by unfold goneA; rw [if_neg hs, List.length_append]; simp only [List.length_cons, List.length_nil]; omega, fun more => ?_⟩
      rw [if_neg hs, List.append_assoc, ht]
      show takesA 3 i [⟨zW, l, 0⟩] (leafW dt _ :: more) = _
      have t2 := take_a (c := i) (dt := dt) (i := (mT sk i).length + (mE sk i).length) (q := ⟨zW, l, 0⟩) (ps := []) (by simp [fullA]) (deep_z l)
      rw [if_neg (by omega)] at t2
      rw [takesA_go t2]
      rfl
theorem many_rest (sk : Bool) (K : Nat) : ∀ d, d ≤ K → ∃ ws, Scs (mT sk K) (mT sk (K - d)).length ws (mT sk K).length
  | 0, _ => ⟨[], Scs.refl _ _⟩
  | d + 1, h => by
    obtain ⟨ws, s⟩ := many_rest sk K d (by omega)
    obtain ⟨dt, s2⟩ := mT_words (sk := sk) (i := K - (d + 1)) (K := K) (by omega)
    rw [show K - (d + 1) + 1 = K - d by omega] at s2
    exact ⟨_, s2.trans s⟩
theorem many_read (sk : Bool) (K : Nat) (hK : K ≤ 8200) :
    (K ≤ 8192 → ∃ l : List Dm, readA (mT sk K) 3 = (l, 0, 0) ∧ l.length + goneA sk K = K) ∧ (8192 < K → ∃ a : Nat, 0 < a ∧ readA (mT sk K) 3 = ([], (a : Int), 6)) := by
  have hlow := mT_low sk K
  have hln := mT_len sk K
  have he : encL (mT sk K) = mT sk K := encL_low hlow
  have hsc : ∀ c ∈ mT sk K, scN c := fun c hc => by have := hlow c hc; unfold scN; omega
  have hd : decA (mT sk K) = (mT sk K, 0, 0) := by
    have := decA_ok (bs := encL (mT sk K)) (by rw [he]; omega) (chars_enc _ hsc)
    rw [he] at this
    exact this
  have key : ∀ ws, Scs (mT sk K) 0 ws (mT sk K).length → readA (mT sk K) 3 = ((wordsA 3 (mT sk K).length ws).1, (((wordsA 3 (mT sk K).length ws).2.1 : Nat) : Int), (wordsA 3 (mT sk K).length ws).2.2) := fun ws hs => by
    have hq := scanW_of hs
    unfold readA
    rw [if_neg (by omega), hd]
    simp only [ne_eq, not_true_eq_false, if_false]
    rw [hq]
    simp
  refine ⟨fun h => ?_, fun h => ?_⟩
  · obtain ⟨ws, s, l, hl, ht⟩ := many_words sk K K (Nat.le_refl _) h
    refine ⟨l, ?_, hl⟩
    have t := ht []
    rw [List.append_nil] at t
    rw [key ws s]
    unfold wordsA
    rw [t]
    rfl
  · obtain ⟨ws, s, l, hl, ht⟩ := many_words sk K 8192 (by omega) (Nat.le_refl _)
    obtain ⟨dt, s2⟩ := mT_words (sk := sk) (i := 8192) (K := K) (by omega)
    rw [if_neg (by omega), List.nil_append] at s2
    obtain ⟨vs, s3⟩ := many_rest sk K (K - 8193) (by omega)
    rw [show K - (K - 8193) = 8192 + 1 by omega] at s3
    have hall := s.trans (s2.trans s3)
    have t2 := take_a (c := 8192) (dt := dt) (i := (mT sk 8192).length + (mE sk 8192).length) (q := ⟨zW, l, 0⟩) (ps := []) (by simp [fullA]) (deep_z l)
    rw [if_pos (by omega)] at t2
    refine ⟨(mT sk 8192).length + (mE sk 8192).length, by have := (mT_len sk 8192).1; omega, ?_⟩
    have e : takesA 3 0 [zP] (ws ++ ([leafW dt ((mT sk 8192).length + (mE sk 8192).length)] ++ vs)) = .error ((mT sk 8192).length + (mE sk 8192).length, 6) := by
      rw [ht]
      exact takesA_no t2
    rw [key _ hall]
    unfold wordsA
    rw [e]
end Go.Proofs.YtpahfhjgcflifaaDoor
