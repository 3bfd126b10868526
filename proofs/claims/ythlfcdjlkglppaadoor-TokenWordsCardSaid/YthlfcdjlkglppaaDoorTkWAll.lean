/- TokenWords: what words a text of signs and blanks has. No walk here. -/
import Derived.Test.YthlfcdjlkglppaaDoorTkWMath
namespace Go.Proofs.YthlfcdjlkglppaaDoor
open Go.RowKit

/-- The law's signs and kinds. -/
def sgs : List (List Nat) := [[40], [41], [35, 40], [35, 59], [39], [44], [44, 64], [35, 39], [35, 44], [35, 44, 64], [97], [45, 53], [35, 116], [34, 120, 32, 121, 34], [35, 92, 97], [46, 46, 46], [43]]
def kds : List Nat := [1, 2, 3, 5, 6, 6, 6, 6, 6, 6, 7, 7, 7, 7, 7, 7, 7]
def sg (k : Nat) : List Nat := sgs.getD k []
def kd (k : Nat) : Nat := kds.getD k 0
theorem good_all {cs : List Nat} {i k : Nat} (hk : k < 17) (h : Stands (sg k) cs i) : Good cs i (sg k).length (kd k) := by
  have : k = 0 ∨ k = 1 ∨ k = 2 ∨ k = 3 ∨ k = 4 ∨ k = 5 ∨ k = 6 ∨ k = 7 ∨ k = 8 ∨ k = 9 ∨ k = 10 ∨ k = 11 ∨ k = 12 ∨ k = 13 ∨ k = 14 ∨ k = 15 ∨ k = 16 := by omega
  rcases this with rfl | rfl | rfl | rfl | rfl | rfl | rfl | rfl | rfl | rfl | rfl | rfl | rfl | rfl | rfl | rfl | rfl
  · exact good_mark (mk_open h) rfl
  · exact good_mark (mk_shut h) rfl
  · exact good_mark (mk_vec h) rfl
  · exact good_mark (mk_drop h) rfl
  · exact good_mark (mk_quote h) rfl
  · exact good_mark (mk_comma h) rfl
  · exact good_mark (mk_splice h) rfl
  · exact good_mark (mk_syn h) rfl
  · exact good_mark (mk_uns h) rfl
  · exact good_mark (mk_unsp h) rfl
  · exact good_a h
  · exact good_five h
  · exact good_t h
  · exact good_str h
  · exact good_chr h
  · exact good_dots h
  · exact good_plus h
theorem sg_facts : ∀ k : Fin 17, 0 < (sg k.val).length ∧ (sg k.val).length ≤ 5 ∧ limb (sg k.val) 0 ≠ 59 ∧ blN (limb (sg k.val) 0) = false ∧ (sg k.val).all (fun x => decide (x < 128)) = true := by decide
/-- Signs with a blank behind each. -/
def txt17 (ps : List Nat) : List Nat := ps.flatMap fun k => sg k ++ [32]
theorem txt17_cons (k : Nat) (ps : List Nat) : txt17 (k :: ps) = sg k ++ 32 :: txt17 ps := by simp [txt17]
theorem txt17_snoc (ps : List Nat) (k : Nat) : txt17 (ps ++ [k]) = txt17 ps ++ (sg k ++ [32]) := by simp [txt17]
theorem stands_cons (pre : List Nat) (k : Nat) (ps : List Nat) : Stands (sg k) (pre ++ txt17 (k :: ps)) pre.length := ⟨txt17 ps, by rw [txt17_cons, List.drop_left']; rfl⟩
theorem skp_at (pre : List Nat) (ps : List Nat) (h : ∀ k ∈ ps, k < 17) : skp (pre ++ txt17 ps) pre.length = pre.length := by
  cases ps with
  | nil => exact skp_end (by simp [txt17])
  | cons k ps =>
    have hs := stands_cons pre k ps
    have hf := sg_facts ⟨k, h k (by simp)⟩
    simp only at hf
    have h0 := hs.at (j := 0) hf.1
    have hl := hs.lt
    rw [Nat.add_zero] at h0
    exact skp_stop (by omega) (by rw [h0]; exact hf.2.2.1) (by rw [h0]; exact hf.2.2.2.1)
/-- The words are these, from the place p on. -/
def Fits : List Nat → Nat → List Wd → Prop
  | [], _, [] => True
  | k :: ps, p, x :: ws => x.kind = kd k ∧ x.pl = p ∧ Fits ps (p + (sg k).length + 1) ws
  | _, _, _ => False
theorem wds_signs : ∀ (ps pre : List Nat) (acc : List Wd) (j : Nat), (∀ k ∈ ps, k < 17) → skp (pre ++ txt17 ps) j = pre.length → ∃ ws, wdsA (pre ++ txt17 ps) j acc = (acc ++ ws, none) ∧ Fits ps pre.length ws := by
  intro ps
  induction ps with
  | nil =>
    intro pre acc j _ hj
    refine ⟨[], ?_, trivial⟩
    rw [wdsA_end (by rw [hj]; simp [txt17])]
    simp
  | cons k ps ih =>
    intro pre acc j h hj
    have hs := stands_cons pre k ps
    have hl := hs.lt
    obtain ⟨x, hx, hk, hp⟩ := good_all (h k (by simp)) hs
    have e : pre ++ txt17 (k :: ps) = (pre ++ sg k ++ [32]) ++ txt17 ps := by rw [txt17_cons]; simp
    have en : (pre ++ sg k ++ [32]).length = pre.length + (sg k).length + 1 := by simp; omega
    have h2 := skp_at (pre ++ sg k ++ [32]) ps (fun k hk => h k (by simp [hk]))
    have hbl : skp (pre ++ txt17 (k :: ps)) (pre.length + (sg k).length) = pre.length + (sg k).length + 1 := by
      have hb := hs.blank
      rw [skp_blank hl (by rw [hb]; decide) (by rw [hb]; decide), ← en, e]
      exact h2
    have hst : wdsA (pre ++ txt17 (k :: ps)) j acc = wdsA (pre ++ txt17 (k :: ps)) (pre.length + (sg k).length) (acc ++ [x]) := wdsA_step (by rw [hj]; omega) (by rw [hj]; exact hx)
    obtain ⟨ws, hw, hf⟩ := ih (pre ++ sg k ++ [32]) (acc ++ [x]) (pre.length + (sg k).length) (fun k hk => h k (by simp [hk])) (by rw [← e, en]; exact hbl)
    refine ⟨x :: ws, ?_, hk, hp, ?_⟩
    · rw [hst, e, hw]
      simp
    · rw [en] at hf
      exact hf
/-- What words the whole text has. -/
theorem scan_signs (ps : List Nat) (h : ∀ k ∈ ps, k < 17) : ∃ ws, scanA ((txt17 ps).map fun (c : Nat) => (c : Int)) = (ws, 0, 0) ∧ Fits ps 0 ws := by
  have hz : idxZ (fun c => !scB c) ((txt17 ps).map fun (c : Nat) => (c : Int)) < 0 := by
    have hall : ∀ c ∈ txt17 ps, c < 128 := by
      intro c hc
      obtain ⟨k, hk, hc⟩ := List.mem_flatMap.1 hc
      rcases List.mem_append.1 hc with hc | hc
      · have := List.all_eq_true.1 (sg_facts ⟨k, h k hk⟩).2.2.2.2 c hc
        simpa using this
      · simp at hc; omega
    rw [idxZ_none]
    · omega
    · intro j hj
      rw [List.length_map] at hj
      have e : ((txt17 ps).map fun (c : Nat) => (c : Int)).getD j 0 = ((txt17 ps)[j] : Nat) := by
        rw [List.getD_eq_getElem?_getD, List.getElem?_map, List.getElem?_eq_getElem hj]; rfl
      rw [e]
      have := hall _ (List.getElem_mem hj)
      have hs : scB (((txt17 ps)[j] : Nat) : Int) = true := by unfold scB; simp; omega
      simp [hs]
  have hm : ((txt17 ps).map fun (c : Nat) => (c : Int)).map Int.toNat = txt17 ps := by
    rw [List.map_map]
    have : (Int.toNat ∘ fun (c : Nat) => (c : Int)) = id := by funext c; simp
    rw [this, List.map_id]
  obtain ⟨ws, hw, hf⟩ := wds_signs ps [] [] 0 h (by simpa using skp_at [] ps h)
  refine ⟨ws, ?_, by simpa using hf⟩
  have hw2 : wdsA (txt17 ps) 0 [] = (ws, none) := by simpa using hw
  unfold scanA
  rw [if_pos hz, hm]
  have : scanW (txt17 ps) = (ws, 0, 0) := by unfold scanW; rw [hw2]
  rw [this]
  rfl
end Go.Proofs.YthlfcdjlkglppaaDoor
