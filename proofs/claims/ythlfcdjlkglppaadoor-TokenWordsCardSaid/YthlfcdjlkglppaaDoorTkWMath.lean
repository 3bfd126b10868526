/- The seventeen signs of TokenWords, each with a blank behind it. No walk here. -/
import Derived.Test.YthlfcdjlkglppaaDoorTkAns
namespace Go.Proofs.YthlfcdjlkglppaaDoor
open Go.RowKit

/-- A sign and a blank stand at i. -/
def Stands (u cs : List Nat) (i : Nat) : Prop := ∃ rest, cs.drop i = u ++ 32 :: rest
theorem markA_stands {u cs : List Nat} {i : Nat} {o : Option Nat} (h : Stands u cs i) (hm : ∀ rest, ((List.range 12).find? fun k => decide ((u ++ 32 :: rest).take (mText k).length = mText k)) = o) : markA cs i = o := by
  obtain ⟨rest, h⟩ := h
  unfold markA pfx
  rw [h]
  exact hm rest
theorem mk_open {cs : List Nat} {i : Nat} (h : Stands [40] cs i) : markA cs i = some 0 := markA_stands h fun rest => by simp [List.range, List.range.loop, mText, mtab]
theorem mk_shut {cs : List Nat} {i : Nat} (h : Stands [41] cs i) : markA cs i = some 1 := markA_stands h fun rest => by simp [List.range, List.range.loop, mText, mtab]
theorem mk_quote {cs : List Nat} {i : Nat} (h : Stands [39] cs i) : markA cs i = some 2 := markA_stands h fun rest => by simp [List.range, List.range.loop, mText, mtab]
theorem mk_splice {cs : List Nat} {i : Nat} (h : Stands [44, 64] cs i) : markA cs i = some 4 := markA_stands h fun rest => by simp [List.range, List.range.loop, mText, mtab]
theorem mk_comma {cs : List Nat} {i : Nat} (h : Stands [44] cs i) : markA cs i = some 5 := markA_stands h fun rest => by simp [List.range, List.range.loop, mText, mtab]
theorem mk_vec {cs : List Nat} {i : Nat} (h : Stands [35, 40] cs i) : markA cs i = some 6 := markA_stands h fun rest => by simp [List.range, List.range.loop, mText, mtab]
theorem mk_drop {cs : List Nat} {i : Nat} (h : Stands [35, 59] cs i) : markA cs i = some 7 := markA_stands h fun rest => by simp [List.range, List.range.loop, mText, mtab]
theorem mk_syn {cs : List Nat} {i : Nat} (h : Stands [35, 39] cs i) : markA cs i = some 8 := markA_stands h fun rest => by simp [List.range, List.range.loop, mText, mtab]
theorem mk_unsp {cs : List Nat} {i : Nat} (h : Stands [35, 44, 64] cs i) : markA cs i = some 10 := markA_stands h fun rest => by simp [List.range, List.range.loop, mText, mtab]
theorem mk_uns {cs : List Nat} {i : Nat} (h : Stands [35, 44] cs i) : markA cs i = some 11 := markA_stands h fun rest => by simp [List.range, List.range.loop, mText, mtab]
theorem mk_a {cs : List Nat} {i : Nat} (h : Stands [97] cs i) : markA cs i = none := markA_stands h fun rest => by simp [List.range, List.range.loop, mText, mtab]
theorem mk_five {cs : List Nat} {i : Nat} (h : Stands [45, 53] cs i) : markA cs i = none := markA_stands h fun rest => by simp [List.range, List.range.loop, mText, mtab]
theorem mk_t {cs : List Nat} {i : Nat} (h : Stands [35, 116] cs i) : markA cs i = none := markA_stands h fun rest => by simp [List.range, List.range.loop, mText, mtab]
theorem mk_str {cs : List Nat} {i : Nat} (h : Stands [34, 120, 32, 121, 34] cs i) : markA cs i = none := markA_stands h fun rest => by simp [List.range, List.range.loop, mText, mtab]
theorem mk_chr {cs : List Nat} {i : Nat} (h : Stands [35, 92, 97] cs i) : markA cs i = none := markA_stands h fun rest => by simp [List.range, List.range.loop, mText, mtab]
theorem mk_dots {cs : List Nat} {i : Nat} (h : Stands [46, 46, 46] cs i) : markA cs i = none := markA_stands h fun rest => by simp [List.range, List.range.loop, mText, mtab]
theorem mk_plus {cs : List Nat} {i : Nat} (h : Stands [43] cs i) : markA cs i = none := markA_stands h fun rest => by simp [List.range, List.range.loop, mText, mtab]
/-- What stands there, place by place. -/
theorem Stands.at {u cs : List Nat} {i : Nat} (h : Stands u cs i) {j : Nat} (hj : j < u.length) : limb cs (i + j) = limb u j := by
  obtain ⟨rest, h⟩ := h
  have e : limb cs (i + j) = limb (cs.drop i) j := (limb_drop cs i j).symm
  rw [e, h]
  unfold limb
  rw [List.getD_eq_getElem?_getD, List.getD_eq_getElem?_getD, List.getElem?_append_left hj]
theorem Stands.blank {u cs : List Nat} {i : Nat} (h : Stands u cs i) : limb cs (i + u.length) = 32 := by
  obtain ⟨rest, h⟩ := h
  have e : limb cs (i + u.length) = limb (cs.drop i) u.length := (limb_drop cs i _).symm
  rw [e, h]
  unfold limb
  rw [List.getD_eq_getElem?_getD, List.getElem?_append_right (Nat.le_refl _)]
  simp
theorem Stands.lt {u cs : List Nat} {i : Nat} (h : Stands u cs i) : i + u.length < cs.length := by
  obtain ⟨rest, h⟩ := h
  have := congrArg List.length h
  simp at this
  omega
theorem til_stands {u cs : List Nat} {i : Nat} (h : Stands u cs i) (hno : ∀ j, j < u.length → enN (limb u j) = false) : til enN cs i = i + u.length :=
  til_is _ i (i + u.length) rfl (by omega) (Nat.le_of_lt h.lt) (fun j h1 h2 => by
    obtain ⟨m, rfl⟩ : ∃ m, j = i + m := ⟨j - i, by omega⟩
    rw [h.at (by omega)]
    exact hno m (by omega)) (fun _ => by rw [h.blank]; decide)
theorem cut_stands {u cs : List Nat} {i : Nat} (h : Stands u cs i) : cutN cs i (i + u.length) = u := by
  obtain ⟨rest, h⟩ := h
  unfold cutN
  simp [h]
theorem pfx_stands {t u cs : List Nat} {i : Nat} {b : Bool} (h : Stands u cs i) (hm : ∀ rest, decide ((u ++ 32 :: rest).take t.length = t) = b) : pfx t cs i = b := by
  obtain ⟨rest, h⟩ := h
  unfold pfx
  rw [h]
  exact hm rest
/-- A word that is an atom. -/
theorem wrd_atom {u cs : List Nat} {i : Nat} {d : Dt} (h : Stands u cs i) (hm : markA cs i = none) (hp : pfx [35, 92] cs i = false) (hno : ∀ j, j < u.length → enN (limb u j) = false) (hu : 0 < u.length) (h34 : limb u 0 ≠ 34) (he : encL u = u) (h46 : u ≠ [46]) (hd : atmA u = some d) :
    wrdA cs i = some (leafW d i, i + u.length) := by
  have h0 : limb cs i = limb u 0 := h.at (j := 0) hu
  rw [wrdA_atm hm (by rw [h0]; exact h34) hp]
  unfold atmW
  rw [til_stands h hno, cut_stands h, he, if_neg h46, hd]
  rfl
theorem ends_of {u : List Nat} (h : u.any enN = false) : ∀ j, j < u.length → enN (limb u j) = false := by
  intro j hj
  rw [List.any_eq_false] at h
  have e : limb u j = u[j] := by unfold limb; rw [List.getD_eq_getElem?_getD, List.getElem?_eq_getElem hj]; rfl
  rw [e]
  simpa using h _ (List.getElem_mem hj)
/-- At i stands a word of kind k and of n characters. -/
def Good (cs : List Nat) (i n k : Nat) : Prop := ∃ x, wrdA cs i = some (x, i + n) ∧ x.kind = k ∧ x.pl = i
theorem good_mark {cs : List Nat} {i k n : Nat} (h : markA cs i = some k) (hn : (mText k).length = n) : Good cs i n (mKind k) := ⟨_, by rw [wrdA_mark h, hn], rfl, rfl⟩
theorem good_atom {u cs : List Nat} {i : Nat} {d : Dt} (h : Stands u cs i) (hm : markA cs i = none) (hp : pfx [35, 92] cs i = false) (hno : u.any enN = false) (hu : 0 < u.length) (h34 : limb u 0 ≠ 34) (he : encL u = u) (h46 : u ≠ [46]) (hd : atmA u = some d) :
    Good cs i u.length 7 := ⟨_, wrd_atom h hm hp (ends_of hno) hu h34 he h46 hd, rfl, rfl⟩
theorem atm_symbol {u : List Nat} (hby : By u) (hsc : ∀ c ∈ u, scN c) (he : encL u = u) (h1 : u ≠ []) (h2 : u ≠ [46]) (h3 : u.length ≤ 64) (h4 : limb u 0 ≠ 35) (h5 : numeA u = false) (h7 : u.any enN = false) : atmA u = some ⟨4, u, false, []⟩ := by
  have hch : chars u 0 = (u, none) := by
    have := chars_enc u hsc
    rwa [he] at this
  exact atmA_symb hby (symA_yes h1 h2 h3 h4 h5 (by rw [hch]) (by rw [hch]; exact h7))
theorem by_of {u : List Nat} (h : u.all (fun x => decide (x < 128)) = true) : By u := by
  intro i
  rcases Nat.lt_or_ge i u.length with hi | hi
  · have e : limb u i = u[i] := by unfold limb; rw [List.getD_eq_getElem?_getD, List.getElem?_eq_getElem hi]; rfl
    rw [e]
    have := List.all_eq_true.1 h _ (List.getElem_mem hi)
    simp at this
    omega
  · rw [limb_out hi]; omega
theorem sc_of {u : List Nat} (h : u.all (fun x => decide (x < 128)) = true) : ∀ c ∈ u, scN c := by
  intro c hc
  have := List.all_eq_true.1 h c hc
  simp at this
  unfold scN
  omega
theorem atm_a : atmA [97] = some ⟨4, [97], false, []⟩ := atm_symbol (by_of (by decide)) (sc_of (by decide)) (by decide) (by decide) (by decide) (by decide) (by decide) (by decide) (by decide)
theorem atm_dots : atmA [46, 46, 46] = some ⟨4, [46, 46, 46], false, []⟩ := atm_symbol (by_of (by decide)) (sc_of (by decide)) (by decide) (by decide) (by decide) (by decide) (by decide) (by decide) (by decide)
theorem atm_plus : atmA [43] = some ⟨4, [43], false, []⟩ := atm_symbol (by_of (by decide)) (sc_of (by decide)) (by decide) (by decide) (by decide) (by decide) (by decide) (by decide) (by decide)
theorem atm_t : atmA [35, 116] = some ⟨8, [], false, []⟩ := atmA_true (.inl rfl)
theorem good_a {cs : List Nat} {i : Nat} (h : Stands [97] cs i) : Good cs i 1 7 := good_atom h (mk_a h) (pfx_stands h fun rest => by simp) (by decide) (by decide) (by decide) (by decide) (by decide) atm_a
theorem good_dots {cs : List Nat} {i : Nat} (h : Stands [46, 46, 46] cs i) : Good cs i 3 7 := good_atom h (mk_dots h) (pfx_stands h fun rest => by simp) (by decide) (by decide) (by decide) (by decide) (by decide) atm_dots
theorem good_plus {cs : List Nat} {i : Nat} (h : Stands [43] cs i) : Good cs i 1 7 := good_atom h (mk_plus h) (pfx_stands h fun rest => by simp) (by decide) (by decide) (by decide) (by decide) (by decide) atm_plus
theorem good_t {cs : List Nat} {i : Nat} (h : Stands [35, 116] cs i) : Good cs i 2 7 := good_atom h (mk_t h) (pfx_stands h fun rest => by simp) (by decide) (by decide) (by decide) (by decide) (by decide) atm_t
theorem par_five : parA (mkB [45, 53]) = (true, [5], true) := by
  have hby : By [45, 53] := by_of (by decide)
  have hz : (mkB [45, 53]).size = 2 := by rw [mkB_size]; rfl
  have b0 : bt (mkB [45, 53]) 0 = 45 := by rw [bt_mk hby]; rfl
  have b1 : bt (mkB [45, 53]) 1 = 53 := by rw [bt_mk hby]; rfl
  have hf : fromA (mkB [45, 53]) = 1 := by unfold fromA; rw [hz, b0]; decide
  refine parA_eq (.inl ⟨⟨by rw [hf, hz]; omega, fun j h1 h2 => ?_⟩, rfl, ⟨by decide, ?_, by decide, by decide⟩, ?_, fun _ => ?_⟩)
  · rw [hf] at h1
    rw [hz] at h2
    have e : j = 1 := by omega
    subst e
    rw [b1]
    omega
  · intro i
    cases i with
    | zero => decide
    | succ i => rw [limb_out (by simp)]; omega
  · have : bodyA (mkB [45, 53]) = [5] := by unfold bodyA; rw [hf, hz]; simp [List.range, List.range.loop, b1]
    rw [this]; decide
  · unfold negA; rw [b0]; rfl
theorem atm_five : atmA [45, 53] = some ⟨7, [], true, [5]⟩ := atmA_num (by decide) (by decide) par_five
theorem good_five {cs : List Nat} {i : Nat} (h : Stands [45, 53] cs i) : Good cs i 2 7 := good_atom h (mk_five h) (pfx_stands h fun rest => by simp) (by decide) (by decide) (by decide) (by decide) (by decide) atm_five
theorem good_chr {cs : List Nat} {i : Nat} (h : Stands [35, 92, 97] cs i) : Good cs i 3 7 := by
  have h0 : limb cs i = 35 := h.at (j := 0) (by decide)
  have h2 : limb cs (i + 2) = 97 := h.at (j := 2) (by decide)
  have hl := h.lt
  simp only [List.length_cons, List.length_nil] at hl
  have ht : til enN cs (i + 2 + 1) = i + 3 := til_is _ (i + 3) (i + 3) rfl (by omega) (by omega) (fun j h1 h2 => by omega) (fun _ => by rw [show i + 3 = i + [35, 92, 97].length from rfl, h.blank]; decide)
  have hc : cutN cs (i + 2) (i + 3) = [97] := by
    obtain ⟨rest, h⟩ := h
    unfold cutN
    rw [show i + 3 - (i + 2) = 1 by omega, ← List.drop_drop, h]
    rfl
  refine ⟨leafW ⟨6, encN 97, false, []⟩ i, ?_, rfl, rfl⟩
  rw [wrdA_chr (mk_chr h) (by rw [h0]; decide) (pfx_stands h fun rest => by simp)]
  unfold chrW
  rw [chrA_at (by omega), ht, hc]
  rw [show namedA (encL [97]) = some 97 from by decide]
  rfl
theorem good_str {cs : List Nat} {i : Nat} (h : Stands [34, 120, 32, 121, 34] cs i) : Good cs i 5 7 := by
  have h0 : limb cs i = 34 := h.at (j := 0) (by decide)
  have h1 : limb cs (i + 1) = 120 := h.at (j := 1) (by decide)
  have h2 : limb cs (i + 2) = 32 := h.at (j := 2) (by decide)
  have h3 : limb cs (i + 3) = 121 := h.at (j := 3) (by decide)
  have h4 : limb cs (i + 4) = 34 := h.at (j := 4) (by decide)
  have hl := h.lt
  simp only [List.length_cons, List.length_nil] at hl
  have n1 : nxA cs (i + 1) = some (120, i + 2) := by unfold nxA; rw [h1, if_neg (by decide)]
  have n2 : nxA cs (i + 2) = some (32, i + 3) := by unfold nxA; rw [h2, if_neg (by decide)]
  have n3 : nxA cs (i + 3) = some (121, i + 4) := by unfold nxA; rw [h3, if_neg (by decide)]
  refine ⟨leafW ⟨5, encL [120, 32, 121], false, []⟩ i, ?_, rfl, rfl⟩
  rw [wrdA_quo (mk_str h) h0]
  unfold quoW
  rw [quoA_step (by omega) (by rw [h1]; decide) n1 (by decide), quoA_step (by omega) (by rw [h2]; decide) n2 (by decide), quoA_step (by omega) (by rw [h3]; decide) n3 (by decide), quoA_quote (by omega) h4]
  rfl
end Go.Proofs.YthlfcdjlkglppaaDoor
