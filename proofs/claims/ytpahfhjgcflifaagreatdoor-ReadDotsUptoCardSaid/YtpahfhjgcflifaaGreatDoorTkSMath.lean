/- How a string is written, and that what is written is read as it. No walk here. | Words of leaves as they are written: symbols, true and false, wherever they stand. No walk here. -/
import Derived.Test.YtpahfhjgcflifaaGreatDoorTkAns
import Derived.Test.YtpahfhjgcflifaaGreatDoorDm
namespace Go.Proofs.YtpahfhjgcflifaaGreatDoor
open Go.RowKit

/-- u stands at i. -/
def Lies (u cs : List Nat) (i : Nat) : Prop := ∃ rest, cs.drop i = u ++ rest
theorem Lies.at {u cs : List Nat} {i : Nat} (h : Lies u cs i) {j : Nat} (hj : j < u.length) : limb cs (i + j) = limb u j := by
  obtain ⟨rest, h⟩ := h
  have e : limb cs (i + j) = limb (cs.drop i) j := (limb_drop cs i j).symm
  rw [e, h]
  unfold limb
  rw [List.getD_eq_getElem?_getD, List.getD_eq_getElem?_getD, List.getElem?_append_left hj]
theorem Lies.le {u cs : List Nat} {i : Nat} (h : Lies u cs i) (hu : 0 < u.length) : i + u.length ≤ cs.length := by
  obtain ⟨rest, h⟩ := h
  have := congrArg List.length h
  simp at this
  omega
theorem Lies.cut {u cs : List Nat} {i : Nat} (h : Lies u cs i) : cutN cs i (i + u.length) = u := by
  obtain ⟨rest, h⟩ := h
  unfold cutN
  simp [h]
theorem Lies.tail {u v cs : List Nat} {i : Nat} (h : Lies (u ++ v) cs i) : Lies v cs (i + u.length) := by
  obtain ⟨rest, h⟩ := h
  refine ⟨rest, ?_⟩
  rw [← List.drop_drop, h, List.append_assoc, List.drop_left]

def hexL (c : Nat) : List Nat := if c < 16 then [hexc c] else [hexc (c / 16), hexc (c % 16)]
/-- How a character, or a byte, is written in a string. -/
def escL (c : Nat) : List Nat :=
  if c = 92 ∨ c = 34 then [92, c] else if c = 10 then [92, 110] else if c = 9 then [92, 116] else if c = 13 then [92, 114]
  else if c < 32 ∨ c = 127 then 92 :: 120 :: (hexL c ++ [59]) else [c]
/-- A string as it is written. -/
def quoT (l : List Nat) : List Nat := 34 :: (l.flatMap escL ++ [34])
theorem escL_high {c : Nat} (h : 128 ≤ c) : escL c = [c] := by
  unfold escL
  rw [if_neg (by omega), if_neg (by omega), if_neg (by omega), if_neg (by omega), if_neg (by omega)]
theorem escL_low : ∀ c : Fin 128, (escL c.val).all (fun x => decide (x < 128)) = true ∧ 0 < (escL c.val).length ∧ (escL c.val).length ≤ 5 := by decide
theorem hexL_facts : ∀ c : Fin 128, (c.val < 32 ∨ c.val = 127) → (hexL c.val).all (fun x => !semN x) = true ∧ 0 < (hexL c.val).length ∧ encL (hexL c.val) = hexL c.val ∧ namedA (120 :: hexL c.val) = some c.val := by decide +kernel
theorem til_lies {p : Nat → Bool} {u cs : List Nat} {x i : Nat} (h : Lies (u ++ [x]) cs i) (hx : p x = true) (hno : u.all (fun y => !p y) = true) : til p cs i = i + u.length := by
  have hle := h.le (by simp)
  simp only [List.length_append, List.length_singleton] at hle
  refine til_is _ i (i + u.length) rfl (by omega) (by omega) (fun j h1 h2 => ?_) (fun _ => ?_)
  · obtain ⟨m, rfl⟩ : ∃ m, j = i + m := ⟨j - i, by omega⟩
    have hm : m < u.length := by omega
    rw [h.at (by simp; omega)]
    have e : limb (u ++ [x]) m = u[m] := by
      unfold limb
      rw [List.getD_eq_getElem?_getD, List.getElem?_append_left hm, List.getElem?_eq_getElem hm]; rfl
    rw [e]
    have := List.all_eq_true.1 hno _ (List.getElem_mem hm)
    simpa using this
  · rw [h.at (by simp)]
    have e : limb (u ++ [x]) u.length = x := by
      unfold limb
      rw [List.getD_eq_getElem?_getD, List.getElem?_append_right (Nat.le_refl _)]; simp
    rw [e]
    exact hx
/-- What is written for a character is read as it. -/
theorem nx_written {cs : List Nat} {i c : Nat} (h : Lies (escL c) cs i) : limb cs i ≠ 34 ∧ nxA cs i = some (c, i + (escL c).length) := by
  by_cases h1 : c = 92 ∨ c = 34
  · have e : escL c = [92, c] := by unfold escL; rw [if_pos h1]
    rw [e] at h ⊢
    have a0 : limb cs i = 92 := h.at (j := 0) (by simp)
    have a1 : limb cs (i + 1) = c := h.at (j := 1) (by simp)
    have hle := h.le (by simp)
    simp only [List.length_cons, List.length_nil] at hle
    refine ⟨by rw [a0]; decide, ?_⟩
    unfold nxA
    rw [if_pos a0]
    unfold escA
    rw [if_pos (by omega), a1, if_neg (by omega), if_neg (by omega), if_neg (by omega), if_pos h1]
    rfl
  by_cases h2 : c = 10
  · subst h2
    have e : escL 10 = [92, 110] := by decide
    rw [e] at h ⊢
    have a0 : limb cs i = 92 := h.at (j := 0) (by simp)
    have a1 : limb cs (i + 1) = 110 := h.at (j := 1) (by simp)
    have hle := h.le (by simp)
    simp only [List.length_cons, List.length_nil] at hle
    refine ⟨by rw [a0]; decide, ?_⟩
    unfold nxA
    rw [if_pos a0]
    unfold escA
    rw [if_pos (by omega), a1, if_pos rfl]
    rfl
  by_cases h3 : c = 9
  · subst h3
    have e : escL 9 = [92, 116] := by decide
    rw [e] at h ⊢
    have a0 : limb cs i = 92 := h.at (j := 0) (by simp)
    have a1 : limb cs (i + 1) = 116 := h.at (j := 1) (by simp)
    have hle := h.le (by simp)
    simp only [List.length_cons, List.length_nil] at hle
    refine ⟨by rw [a0]; decide, ?_⟩
    unfold nxA
    rw [if_pos a0]
    unfold escA
    rw [if_pos (by omega), a1, if_neg (by decide), if_pos rfl]
    rfl
  by_cases h4 : c = 13
  · subst h4
    have e : escL 13 = [92, 114] := by decide
    rw [e] at h ⊢
    have a0 : limb cs i = 92 := h.at (j := 0) (by simp)
    have a1 : limb cs (i + 1) = 114 := h.at (j := 1) (by simp)
    have hle := h.le (by simp)
    simp only [List.length_cons, List.length_nil] at hle
    refine ⟨by rw [a0]; decide, ?_⟩
    unfold nxA
    rw [if_pos a0]
    unfold escA
    rw [if_pos (by omega), a1, if_neg (by decide), if_neg (by decide), if_pos rfl]
    rfl
  by_cases h5 : c < 32 ∨ c = 127
  · have e : escL c = [92, 120] ++ (hexL c ++ [59]) := by unfold escL; rw [if_neg h1, if_neg h2, if_neg h3, if_neg h4, if_pos h5]; rfl
    rw [e] at h ⊢
    have a0 : limb cs i = 92 := h.at (j := 0) (by simp)
    have a1 : limb cs (i + 1) = 120 := h.at (j := 1) (by simp)
    have hle := h.le (by simp)
    obtain ⟨f1, f2, f3, f4⟩ := hexL_facts ⟨c, by omega⟩ h5
    simp only at f1 f2 f3 f4
    have hy := h.tail
    have ht := til_lies (p := semN) hy (by decide) f1
    have hcut : cutN cs (i + [92, 120].length) (i + [92, 120].length + (hexL c).length) = hexL c := by
      have : Lies (hexL c) cs (i + [92, 120].length) := by
        obtain ⟨rest, hr⟩ := hy
        exact ⟨[59] ++ rest, by rw [hr, List.append_assoc]⟩
      exact this.cut
    simp only [List.length_cons, List.length_nil, List.length_append, Nat.zero_add] at hle ht hcut
    refine ⟨by rw [a0]; decide, ?_⟩
    unfold nxA
    rw [if_pos a0]
    unfold escA
    rw [if_pos (by omega), a1, if_neg (by decide), if_neg (by decide), if_neg (by decide), if_neg (by decide), if_pos rfl]
    unfold numA
    rw [show i + 1 + 1 = i + 2 from rfl, ht, if_pos (by omega), if_neg (by omega), hcut, f3, f4]
    simp
    omega
  · have e : escL c = [c] := by unfold escL; rw [if_neg h1, if_neg h2, if_neg h3, if_neg h4, if_neg h5]
    rw [e] at h ⊢
    have a0 : limb cs i = c := h.at (j := 0) (by simp)
    refine ⟨by omega, ?_⟩
    unfold nxA
    rw [a0, if_neg (by omega)]
    rfl
theorem escL_pos (c : Nat) : 0 < (escL c).length := by
  rcases Nat.lt_or_ge c 128 with h | h
  · exact (escL_low ⟨c, h⟩).2.1
  · rw [escL_high h]; simp
/-- What is written is read. -/
theorem quo_written : ∀ (l acc cs : List Nat) (i : Nat), acc.length + l.length ≤ 4096 → cs.drop i = l.flatMap escL ++ [34] → quoA cs i acc = some (acc ++ l, cs.length) := by
  intro l
  induction l with
  | nil =>
    intro acc cs i h hd
    have hl : Lies [34] cs i := ⟨[], by rw [hd]; rfl⟩
    have h0 : limb cs i = 34 := hl.at (j := 0) (by simp)
    have hle := hl.le (by simp)
    have hlen := congrArg List.length hd
    simp at hlen
    simp only [List.length_cons, List.length_nil] at hle
    rw [quoA_quote (by omega) h0, List.append_nil]
    congr 2
    omega
  | cons c l ih =>
    intro acc cs i h hd
    have e : (c :: l).flatMap escL ++ [34] = escL c ++ (l.flatMap escL ++ [34]) := by simp
    rw [e] at hd
    have hl : Lies (escL c) cs i := ⟨_, hd⟩
    have hp := escL_pos c
    have hle := hl.le hp
    obtain ⟨h1, h2⟩ := nx_written hl
    have hd2 : cs.drop (i + (escL c).length) = l.flatMap escL ++ [34] := by rw [← List.drop_drop, hd, List.drop_left]
    simp only [List.length_cons] at h
    rw [quoA_step (by omega) h1 h2 (by omega), ih (acc ++ [c]) cs _ (by simp; omega) hd2]
    simp
/-- One word is all of a text. -/
theorem scan_one {cs : List Nat} {x : Wd} (hsc : ∀ c ∈ cs, scN c) (h0 : 0 < cs.length) (h1 : limb cs 0 ≠ 59) (h2 : blN (limb cs 0) = false) (hw : wrdA cs 0 = some (x, cs.length)) : scanA (cs.map fun (c : Nat) => (c : Int)) = ([x], 0, 0) := by
  have hz : idxZ (fun c => !scB c) (cs.map fun (c : Nat) => (c : Int)) < 0 := by
    rw [idxZ_none]
    · omega
    · intro j hj
      rw [List.length_map] at hj
      have e : (cs.map fun (c : Nat) => (c : Int)).getD j 0 = (cs[j] : Nat) := by
        rw [List.getD_eq_getElem?_getD, List.getElem?_map, List.getElem?_eq_getElem hj]; rfl
      rw [e]
      have hs : scB ((cs[j] : Nat) : Int) = true := by rw [scB_nat]; exact decide_eq_true (hsc _ (List.getElem_mem hj))
      simp [hs]
  have hm : (cs.map fun (c : Nat) => (c : Int)).map Int.toNat = cs := by
    rw [List.map_map]
    have : (Int.toNat ∘ fun (c : Nat) => (c : Int)) = id := by funext c; simp
    rw [this, List.map_id]
  have hs : skp cs 0 = 0 := skp_stop h0 h1 h2
  have hv : scanW cs = ([x], 0, 0) := by
    unfold scanW
    rw [wdsA_step (by rw [hs]; exact h0) (by rw [hs]; exact hw), wdsA_end (by rw [skp_end (Nat.le_refl _)]; exact Nat.le_refl _)]
    rfl
  unfold scanA
  rw [if_pos hz, hm, hv]
  rfl
theorem mark_quo {cs : List Nat} (h : limb cs 0 = 34) : markA cs 0 = none := by
  refine markA_none fun j hj => ?_
  have h2 := mText_no34 ⟨j, hj⟩
  cases hp : pfx (mText j) cs 0 with
  | false => rfl
  | true =>
    exfalso
    rcases pfx_iff.1 hp with ⟨_, h1⟩ | h1
    · have h3 := h1 0 (by have := h2.1; simp only at this; omega)
      rw [Nat.zero_add, h] at h3
      exact h2.2 h3.symm
    · exact h2.1 (by show (mText j).length = 0; rw [h1]; rfl)
theorem quoT_sc {l : List Nat} (h : ∀ c ∈ l, scN c) : ∀ c ∈ quoT l, scN c := by
  have h34 : scN 34 := by unfold scN; omega
  intro c hc
  unfold quoT at hc
  rcases List.mem_cons.1 hc with rfl | hc
  · exact h34
  rcases List.mem_append.1 hc with hc | hc
  · obtain ⟨d, hd, hc⟩ := List.mem_flatMap.1 hc
    rcases Nat.lt_or_ge d 128 with h1 | h1
    · have := List.all_eq_true.1 (escL_low ⟨d, h1⟩).1 c hc
      simp at this
      unfold scN
      omega
    · rw [escL_high h1, List.mem_singleton] at hc
      subst hc
      exact h _ hd
  · rw [List.mem_singleton] at hc
    subst hc
    exact h34
/-- A string that is written is one word, which is it. -/
theorem scan_quo {l : List Nat} (h : ∀ c ∈ l, scN c) (hl : l.length ≤ 4096) : scanA ((quoT l).map fun (c : Nat) => (c : Int)) = ([leafW ⟨5, encL l, false, []⟩ 0], 0, 0) := by
  have h0 : limb (quoT l) 0 = 34 := rfl
  refine scan_one (quoT_sc h) (by simp [quoT]) (by rw [h0]; decide) (by rw [h0]; decide) ?_
  rw [wrdA_quo (mark_quo h0) h0]
  unfold quoW
  rw [quo_written l [] (quoT l) (0 + 1) (by simpa using hl) rfl]
  rfl

theorem encL_app (a b : List Nat) : encL (a ++ b) = encL a ++ encL b := by unfold encL; simp
theorem encL_low {l : List Nat} (h : ∀ c ∈ l, c < 128) : encL l = l := by
  induction l with
  | nil => rfl
  | cons c l ih =>
    have h1 : encN c = [c] := by unfold encN; rw [if_pos (h c (by simp))]
    show encN c ++ encL l = _
    rw [h1, ih fun a ha => h a (by simp [ha])]
    rfl
theorem escN_esc (c : Nat) (_hc : scN c) : (encN c).flatMap escL = encL (escL c) := by
  rcases Nat.lt_or_ge c 128 with h | h
  · have h1 : encN c = [c] := by unfold encN; rw [if_pos h]
    rw [h1, encL_low]
    · simp
    · intro a ha
      have := List.all_eq_true.1 (escL_low ⟨c, h⟩).1 a ha
      simpa using this
  · have hb : ∀ b ∈ encN c, 128 ≤ b := by
      intro b hb
      unfold encN at hb
      rw [if_neg (by omega)] at hb
      (repeat' split at hb) <;> (simp at hb; omega)
    have key : ∀ l : List Nat, (∀ b ∈ l, 128 ≤ b) → l.flatMap escL = l := by
      intro l
      induction l with
      | nil => intro _; rfl
      | cons b l ih =>
        intro h
        rw [List.flatMap_cons, escL_high (h b (by simp)), ih fun a ha => h a (by simp [ha])]
        rfl
    rw [key _ hb, escL_high h]
    simp [encL]
/-- Bytes that are written are the bytes of what is written. -/
theorem quoT_enc {l : List Nat} (h : ∀ c ∈ l, scN c) : quoT (encL l) = encL (quoT l) := by
  have key : ∀ l : List Nat, (∀ c ∈ l, scN c) → (encL l).flatMap escL = encL (l.flatMap escL) := by
    intro l
    induction l with
    | nil => intro _; rfl
    | cons c l ih =>
      intro h
      have e : encL (c :: l) = encN c ++ encL l := by simp [encL]
      rw [e, List.flatMap_append, List.flatMap_cons, encL_app, ih fun a ha => h a (by simp [ha]), escN_esc c (h c (by simp))]
  have e34 : encN 34 = [34] := by decide
  unfold quoT
  rw [key l h]
  show _ = encN 34 ++ encL (l.flatMap escL ++ [34])
  rw [encL_app, e34]
  rfl
/-- The characters of what is written for bytes that are characters. -/
theorem chars_quo {bs l : List Nat} (hby : By bs) (h : chars bs 0 = (l, none)) : (chA (quoT bs)).1 = quoT l ∧ encL l = bs ∧ ∀ c ∈ l, scN c := by
  obtain ⟨h1, h2⟩ := enc_chars hby _ 0 l (Nat.le_refl _) (Nat.zero_le _) h
  rw [List.drop_zero] at h1
  refine ⟨?_, h1, h2⟩
  rw [← h1, quoT_enc h2, chA_ok (chars_enc _ (quoT_sc h2))]

/-- The characters of a name. -/
def nmL (c : Nat) : List Nat := if c < 128 then nameA c else [c]
theorem nm_low : ∀ c : Fin 128, (nameA c.val).all (fun x => decide (x < 128)) = true ∧ 0 < (nameA c.val).length ∧ ((nameA c.val).drop 1).all (fun x => !enN x) = true := by decide +kernel
theorem nm_enc (c : Nat) : encL (nmL c) = nameA c := by
  unfold nmL
  by_cases h : c < 128
  · rw [if_pos h]
    refine encL_low fun a ha => ?_
    have := List.all_eq_true.1 (nm_low ⟨c, h⟩).1 a ha
    simpa using this
  · rw [if_neg h]
    unfold nameA
    rw [if_neg (by omega), if_neg (by omega), if_neg (by omega), if_neg (by omega), if_neg (by omega), if_neg (by omega), if_neg (by omega), if_neg (by omega)]
    simp [encL]
theorem nm_sc {c : Nat} (hc : scN c) : ∀ a ∈ nmL c, scN a := by
  intro a ha
  unfold nmL at ha
  by_cases h : c < 128
  · rw [if_pos h] at ha
    have := List.all_eq_true.1 (nm_low ⟨c, h⟩).1 a ha
    simp at this
    unfold scN
    omega
  · rw [if_neg h, List.mem_singleton] at ha
    subst ha
    exact hc
theorem nm_pos (c : Nat) : 0 < (nmL c).length := by
  unfold nmL
  by_cases h : c < 128
  · rw [if_pos h]; exact (nm_low ⟨c, h⟩).2.1
  · rw [if_neg h]; simp
theorem nm_ends (c : Nat) : ((nmL c).drop 1).all (fun x => !enN x) = true := by
  unfold nmL
  by_cases h : c < 128
  · rw [if_pos h]; exact (nm_low ⟨c, h⟩).2.2
  · rw [if_neg h]; rfl
theorem chars_nm {c : Nat} (hc : scN c) : (chA (nameA c)).1 = nmL c := by rw [← nm_enc, chA_ok (chars_enc _ (nm_sc hc))]
/-- A character that is written by its name is one word, which is it. -/
theorem scan_chr {c : Nat} (hc : scN c) : scanA ((35 :: 92 :: nmL c).map fun (c : Nat) => (c : Int)) = ([leafW ⟨6, encN c, false, []⟩ 0], 0, 0) := by
  have hp := nm_pos c
  have hlen : (35 :: 92 :: nmL c).length = (nmL c).length + 2 := by simp
  have hmk : markA (35 :: 92 :: nmL c) 0 = none := by
    unfold markA pfx
    simp [List.range, List.range.loop, mText, mtab]
  refine scan_one ?_ (by rw [hlen]; omega) (by show (35 : Nat) ≠ 59; decide) (by show blN 35 = false; decide) ?_
  · intro a ha
    rcases List.mem_cons.1 ha with rfl | ha
    · unfold scN; omega
    rcases List.mem_cons.1 ha with rfl | ha
    · unfold scN; omega
    · exact nm_sc hc a ha
  · rw [wrdA_chr hmk (by show (35 : Nat) ≠ 34; decide) (by unfold pfx; simp)]
    unfold chrW
    have ht : til enN (35 :: 92 :: nmL c) (0 + 2 + 1) = (nmL c).length + 2 := by
      refine til_is _ _ _ rfl (by omega) (by rw [hlen]; omega) (fun j h1 h2 => ?_) (fun h => by rw [hlen] at h; omega)
      obtain ⟨m, rfl⟩ : ∃ m, j = m + 3 := ⟨j - 3, by omega⟩
      have hm : m < ((nmL c).drop 1).length := by simp; omega
      have e : limb (35 :: 92 :: nmL c) (m + 3) = ((nmL c).drop 1)[m] := by
        unfold limb
        rw [List.getD_eq_getElem?_getD]
        simp []
        rw [List.getElem?_eq_getElem (by omega)]
        rfl
      rw [e]
      have := List.all_eq_true.1 (nm_ends c) _ (List.getElem_mem hm)
      simpa using this
    have hcut : cutN (35 :: 92 :: nmL c) (0 + 2) ((nmL c).length + 2) = nmL c := by
      unfold cutN
      simp
    rw [chrA_at (by rw [hlen]; omega), ht, hcut, nm_enc, named_name hc, hlen]
    rfl
end Go.Proofs.YtpahfhjgcflifaaGreatDoor
namespace Go.Proofs.YtpahfhjgcflifaaGreatDoor
open Go.RowKit

/-- Behind u, which stands at i, the text ends or a character that ends words stands. -/
def EndsAt (cs : List Nat) (j : Nat) : Prop := j = cs.length ∨ (j < cs.length ∧ enN (limb cs j) = true)
theorem til_end_lies {u cs : List Nat} {i : Nat} (h : Lies u cs i) (hu : 0 < u.length) (hend : EndsAt cs (i + u.length)) (hno : ∀ a ∈ u, enN a = false) : til enN cs i = i + u.length := by
  have hle := h.le hu
  refine til_is _ i (i + u.length) rfl (by omega) hle (fun j h1 h2 => ?_) (fun hl => ?_)
  · obtain ⟨m, rfl⟩ : ∃ m, j = i + m := ⟨j - i, by omega⟩
    rw [h.at (by omega), limb_lt (by omega)]
    exact hno _ (List.getElem_mem _)
  · rcases hend with e | ⟨_, e⟩
    · omega
    · exact e
theorem wrd_lies {u cs : List Nat} {i : Nat} {d : Dt} (h : Lies u cs i) (hu : 0 < u.length) (hend : EndsAt cs (i + u.length)) (hno : ∀ a ∈ u, enN a = false) (hm : markA cs i = none) (hp : pfx [35, 92] cs i = false) (h46 : encL u ≠ [46]) (hd : atmA (encL u) = some d) :
    wrdA cs i = some (leafW d i, i + u.length) := by
  have h0 : limb cs i = limb u 0 := h.at (j := 0) hu
  have h34 : ¬ limb cs i = 34 := by
    intro e
    have := hno (limb u 0) (by rw [limb_lt hu]; exact List.getElem_mem _)
    rw [← h0, e] at this
    exact absurd this (by decide)
  rw [wrdA_atm hm h34 hp]
  unfold atmW
  rw [til_end_lies h hu hend hno, h.cut, if_neg h46, hd]
  rfl
theorem mText_first : ∀ k : Fin 12, 0 < (mText k.val).length ∧ (enN (limb (mText k.val) 0) = true ∨ limb (mText k.val) 0 = 35) := by decide
/-- No mark begins with a character that does not end words and is no #. -/
theorem mark_none_of {cs : List Nat} {i : Nat} (h1 : enN (limb cs i) = false) (h2 : limb cs i ≠ 35) : markA cs i = none := by
  refine markA_none fun j hj => ?_
  cases hp : pfx (mText j) cs i with
  | false => rfl
  | true =>
    exfalso
    obtain ⟨f1, f2⟩ := mText_first ⟨j, hj⟩
    simp only at f1 f2
    rcases pfx_iff.1 hp with ⟨_, h3⟩ | h3
    · have h4 := h3 0 f1
      rw [Nat.add_zero] at h4
      rcases f2 with f2 | f2
      · rw [← h4, h1] at f2; cases f2
      · exact h2 (h4.trans f2)
    · rw [h3] at f1; simp at f1
/-- A symbol's characters. -/
theorem sym_facts {t : List Nat} (hby : By t) (h : symA t = true) : ∃ u, chars t 0 = (u, none) ∧ encL u = t ∧ 0 < u.length ∧ (∀ a ∈ u, enN a = false) ∧ limb u 0 ≠ 35 ∧ t ≠ [46] ∧ ∀ c ∈ u, scN c := by
  have hs := h
  unfold symA at hs
  simp only [Bool.and_eq_true, decide_eq_true_iff, Bool.not_eq_true', List.all_eq_true] at hs
  obtain ⟨⟨⟨⟨h1, h2, _, h4⟩, _⟩, h6⟩, h7⟩ := hs
  have hc : chars t 0 = ((chars t 0).1, none) := by rw [← h6]
  obtain ⟨e1, e2⟩ := enc_chars hby _ 0 _ (Nat.le_refl _) (Nat.zero_le _) hc
  rw [List.drop_zero] at e1
  generalize (chars t 0).1 = u at *
  have hu : 0 < u.length := by
    apply Nat.pos_of_ne_zero
    intro h0
    have : u = [] := List.eq_nil_of_length_eq_zero h0
    rw [this] at e1
    exact h1 e1.symm
  refine ⟨u, hc, e1, hu, fun a ha => by simpa using h7 a ha, ?_, h2, e2⟩
  intro h35
  apply h4
  obtain ⟨c, v, rfl⟩ : ∃ c v, u = c :: v := by cases u with | nil => simp at hu | cons c v => exact ⟨c, v, rfl⟩
  have hc35 : c = 35 := h35
  subst hc35
  rw [← e1]
  have e : encL (35 :: v) = encN 35 ++ encL v := by simp [encL]
  rw [e]
  rfl
theorem wrd_sym {t cs : List Nat} {i : Nat} (hby : By t) (h : symA t = true) (hl : Lies (chA t).1 cs i) (hend : EndsAt cs (i + (chA t).1.length)) : wrdA cs i = some (leafW ⟨4, t, false, []⟩ i, i + (chA t).1.length) := by
  obtain ⟨u, hc, he, hu, hno, h35, h46, _⟩ := sym_facts hby h
  rw [chA_ok hc] at hl hend ⊢
  simp only at hl hend ⊢
  have h0 : limb cs i = limb u 0 := hl.at (j := 0) hu
  have hn0 : enN (limb cs i) = false := by rw [h0, limb_lt hu]; exact hno _ (List.getElem_mem _)
  have hn35 : limb cs i ≠ 35 := by rw [h0]; exact h35
  refine wrd_lies hl hu hend hno (mark_none_of hn0 hn35) ?_ (by rw [he]; exact h46) (by rw [he]; exact atmA_symb hby h)
  cases hp : pfx [35, 92] cs i with
  | false => rfl
  | true =>
    exfalso
    rcases pfx_iff.1 hp with ⟨_, h3⟩ | h3
    · exact hn35 (h3 0 (by simp))
    · cases h3
/-- #t and #f. -/
theorem wrd_bool {x : Nat} (hx : x = 116 ∨ x = 102) {cs : List Nat} {i : Nat} (hl : Lies [35, x] cs i) (hend : EndsAt cs (i + 2)) : wrdA cs i = some (leafW ⟨if x = 116 then 8 else 9, [], false, []⟩ i, i + 2) := by
  have h0 : limb cs i = 35 := hl.at (j := 0) (by simp)
  have h1 : limb cs (i + 1) = x := hl.at (j := 1) (by simp)
  have hlow : encL [35, x] = [35, x] := encL_low (by intro c hc; simp at hc; omega)
  refine wrd_lies hl (by simp) hend ?_ ?_ ?_ (by rw [hlow]; simp) ?_
  · intro a ha
    simp at ha
    rcases ha with rfl | rfl
    · decide
    · rcases hx with rfl | rfl <;> decide
  · obtain ⟨rest, hr⟩ := hl
    unfold markA pfx
    rw [hr]
    rcases hx with rfl | rfl <;> simp [List.range, List.range.loop, mText, mtab]
  · obtain ⟨rest, hr⟩ := hl
    unfold pfx
    rw [hr]
    rcases hx with rfl | rfl <;> simp
  · rw [hlow]
    rcases hx with rfl | rfl
    · exact atmA_true (.inl rfl)
    · exact atmA_false (by decide) (.inl rfl)
/-- A string, wherever it stands. -/
theorem wrd_str {l cs : List Nat} {i : Nat} (hl : l.length ≤ 4096) (hlie : Lies (quoT l) cs i) : wrdA cs i = some (leafW ⟨5, encL l, false, []⟩ i, i + (quoT l).length) := by
  have h0 : limb cs i = 34 := hlie.at (j := 0) (by simp [quoT])
  have hm : markA cs i = none := by
    refine markA_none fun j hj => ?_
    have h2 := mText_no34 ⟨j, hj⟩
    cases hp : pfx (mText j) cs i with
    | false => rfl
    | true =>
      exfalso
      rcases pfx_iff.1 hp with ⟨_, h1⟩ | h1
      · have h3 := h1 0 (by have := h2.1; simp only at this; omega)
        rw [Nat.add_zero, h0] at h3
        exact h2.2 h3.symm
      · exact h2.1 (by show (mText j).length = 0; rw [h1]; rfl)
  rw [wrdA_quo hm h0]
  unfold quoW
  have key : ∀ (l acc : List Nat) (i : Nat), acc.length + l.length ≤ 4096 → Lies (l.flatMap escL ++ [34]) cs i → quoA cs i acc = some (acc ++ l, i + (l.flatMap escL).length + 1) := by
    intro l
    induction l with
    | nil =>
      intro acc i _ hd
      have h0 : limb cs i = 34 := hd.at (j := 0) (by simp)
      have hle := hd.le (by simp)
      simp only [List.flatMap_nil, List.nil_append, List.length_cons, List.length_nil] at hle
      rw [quoA_quote (by omega) h0]
      simp
    | cons c l ih =>
      intro acc i hacc hd
      have e : (c :: l).flatMap escL ++ [34] = escL c ++ (l.flatMap escL ++ [34]) := by simp
      rw [e] at hd
      have hp := escL_pos c
      have hlc : Lies (escL c) cs i := by obtain ⟨rest, hr⟩ := hd; exact ⟨l.flatMap escL ++ [34] ++ rest, by rw [hr, List.append_assoc]⟩
      have hle := hlc.le hp
      obtain ⟨h1, h2⟩ := nx_written hlc
      simp only [List.length_cons] at hacc
      rw [quoA_step (by omega) h1 h2 (by omega), ih (acc ++ [c]) _ (by simp; omega) hd.tail]
      simp
      omega
  have htl : Lies (l.flatMap escL ++ [34]) cs (i + 1) := by
    have h : Lies ([34] ++ (l.flatMap escL ++ [34])) cs i := hlie
    exact h.tail
  rw [key l [] (i + 1) (by simpa using hl) htl]
  simp [quoT]
  omega
/-- A character by its name, wherever it stands. -/
theorem wrd_chr {c : Nat} (hc : scN c) {cs : List Nat} {i : Nat} (hlie : Lies (35 :: 92 :: nmL c) cs i) (hend : EndsAt cs (i + ((nmL c).length + 2))) : wrdA cs i = some (leafW ⟨6, encN c, false, []⟩ i, i + ((nmL c).length + 2)) := by
  have hp := nm_pos c
  have hle := hlie.le (by simp)
  simp only [List.length_cons] at hle
  have h0 : limb cs i = 35 := hlie.at (j := 0) (by simp)
  have hmk : markA cs i = none := by
    obtain ⟨rest, hr⟩ := hlie
    unfold markA pfx
    rw [hr]
    simp [List.range, List.range.loop, mText, mtab]
  have hpf : pfx [35, 92] cs i = true := by
    obtain ⟨rest, hr⟩ := hlie
    unfold pfx
    rw [hr]
    simp
  rw [wrdA_chr hmk (by rw [h0]; decide) hpf]
  unfold chrW
  have htl : Lies (nmL c) cs (i + 2) := by
    have h : Lies ([35, 92] ++ nmL c) cs i := hlie
    exact h.tail
  have ht : til enN cs (i + 2 + 1) = i + 2 + (nmL c).length := by
    refine til_is _ _ _ rfl (by omega) (by omega) (fun j h1 h2 => ?_) (fun hl => ?_)
    · obtain ⟨m, rfl⟩ : ∃ m, j = i + 2 + (m + 1) := ⟨j - (i + 3), by omega⟩
      have hm : m < ((nmL c).drop 1).length := by simp; omega
      rw [htl.at (by omega)]
      have e : limb (nmL c) (m + 1) = ((nmL c).drop 1)[m] := by
        rw [limb_lt (by omega)]
        simp []
      rw [e]
      have := List.all_eq_true.1 (nm_ends c) _ (List.getElem_mem hm)
      simpa using this
    · rcases hend with e | ⟨_, e⟩
      · omega
      · rw [show i + 2 + (nmL c).length = i + ((nmL c).length + 2) by omega]; exact e
  have hcut : cutN cs (i + 2) (i + 2 + (nmL c).length) = nmL c := htl.cut
  rw [chrA_at (by omega), ht, hcut, nm_enc, named_name hc]
  simp
  omega
end Go.Proofs.YtpahfhjgcflifaaGreatDoor
