/- What is read of a text that was written, and of lists within lists. -/
import Derived.Test.YtpahfhjgcflifaaGreatDoorRdRead
import Derived.Test.YtpahfhjgcflifaaGreatDoorTx
namespace Go.Proofs.YtpahfhjgcflifaaGreatDoor
open Go.RowKit

/-- What is read of a text all of whose words are read as d. -/
theorem read_scs {cs : List Nat} {ws : List Wd} {d : Dm} (hs : Scs cs 0 ws cs.length) (hr : ReadsAs ws d) (hsc : ∀ c ∈ cs, scN c) (hl : (encL cs).length ≤ 65536) {depth : Nat} (h1 : 1 ≤ depth) (h2 : depth ≤ 64) :
    (okD depth d = true ∧ d.sz ≤ 8192 → ∃ d', d'.strip = d.strip ∧ readA (encL cs) (depth : Nat) = ([d'], 0, 0)) ∧
    (¬ (okD depth d = true ∧ d.sz ≤ 8192) → ∃ (a : Int) (e : Nat), readA (encL cs) (depth : Nat) = ([], a, e) ∧ (e = 5 ∨ e = 6) ∧ (okD depth d = true → e = 6) ∧ (d.sz ≤ 8192 → e = 5)) := by
  have hd : decA (encL cs) = (cs, 0, 0) := decA_ok hl (chars_enc cs hsc)
  have hq := scanW_of hs
  have e : readA (encL cs) (depth : Nat) = ((wordsA depth cs.length ws).1, (((wordsA depth cs.length ws).2.1 : Nat) : Int), (wordsA depth cs.length ws).2.2) := by
    unfold readA
    rw [if_neg (by omega), hd]
    simp only [ne_eq, not_true_eq_false, if_false]
    rw [hq]
    simp
  obtain ⟨w1, w2⟩ := words_of hr depth cs.length
  rw [e]
  refine ⟨fun hg => ?_, fun hn => ?_⟩
  · obtain ⟨d', h3, h4⟩ := w1 hg
    exact ⟨d', h3, by rw [h4]; rfl⟩
  · obtain ⟨a, er, h3, h4, h5, h6⟩ := w2 hn
    exact ⟨(a : Nat), er, by rw [h3], h4, h5, h6⟩
/-- What is read of a text that is a datum's. -/
theorem read_writes {s : List Nat} {d : Dm} (hw : Writes s d) (hsc : ∀ c ∈ s, scN c) (hl : (encL s).length ≤ 65536) {depth : Nat} (h1 : 1 ≤ depth) (h2 : depth ≤ 64) :
    (okD depth d = true ∧ d.sz ≤ 8192 → ∃ d', d'.strip = d.strip ∧ readA (encL s) (depth : Nat) = ([d'], 0, 0)) ∧
    (¬ (okD depth d = true ∧ d.sz ≤ 8192) → ∃ (a : Int) (e : Nat), readA (encL s) (depth : Nat) = ([], a, e) ∧ (e = 5 ∨ e = 6) ∧ (okD depth d = true → e = 6) ∧ (d.sz ≤ 8192 → e = 5)) := by
  obtain ⟨ws, h3, h4⟩ := hw.reads s 0 ⟨[], by simp⟩ (.inl (by simp))
  rw [Nat.zero_add] at h3
  exact read_scs h3 h4 hsc hl h1 h2
/-- Lists within lists: the text, and the datum. -/
def nestT : Nat → List Nat → List Nat
  | 0, s => s
  | n + 1, s => 40 :: (nestT n s ++ [41])
def nestD : Nat → Dm → Dm
  | 0, d => d
  | n + 1, d => .mk 1 [] false [] [nestD n d] 0
theorem nestT_len (n : Nat) (s : List Nat) : (nestT n s).length = 2 * n + s.length := by
  induction n with
  | zero => simp [nestT]
  | succ n ih => simp [nestT, ih]; omega
theorem nestT_low {n : Nat} {s : List Nat} (h : ∀ c ∈ s, c < 128) : ∀ c ∈ nestT n s, c < 128 := by
  induction n with
  | zero => exact h
  | succ n ih =>
    intro c hc
    rcases List.mem_cons.1 hc with rfl | hc
    · decide
    rcases List.mem_append.1 hc with hc | hc
    · exact ih c hc
    · rw [List.mem_singleton.1 hc]; decide
theorem nestD_sz (n : Nat) (d : Dm) : (nestD n d).sz = n + d.sz := by
  induction n with
  | zero => simp [nestD]
  | succ n ih =>
    show (Dm.mk 1 [] false [] [nestD n d] 0).sz = _
    rw [sz_sumA, sumA_one, ih]
    omega
theorem nestD_ok {d : Dm} {m : Nat} (_hm : 1 ≤ m) (h : ∀ f, okD f d = true ↔ m ≤ f) : ∀ n f, okD f (nestD n d) = true ↔ n + m ≤ f := by
  intro n
  induction n with
  | zero => intro f; rw [Nat.zero_add]; exact h f
  | succ n ih =>
    intro f
    cases f with
    | zero =>
      show okD 0 (Dm.mk 1 [] false [] [nestD n d] 0) = true ↔ _
      rw [okD_zero]
      simp
    | succ f =>
      show okD (f + 1) (Dm.mk 1 [] false [] [nestD n d] 0) = true ↔ _
      rw [okD_node (.inl rfl)]
      have e : endA 1 [nestD n d] = true := rfl
      rw [e]
      simp only [decide_true, blankA, Bool.not_false, List.length_nil, Bool.and_self, Bool.true_and, List.all_cons, List.all_nil, Bool.and_true]
      rw [ih f]
      omega
theorem nest_writes {s : List Nat} {d : Dm} {m : Nat} (hm : 1 ≤ m) (h : ∀ f, okD f d = true ↔ m ≤ f) (hw : Writes s d) : ∀ n, Writes (nestT n s) (nestD n d)
  | 0 => hw
  | n + 1 => (nest_writes hm h hw n).paren (g := n + m) ((nestD_ok hm h n _).2 (Nat.le_refl _))
theorem symb_a : symbA [97] = true := by
  have h1 : chars [97] 0 = ([97], none) := chars_enc [97] (by intro c hc; rw [List.mem_singleton] at hc; subst hc; decide)
  have y1 : symA [97] = true := symA_yes (by decide) (by decide) (by decide) (by decide) (by decide) (by rw [h1]) (by rw [h1]; decide)
  unfold symbA
  rw [atmA_symb (by_of (by decide)) y1]
  rfl
def aD : Dm := .mk 4 [97] false [] [] 0
def qaD : Dm := .mk 1 [] false [] [.mk 4 (mName 2) false [] [] 0, aD] 0
theorem aD_ok (f : Nat) : okD f aD = true ↔ 1 ≤ f := by
  have h1 : okD 1 aD = true := by
    unfold aD
    rw [okD_leaf (by omega) (by omega)]
    unfold wrtA
    rw [if_pos rfl, symb_a]
    rfl
  exact okD_lev h1 (by omega)
theorem aD_writes : Writes [97] aD := by
  have h1 : chars [97] 0 = ([97], none) := chars_enc [97] (by intro c hc; rw [List.mem_singleton] at hc; subst hc; decide)
  have e : aD.tx = [97] := by
    unfold Dm.tx aD
    rw [tg_leaf (by omega)]
    show (chA [97]).1 = _
    rw [chA_ok h1]
  rw [← e]
  exact writes_dm ((aD_ok 1).2 (Nat.le_refl _)) (plain_of (by omega) (by omega) fun j hj => by simp at hj) (.mk (by_of (by decide)) fun i h => by simp at h)
theorem qaD_ok (f : Nat) : okD f qaD = true ↔ 2 ≤ f := by
  cases f with
  | zero => rw [okD_zero]; simp
  | succ f =>
    unfold qaD
    rw [okD_node (.inl rfl)]
    have e1 : endA 1 [Dm.mk 4 (mName 2) false [] [] 0, aD] = true := rfl
    rw [e1]
    simp only [decide_true, blankA, Bool.not_false, List.length_nil, Bool.and_self, Bool.true_and, List.all_cons, List.all_nil, Bool.and_true, Bool.and_eq_true]
    rw [aD_ok]
    constructor
    · rintro ⟨_, h⟩; omega
    · intro h
      refine ⟨?_, by omega⟩
      obtain ⟨f, rfl⟩ : ∃ g, f = g + 1 := ⟨f - 1, by omega⟩
      rw [okD_leaf (by omega) (by omega)]
      unfold wrtA
      rw [if_pos rfl, symb_quote]
      rfl
theorem qaD_writes : Writes [39, 97] qaD := aD_writes.quote
/-- How deep lists may stand within one another. -/
theorem nest_read {s : List Nat} {d : Dm} {m n depth : Nat} (hm : 1 ≤ m) (h : ∀ f, okD f d = true ↔ m ≤ f) (hw : Writes s d) (hlow : ∀ c ∈ s, c < 128) (hsz : d.sz ≤ 10) (hsl : s.length ≤ 10) (hn : n ≤ 100) (h1 : 1 ≤ depth) (h2 : depth ≤ 64) : (readA (nestT n s) (depth : Nat)).2.2 = if n + m > depth then 5 else 0 := by
  have hlo := nestT_low (n := n) hlow
  have he := encL_low hlo
  have hlen := nestT_len n s
  have hz := nestD_sz n d
  obtain ⟨r1, r2⟩ := read_writes (nest_writes hm h hw n) (fun c hc => by have := hlo c hc; unfold scN; omega) (by rw [he, hlen]; omega) h1 h2
  rw [he] at r1 r2
  by_cases hd : n + m ≤ depth
  · obtain ⟨d', _, e⟩ := r1 ⟨(nestD_ok hm h n depth).2 hd, by omega⟩
    rw [e, if_neg (by omega)]
  · obtain ⟨a, e, e1, e2, e3, e4⟩ := r2 fun hh => hd ((nestD_ok hm h n depth).1 hh.1)
    rw [e1, if_pos (by omega)]
    exact e4 (by omega)
end Go.Proofs.YtpahfhjgcflifaaGreatDoor
