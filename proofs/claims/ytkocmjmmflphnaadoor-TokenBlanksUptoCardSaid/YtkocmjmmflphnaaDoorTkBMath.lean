/- TokenBlanks: what blanks and a comment between two words change in what is scanned. No walk here. -/
import Derived.Test.YtkocmjmmflphnaaDoorTkSMath
namespace Go.Proofs.YtkocmjmmflphnaaDoor
open Go.RowKit

/-- Where one text goes on as the other does. -/
def Al (cs : List Nat) (i : Nat) (ds : List Nat) (k : Nat) : Prop := cs.drop i = ds.drop k ∧ i ≤ cs.length ∧ k ≤ ds.length
theorem Al.len {cs ds : List Nat} {i k : Nat} (h : Al cs i ds k) : cs.length - i = ds.length - k := by
  have := congrArg List.length h.1
  simpa using this
theorem Al.lim {cs ds : List Nat} {i k : Nat} (h : Al cs i ds k) (n : Nat) : limb cs (i + n) = limb ds (k + n) := by rw [← limb_drop, ← limb_drop, h.1]
theorem Al.lim0 {cs ds : List Nat} {i k : Nat} (h : Al cs i ds k) : limb cs i = limb ds k := h.lim 0
theorem Al.add {cs ds : List Nat} {i k : Nat} (h : Al cs i ds k) {n : Nat} (hn : i + n ≤ cs.length) : Al cs (i + n) ds (k + n) :=
  ⟨by rw [← List.drop_drop, ← List.drop_drop, h.1], hn, by have h1 := h.len; have h2 := h.2.1; have h3 := h.2.2; omega⟩
theorem Al.cut {cs ds : List Nat} {i k : Nat} (h : Al cs i ds k) (n : Nat) : cutN cs i (i + n) = cutN ds k (k + n) := by unfold cutN; rw [h.1]; congr 1; omega
theorem Al.px {cs ds : List Nat} {i k : Nat} (h : Al cs i ds k) (t : List Nat) : pfx t cs i = pfx t ds k := by unfold pfx; rw [h.1]
theorem Al.mark {cs ds : List Nat} {i k : Nat} (h : Al cs i ds k) : markA cs i = markA ds k := by unfold markA; congr 1; funext j; rw [h.px]
theorem Al.tl {cs ds : List Nat} {p : Nat → Bool} : ∀ (m i k : Nat), cs.length - i = m → Al cs i ds k → ∃ n, til p cs i = i + n ∧ til p ds k = k + n ∧ i + n ≤ cs.length := by
  intro m
  induction m with
  | zero =>
    intro i k hm h
    have := h.len
    have := h.2.1
    exact ⟨0, til_end (by omega), til_end (by omega), by omega⟩
  | succ m ih =>
    intro i k hm h
    have hl := h.len
    have h0 := h.lim0
    cases hp : p (limb cs i) with
    | true => exact ⟨0, til_stop (by omega) hp, til_stop (by omega) (by rw [← h0]; exact hp), by omega⟩
    | false =>
      obtain ⟨n, h1, h2, h3⟩ := ih (i + 1) (k + 1) (by omega) (h.add (n := 1) (by omega))
      exact ⟨n + 1, by rw [til_step (by omega) hp, h1]; omega, by rw [til_step (by omega) (by rw [← h0]; exact hp), h2]; omega, by omega⟩
theorem Al.num {cs ds : List Nat} {i k c j : Nat} (h : Al cs i ds k) (hn : numA cs i = some (c, j)) : ∃ n, j = i + n ∧ numA ds k = some (c, k + n) ∧ i + n ≤ cs.length := by
  obtain ⟨n, h1, h2, h3⟩ := Al.tl (p := semN) _ i k rfl h
  have hl := h.len
  unfold numA at hn ⊢
  rw [h1] at hn
  rw [h2]
  split at hn
  · rename_i ha
    rw [if_pos (by omega)]
    split at hn
    · cases hn
    · rename_i hb
      rw [if_neg (by omega), ← h.cut n]
      rw [Option.map_eq_some_iff] at hn
      obtain ⟨x, hx, hn⟩ := hn
      injection hn with e1 e2
      subst e1
      exact ⟨n + 1, by omega, by rw [hx]; rfl, by omega⟩
  · cases hn
theorem Al.esc {cs ds : List Nat} {i k c j : Nat} (h : Al cs i ds k) (hn : escA cs i = some (c, j)) : ∃ n, j = i + n ∧ escA ds k = some (c, k + n) ∧ i + n ≤ cs.length := by
  have hl := h.len
  unfold escA at hn ⊢
  rw [h.lim0] at hn
  split at hn
  · rename_i ha
    rw [if_pos (by omega)]
    by_cases a1 : limb ds k = 110
    · rw [if_pos a1] at hn ⊢
      injection hn with hn; injection hn with e1 e2
      subst e1
      exact ⟨1, by omega, rfl, by omega⟩
    rw [if_neg a1] at hn ⊢
    by_cases a2 : limb ds k = 116
    · rw [if_pos a2] at hn ⊢
      injection hn with hn; injection hn with e1 e2
      subst e1
      exact ⟨1, by omega, rfl, by omega⟩
    rw [if_neg a2] at hn ⊢
    by_cases a3 : limb ds k = 114
    · rw [if_pos a3] at hn ⊢
      injection hn with hn; injection hn with e1 e2
      subst e1
      exact ⟨1, by omega, rfl, by omega⟩
    rw [if_neg a3] at hn ⊢
    by_cases a4 : limb ds k = 92 ∨ limb ds k = 34
    · rw [if_pos a4] at hn ⊢
      injection hn with hn; injection hn with e1 e2
      subst e1
      exact ⟨1, by omega, rfl, by omega⟩
    rw [if_neg a4] at hn ⊢
    by_cases a5 : limb ds k = 120
    · rw [if_pos a5] at hn ⊢
      obtain ⟨n, e1, e2, e3⟩ := (h.add (n := 1) (by omega)).num hn
      exact ⟨n + 1, by omega, by rw [e2]; congr 2; omega, by omega⟩
    · rw [if_neg a5] at hn
      cases hn
  · cases hn
theorem Al.nx {cs ds : List Nat} {i k c j : Nat} (h : Al cs i ds k) (hi : i < cs.length) (hn : nxA cs i = some (c, j)) : ∃ n, j = i + n ∧ nxA ds k = some (c, k + n) ∧ i + n ≤ cs.length := by
  unfold nxA at hn ⊢
  rw [h.lim0] at hn
  by_cases a1 : limb ds k = 92
  · rw [if_pos a1] at hn ⊢
    obtain ⟨n, e1, e2, e3⟩ := (h.add (n := 1) (by omega)).esc hn
    exact ⟨n + 1, by omega, by rw [e2]; congr 2; omega, by omega⟩
  · rw [if_neg a1] at hn ⊢
    injection hn with hn; injection hn with e1 e2
    subst e1
    exact ⟨1, by omega, rfl, by omega⟩
theorem Al.quo {cs ds : List Nat} : ∀ (m i k : Nat) (acc l : List Nat) (j : Nat), cs.length - i = m → Al cs i ds k → quoA cs i acc = some (l, j) → ∃ n, j = i + n ∧ quoA ds k acc = some (l, k + n) ∧ i + n ≤ cs.length := by
  intro m
  induction m using Nat.strongRecOn with
  | ind m ih =>
    intro i k acc l j hm h hn
    have hl := h.len
    rcases Nat.lt_or_ge i cs.length with hi | hi
    · by_cases h1 : limb cs i = 34
      · rw [quoA_quote hi h1] at hn
        injection hn with hn; injection hn with e1 e2
        subst e1
        exact ⟨1, by omega, quoA_quote (by omega) (by rw [← h.lim0]; exact h1), by omega⟩
      · have h1' : ¬ limb ds k = 34 := by rw [← h.lim0]; exact h1
        cases h2 : nxA cs i with
        | none => rw [quoA_bad hi h1 h2] at hn; cases hn
        | some p =>
          obtain ⟨c, q⟩ := p
          have hg := nxA_gt hi h2
          obtain ⟨n, e1, e2, e3⟩ := h.nx hi h2
          by_cases h3 : acc.length = 4096
          · rw [quoA_long hi h1 h2 h3] at hn; cases hn
          · rw [quoA_step hi h1 h2 h3] at hn
            subst e1
            obtain ⟨n', f1, f2, f3⟩ := ih (cs.length - (i + n)) (by omega) (i + n) (k + n) _ _ _ rfl (h.add e3) hn
            refine ⟨n + n', by omega, ?_, by omega⟩
            rw [quoA_step (by omega) h1' e2 h3, f2]
            congr 2
            omega
    · rw [quoA_out hi] at hn; cases hn
theorem Al.chr {cs ds : List Nat} {i k c j : Nat} (h : Al cs i ds k) (hn : chrA cs i = some (c, j)) : ∃ n, j = i + n ∧ chrA ds k = some (c, k + n) ∧ i + n ≤ cs.length := by
  have hl := h.len
  rcases Nat.lt_or_ge i cs.length with hi | hi
  · rw [chrA_at hi] at hn
    rw [chrA_at (by omega)]
    obtain ⟨n, h1, h2, h3⟩ := Al.tl (p := enN) _ (i + 1) (k + 1) rfl (h.add (n := 1) (by omega))
    rw [h1, show i + 1 + n = i + (n + 1) by omega, h.cut (n + 1)] at hn
    rw [h2, show k + 1 + n = k + (n + 1) by omega]
    rw [Option.map_eq_some_iff] at hn
    obtain ⟨x, hx, hn⟩ := hn
    injection hn with e1 e2
    subst e1
    exact ⟨n + 1, by omega, by rw [hx]; rfl, by omega⟩
  · rw [chrA_out hi] at hn; cases hn

/-- Two words that differ in nothing but where they stand. -/
def Shd (m : Nat) (x y : Wd) : Prop := y.kind = x.kind ∧ y.txt = x.txt ∧ y.d = x.d ∧ y.pl = x.pl + m
/-- A word that stands further behind. -/
theorem Al.wrd {cs ds : List Nat} {i m j : Nat} {x : Wd} (h : Al cs i ds (i + m)) (hi : i < cs.length) (hn : wrdA cs i = some (x, j)) : ∃ y, wrdA ds (i + m) = some (y, j + m) ∧ Shd m x y ∧ x.pl = i ∧ j ≤ cs.length := by
  have hl := h.len
  have h0 := h.lim0
  cases hm : markA cs i with
  | some k =>
    rw [wrdA_mark hm] at hn
    injection hn with hn; injection hn with e1 e2
    subst e1
    have hle : i + (mText k).length ≤ cs.length := by
      unfold markA at hm
      rw [List.find?_range_eq_some] at hm
      rcases pfx_iff.1 hm.1 with h1 | h1
      · exact h1.1
      · rw [h1]; simp; omega
    exact ⟨markW k (i + m), by rw [wrdA_mark (by rw [← h.mark]; exact hm)]; congr 2; omega, ⟨rfl, rfl, rfl, rfl⟩, rfl, by omega⟩
  | none =>
    have hm2 : markA ds (i + m) = none := by rw [← h.mark]; exact hm
    by_cases h1 : limb cs i = 34
    · rw [wrdA_quo hm h1] at hn
      rw [wrdA_quo hm2 (by rw [← h0]; exact h1)]
      unfold quoW at hn ⊢
      rw [Option.map_eq_some_iff] at hn
      obtain ⟨⟨l, q⟩, hq, hn⟩ := hn
      injection hn with e1 e2
      subst e1
      obtain ⟨n, f1, f2, f3⟩ := Al.quo _ (i + 1) (i + m + 1) [] l q rfl (h.add (n := 1) (by omega)) hq
      simp only at e2
      exact ⟨leafW ⟨5, encL l, false, []⟩ (i + m), by rw [f2]; show some (_, _) = _; congr 2; omega, ⟨rfl, rfl, rfl, rfl⟩, rfl, by omega⟩
    · have h1' : ¬ limb ds (i + m) = 34 := by rw [← h0]; exact h1
      cases h2 : pfx [35, 92] cs i with
      | true =>
        rw [wrdA_chr hm h1 h2] at hn
        rw [wrdA_chr hm2 h1' (by rw [← h.px]; exact h2)]
        unfold chrW at hn ⊢
        rw [Option.map_eq_some_iff] at hn
        obtain ⟨⟨c, q⟩, hq, hn⟩ := hn
        injection hn with e1 e2
        subst e1
        have h2l : i + 2 ≤ cs.length := by
          rcases pfx_iff.1 h2 with h3 | h3
          · exact h3.1
          · cases h3
        obtain ⟨n, f1, f2, f3⟩ := (h.add (n := 2) h2l).chr hq
        simp only at e2
        exact ⟨leafW ⟨6, encN c, false, []⟩ (i + m), by rw [f2]; show some (_, _) = _; congr 2; omega, ⟨rfl, rfl, rfl, rfl⟩, rfl, by omega⟩
      | false =>
        rw [wrdA_atm hm h1 h2] at hn
        rw [wrdA_atm hm2 h1' (by rw [← h.px]; exact h2)]
        obtain ⟨n, f1, f2, f3⟩ := Al.tl (p := enN) _ i (i + m) rfl h
        unfold atmW at hn ⊢
        rw [f1] at hn
        rw [f2, ← h.cut n]
        by_cases h3 : encL (cutN cs i (i + n)) = [46]
        · rw [if_pos h3] at hn ⊢
          injection hn with hn; injection hn with e1 e2
          subst e1
          exact ⟨dotW (i + m), by congr 2; omega, ⟨rfl, rfl, rfl, rfl⟩, rfl, by omega⟩
        · rw [if_neg h3] at hn ⊢
          rw [Option.map_eq_some_iff] at hn
          obtain ⟨d, hq, hn⟩ := hn
          injection hn with e1 e2
          subst e1
          exact ⟨leafW d (i + m), by rw [hq]; show some (_, _) = _; congr 2; omega, ⟨rfl, rfl, rfl, rfl⟩, rfl, by omega⟩
theorem Al.sk {cs ds : List Nat} : ∀ (n i m : Nat), cs.length - i = n → Al cs i ds (i + m) → skp ds (i + m) = skp cs i + m ∧ skp cs i ≤ cs.length := by
  intro n
  induction n using Nat.strongRecOn with
  | ind n ih =>
    intro i m hn h
    have hl := h.len
    have h0 := h.lim0
    rcases Nat.lt_or_ge i cs.length with hi | hi
    · by_cases h1 : limb cs i = 59
      · obtain ⟨q, f1, f2, f3⟩ := Al.tl (p := nlN) _ (i + 1) (i + m + 1) rfl (h.add (n := 1) (by omega))
        rw [skp_semi hi h1, skp_semi (cs := ds) (by omega) (by rw [← h0]; exact h1), f1, f2]
        have ha : Al cs (i + 1 + q) ds (i + 1 + q + m) := by
          have := h.add (n := 1 + q) (by omega)
          rw [show i + (1 + q) = i + 1 + q by omega, show i + m + (1 + q) = i + 1 + q + m by omega] at this
          exact this
        have := ih (cs.length - (i + 1 + q)) (by omega) _ m rfl ha
        rw [show i + m + 1 + q = i + 1 + q + m by omega]
        exact this
      · cases h2 : blN (limb cs i) with
        | true =>
          rw [skp_blank hi h1 h2, skp_blank (cs := ds) (by omega) (by rw [← h0]; exact h1) (by rw [← h0]; exact h2)]
          have ha : Al cs (i + 1) ds (i + 1 + m) := by
            have := h.add (n := 1) (by omega)
            rw [show i + m + 1 = i + 1 + m by omega] at this
            exact this
          rw [show i + m + 1 = i + 1 + m by omega]
          exact ih (cs.length - (i + 1)) (by omega) _ m rfl ha
        | false =>
          rw [skp_stop hi h1 h2, skp_stop (cs := ds) (by omega) (by rw [← h0]; exact h1) (by rw [← h0]; exact h2)]
          exact ⟨rfl, by omega⟩
    · rw [skp_end hi, skp_end (cs := ds) (by omega)]
      have := h.2.1
      exact ⟨rfl, this⟩

/-- The words from i on are ws, to the end. -/
def Run (cs : List Nat) : Nat → List Wd → Prop
  | i, [] => cs.length ≤ skp cs i
  | i, x :: ws => skp cs i < cs.length ∧ ∃ j, wrdA cs (skp cs i) = some (x, j) ∧ Run cs j ws
theorem run_of_wds {cs : List Nat} : ∀ (n i : Nat) (acc l : List Wd), cs.length - i = n → wdsA cs i acc = (l, none) → ∃ ws, l = acc ++ ws ∧ Run cs i ws := by
  intro n
  induction n using Nat.strongRecOn with
  | ind n ih =>
    intro i acc l hn h
    rcases Nat.lt_or_ge (skp cs i) cs.length with hs | hs
    · cases hw : wrdA cs (skp cs i) with
      | none => rw [wdsA_bad hs hw] at h; injection h with _ h; cases h
      | some p =>
        obtain ⟨x, j⟩ := p
        rw [wdsA_step hs hw] at h
        have h2 := wrdA_gt hw
        have h3 := (skp_facts _ i rfl (cs := cs)).1
        obtain ⟨ws, e1, e2⟩ := ih (cs.length - j) (by omega) j _ _ rfl h
        exact ⟨x :: ws, by rw [e1]; simp, hs, j, hw, e2⟩
    · rw [wdsA_end hs] at h
      injection h with h _
      exact ⟨[], by rw [h]; simp, hs⟩
theorem wds_of_run {cs : List Nat} : ∀ (ws : List Wd) (i : Nat) (acc : List Wd), Run cs i ws → wdsA cs i acc = (acc ++ ws, none) := by
  intro ws
  induction ws with
  | nil => intro i acc h; rw [wdsA_end h]; simp
  | cons x ws ih =>
    intro i acc h
    obtain ⟨hs, j, hw, hr⟩ := h
    rw [wdsA_step hs hw, ih j _ hr]
    simp
/-- Words that stand further behind, all of them. -/
def Shl (m : Nat) : List Wd → List Wd → Prop
  | [], [] => True
  | x :: xs, y :: ys => Shd m x y ∧ Shl m xs ys
  | _, _ => False
theorem run_shift {cs ds : List Nat} : ∀ (ws : List Wd) (i m : Nat), Al cs i ds (i + m) → Run cs i ws → ∃ vs, Run ds (i + m) vs ∧ Shl m ws vs := by
  intro ws
  induction ws with
  | nil =>
    intro i m h hr
    have hl := h.len
    have hi := h.2.1
    have hk := h.2.2
    have hs := (Al.sk _ i m rfl h).1
    refine ⟨[], ?_, trivial⟩
    show ds.length ≤ skp ds (i + m)
    have hr' : cs.length ≤ skp cs i := hr
    omega
  | cons x ws ih =>
    intro i m h hr
    obtain ⟨hs, j, hw, hr⟩ := hr
    have hl := h.len
    have hi := h.2.1
    have hk := h.2.2
    have hsk := (Al.sk _ i m rfl h).1
    have hge := (skp_facts _ i rfl (cs := cs)).1
    have ha : Al cs (skp cs i) ds (skp cs i + m) := by
      have := h.add (n := skp cs i - i) (by omega)
      rw [show i + (skp cs i - i) = skp cs i by omega, show i + m + (skp cs i - i) = skp cs i + m by omega] at this
      exact this
    obtain ⟨y, h1, h2, _, h4⟩ := ha.wrd hs hw
    have hgt := wrdA_gt hw
    have hb : Al cs j ds (j + m) := by
      have := ha.add (n := j - skp cs i) (by omega)
      rw [show skp cs i + (j - skp cs i) = j by omega, show skp cs i + m + (j - skp cs i) = j + m by omega] at this
      exact this
    obtain ⟨vs, h5, h6⟩ := ih j m hb hr
    exact ⟨y :: vs, ⟨by omega, j + m, by rw [hsk]; exact h1, h5⟩, h2, h6⟩

/-- Two texts that are alike up to a place, where the second goes on with a blank. -/
structure Pre (cs ds : List Nat) (c : Nat) : Prop where
  le : c ≤ cs.length
  lt : c < ds.length
  eq : ∀ j, j < c → limb cs j = limb ds j
  bl : limb ds c = 32
theorem Pre.tl {cs ds : List Nat} {c : Nat} (h : Pre cs ds c) {p : Nat → Bool} {i : Nat} (_hi : i ≤ til p cs i) (hj : til p cs i ≤ c) (hp : til p cs i < c ∨ p 32 = true) : til p ds i = til p cs i := by
  have hl := h.le
  have hl2 := h.lt
  refine til_is _ i _ rfl til_ge' (by omega) (fun j h1 h2 => ?_) (fun h1 => ?_)
  · rw [← h.eq j (by omega)]
    exact til_no h1 h2
  · rcases Nat.lt_or_eq_of_le hj with h2 | h2
    · rw [← h.eq _ h2]
      exact til_at (by omega)
    · rw [h2, h.bl]
      rcases hp with hp | hp
      · omega
      · exact hp
theorem Pre.cut {cs ds : List Nat} {c : Nat} (h : Pre cs ds c) {i j : Nat} (hj : j ≤ c) : cutN ds i j = cutN cs i j := by
  have hl := h.le
  have hl2 := h.lt
  rcases Nat.lt_or_ge i j with hij | hij
  · apply List.ext_getElem
    · rw [cutN_len (by omega) (by omega), cutN_len (by omega) (by omega)]
    · intro n h1 h2
      rw [cutN_len (by omega) (by omega)] at h1 h2
      rw [← limb_lt, ← limb_lt, cutN_limb h1, cutN_limb h1, h.eq _ (by omega)]
  · unfold cutN
    rw [show j - i = 0 by omega]
    simp
theorem mText_no32 : ∀ k : Fin 12, 0 < (mText k.val).length ∧ (mText k.val).all (fun x => decide (x ≠ 32)) = true := by decide
theorem Pre.pfx_back {cs ds : List Nat} {c i : Nat} (h : Pre cs ds c) (hi : i ≤ c) {t : List Nat} (h0 : 0 < t.length) (ht : t.all (fun x => decide (x ≠ 32)) = true) (hp : pfx t ds i = true) : i + t.length ≤ c ∧ pfx t cs i = true := by
  have hl := h.le
  rcases pfx_iff.1 hp with ⟨h1, h2⟩ | h1
  · have hle : i + t.length ≤ c := by
      apply Classical.byContradiction
      intro hno
      have h3 := h2 (c - i) (by omega)
      rw [show i + (c - i) = c by omega, h.bl] at h3
      have h4 := List.all_eq_true.1 ht _ (List.getElem_mem (show c - i < t.length by omega))
      rw [limb_lt (by omega)] at h3
      simp at h4
      exact h4 h3.symm
    exact ⟨hle, pfx_iff.2 (.inl ⟨by omega, fun j hj => by rw [h.eq _ (by omega)]; exact h2 j hj⟩)⟩
  · rw [h1] at h0; simp at h0
theorem Pre.pfx_on {cs ds : List Nat} {c i : Nat} (h : Pre cs ds c) {t : List Nat} (h0 : 0 < t.length) (hp : pfx t cs i = true) (hle : i + t.length ≤ c) : pfx t ds i = true := by
  have hl := h.lt
  rcases pfx_iff.1 hp with ⟨h1, h2⟩ | h1
  · exact pfx_iff.2 (.inl ⟨by omega, fun j hj => by rw [← h.eq _ (by omega)]; exact h2 j hj⟩)
  · rw [h1] at h0; simp at h0
theorem Pre.mark_some {cs ds : List Nat} {c i k : Nat} (h : Pre cs ds c) (hm : markA cs i = some k) (hle : i + (mText k).length ≤ c) : markA ds i = some k := by
  have hk := markA_lt hm
  unfold markA at hm
  rw [List.find?_range_eq_some] at hm
  obtain ⟨h1, _, h3⟩ := hm
  refine markA_hit hk (h.pfx_on (mText_no32 ⟨k, hk⟩).1 h1 hle) fun j hj => ?_
  have h4 := h3 j hj
  cases hp : pfx (mText j) ds i with
  | false => rfl
  | true =>
    have hf := mText_no32 ⟨j, by omega⟩
    have := (h.pfx_back (by omega) hf.1 hf.2 hp).2
    simp only at this
    rw [this] at h4
    simp at h4
theorem Pre.mark_none {cs ds : List Nat} {c i : Nat} (h : Pre cs ds c) (hi : i ≤ c) (hm : markA cs i = none) : markA ds i = none := by
  unfold markA at hm
  rw [List.find?_range_eq_none] at hm
  refine markA_none fun j hj => ?_
  have h4 := hm j hj
  cases hp : pfx (mText j) ds i with
  | false => rfl
  | true =>
    have hf := mText_no32 ⟨j, hj⟩
    have := (h.pfx_back hi hf.1 hf.2 hp).2
    simp only at this
    rw [this] at h4
    simp at h4
theorem Pre.num {cs ds : List Nat} {c i x j : Nat} (h : Pre cs ds c) (hn : numA cs i = some (x, j)) (hj : j ≤ c) : numA ds i = some (x, j) := by
  have hl := h.lt
  unfold numA at hn ⊢
  have hg := @til_ge' semN cs i
  split at hn
  · rename_i ha
    split at hn
    · cases hn
    · rename_i hb
      have hn' := hn
      rw [Option.map_eq_some_iff] at hn'
      obtain ⟨y, _, e⟩ := hn'
      injection e with e1 e2
      have ht : til semN ds i = til semN cs i := h.tl hg (by omega) (.inl (by omega))
      rw [ht, if_pos (by omega), if_neg hb, h.cut (by omega)]
      exact hn
  · cases hn
theorem Pre.esc {cs ds : List Nat} {c i x j : Nat} (h : Pre cs ds c) (hn : escA cs i = some (x, j)) (hj : j ≤ c) : escA ds i = some (x, j) := by
  have hg := escA_gt hn
  have hl := h.lt
  unfold escA at hn ⊢
  rw [if_pos (by omega)] at hn ⊢
  rw [← h.eq i (by omega)]
  by_cases a1 : limb cs i = 110
  · rw [if_pos a1] at hn ⊢; exact hn
  rw [if_neg a1] at hn ⊢
  by_cases a2 : limb cs i = 116
  · rw [if_pos a2] at hn ⊢; exact hn
  rw [if_neg a2] at hn ⊢
  by_cases a3 : limb cs i = 114
  · rw [if_pos a3] at hn ⊢; exact hn
  rw [if_neg a3] at hn ⊢
  by_cases a4 : limb cs i = 92 ∨ limb cs i = 34
  · rw [if_pos a4] at hn ⊢; exact hn
  rw [if_neg a4] at hn ⊢
  by_cases a5 : limb cs i = 120
  · rw [if_pos a5] at hn ⊢; exact h.num hn hj
  · rw [if_neg a5] at hn; cases hn
theorem Pre.nx {cs ds : List Nat} {c i x j : Nat} (h : Pre cs ds c) (hi : i < c) (hn : nxA cs i = some (x, j)) (hj : j ≤ c) : nxA ds i = some (x, j) := by
  unfold nxA at hn ⊢
  rw [← h.eq i hi]
  by_cases a1 : limb cs i = 92
  · rw [if_pos a1] at hn ⊢; exact h.esc hn hj
  · rw [if_neg a1] at hn ⊢; exact hn
theorem Pre.quo {cs ds : List Nat} {c : Nat} (h : Pre cs ds c) : ∀ (m i : Nat) (acc l : List Nat) (j : Nat), cs.length - i = m → quoA cs i acc = some (l, j) → j ≤ c → quoA ds i acc = some (l, j) := by
  intro m
  induction m using Nat.strongRecOn with
  | ind m ih =>
    intro i acc l j hm hn hj
    have hg := quoA_gt _ _ _ _ _ rfl hn
    have hi : i < cs.length := by omega
    have hl := h.lt
    have he := h.eq i (by omega)
    by_cases h1 : limb cs i = 34
    · rw [quoA_quote hi h1] at hn
      rw [quoA_quote (by omega) (by rw [← he]; exact h1)]
      exact hn
    · have h1' : ¬ limb ds i = 34 := by rw [← he]; exact h1
      cases h2 : nxA cs i with
      | none => rw [quoA_bad hi h1 h2] at hn; cases hn
      | some p =>
        obtain ⟨x, q⟩ := p
        have hq := nxA_gt hi h2
        by_cases h3 : acc.length = 4096
        · rw [quoA_long hi h1 h2 h3] at hn; cases hn
        · rw [quoA_step hi h1 h2 h3] at hn
          have hg2 := quoA_gt _ _ _ _ _ rfl hn
          rw [quoA_step (by omega) h1' (h.nx (by omega) h2 (by omega)) h3]
          exact ih (cs.length - q) (by omega) q _ _ _ rfl hn hj
theorem Pre.chr {cs ds : List Nat} {c i x j : Nat} (h : Pre cs ds c) (hn : chrA cs i = some (x, j)) (hj : j ≤ c) : chrA ds i = some (x, j) := by
  have hg := chrA_gt hn
  have hl := h.lt
  rw [chrA_at (by omega)] at hn ⊢
  have hn' := hn
  rw [Option.map_eq_some_iff] at hn'
  obtain ⟨y, _, e⟩ := hn'
  injection e with e1 e2
  have ht : til enN ds (i + 1) = til enN cs (i + 1) := h.tl til_ge' (by omega) (.inr (by decide))
  rw [ht, h.cut (by omega)]
  exact hn
/-- A word that ends before the blank is one there, too. -/
theorem Pre.wrd {cs ds : List Nat} {c i j : Nat} {x : Wd} (h : Pre cs ds c) (hn : wrdA cs i = some (x, j)) (hj : j ≤ c) : wrdA ds i = some (x, j) := by
  have hg := wrdA_gt hn
  have he := h.eq i (by omega)
  have hle := h.le
  cases hm : markA cs i with
  | some k =>
    rw [wrdA_mark hm] at hn
    have hn' := hn
    injection hn' with hn'; injection hn' with e1 e2
    rw [wrdA_mark (h.mark_some hm (by omega))]
    exact hn
  | none =>
    have hm2 := h.mark_none (by omega) hm
    by_cases h1 : limb cs i = 34
    · rw [wrdA_quo hm h1] at hn
      rw [wrdA_quo hm2 (by rw [← he]; exact h1)]
      unfold quoW at hn ⊢
      rw [Option.map_eq_some_iff] at hn ⊢
      obtain ⟨⟨l, q⟩, hq, hn⟩ := hn
      have hn' := hn
      injection hn' with e1 e2
      simp only at e2
      exact ⟨(l, q), h.quo _ _ _ _ _ rfl hq (by omega), hn⟩
    · have h1' : ¬ limb ds i = 34 := by rw [← he]; exact h1
      cases h2 : pfx [35, 92] cs i with
      | true =>
        rw [wrdA_chr hm h1 h2] at hn
        unfold chrW at hn
        rw [Option.map_eq_some_iff] at hn
        obtain ⟨⟨y, q⟩, hq, hn⟩ := hn
        have hn' := hn
        injection hn' with e1 e2
        simp only at e2
        have hq2 := chrA_gt hq
        rw [wrdA_chr hm2 h1' (h.pfx_on (by decide) h2 (by simp; omega))]
        unfold chrW
        rw [Option.map_eq_some_iff]
        exact ⟨(y, q), h.chr hq (by omega), hn⟩
      | false =>
        have h2' : pfx [35, 92] ds i = false := by
          cases hp : pfx [35, 92] ds i with
          | false => rfl
          | true => rw [(h.pfx_back (by omega) (by decide) (by decide) hp).2] at h2; cases h2
        rw [wrdA_atm hm h1 h2] at hn
        rw [wrdA_atm hm2 h1' h2']
        have hjt : j = til enN cs i := by
          unfold atmW at hn
          split at hn
          · injection hn with hn; injection hn with _ e; exact e.symm
          · rw [Option.map_eq_some_iff] at hn
            obtain ⟨d, _, hn⟩ := hn
            injection hn with _ e; exact e.symm
        have ht : til enN ds i = til enN cs i := h.tl til_ge' (by omega) (.inr (by decide))
        unfold atmW at hn ⊢
        rw [ht, h.cut (by omega)]
        exact hn
/-- What stands between words, up to the blank. -/
theorem Pre.sk {cs ds : List Nat} {c : Nat} (h : Pre cs ds c) (hc : c < cs.length) (h59 : limb cs c ≠ 59) (hbl : blN (limb cs c) = false) : ∀ (n i : Nat), c - i = n → i ≤ c → skp cs i ≤ c → skp ds i = if skp cs i < c then skp cs i else skp ds c := by
  intro n
  induction n using Nat.strongRecOn with
  | ind n ih =>
    intro i hn hi hle
    have hl := h.lt
    rcases Nat.lt_or_eq_of_le hi with hlt | rfl
    · have he := h.eq i hlt
      by_cases h1 : limb cs i = 59
      · rw [skp_semi (by omega) h1] at hle ⊢
        have hg := (skp_facts _ (til nlN cs (i + 1)) rfl (cs := cs)).1
        have hg2 := @til_ge' nlN cs (i + 1)
        have hne : til nlN cs (i + 1) ≠ c := by
          intro e
          have := til_at (p := nlN) (cs := cs) (i := i + 1) (by omega)
          rw [e] at this
          have h10 : limb cs c = 10 := by unfold nlN at this; simpa using this
          rw [h10] at hbl
          exact absurd hbl (by decide)
        have ht : til nlN ds (i + 1) = til nlN cs (i + 1) := h.tl hg2 (by omega) (.inl (by omega))
        rw [skp_semi (cs := ds) (by omega) (by rw [← he]; exact h1), ht]
        exact ih (c - til nlN cs (i + 1)) (by omega) _ rfl (by omega) hle
      · cases h2 : blN (limb cs i) with
        | true =>
          rw [skp_blank (by omega) h1 h2] at hle ⊢
          rw [skp_blank (cs := ds) (by omega) (by rw [← he]; exact h1) (by rw [← he]; exact h2)]
          exact ih (c - (i + 1)) (by omega) _ rfl (by omega) hle
        | false =>
          rw [skp_stop (by omega) h1 h2, if_pos hlt]
          exact skp_stop (by omega) (by rw [← he]; exact h1) (by rw [← he]; exact h2)
    · rw [skp_stop hc h59 hbl, if_neg (by omega)]
theorem wrdA_pl {cs : List Nat} {i j : Nat} {x : Wd} (hi : i < cs.length) (h : wrdA cs i = some (x, j)) : x.pl = i ∧ j ≤ cs.length := by
  obtain ⟨_, _, _, h1, h2⟩ := (show Al cs i cs (i + 0) from ⟨rfl, by omega, by omega⟩).wrd hi h
  exact ⟨h1, h2⟩
theorem run_ge {cs : List Nat} : ∀ (ws : List Wd) (i : Nat), Run cs i ws → ∀ x ∈ ws, skp cs i ≤ x.pl ∧ x.pl < cs.length ∧ limb cs x.pl ≠ 59 ∧ blN (limb cs x.pl) = false := by
  intro ws
  induction ws with
  | nil => intro i _ x hx; cases hx
  | cons y ws ih =>
    intro i h x hx
    obtain ⟨hs, j, hw, hr⟩ := h
    obtain ⟨hp, _⟩ := wrdA_pl hs hw
    rcases List.mem_cons.1 hx with rfl | hx
    · rw [hp]
      have := (skp_facts _ i rfl (cs := cs)).2.2 hs
      exact ⟨Nat.le_refl _, hs, this⟩
    · obtain ⟨h1, h2⟩ := ih j hr x hx
      have h3 := wrdA_gt hw
      have h4 := (skp_facts _ j rfl (cs := cs)).1
      exact ⟨by omega, h2⟩
/-- Words behind a place stand further behind, those before it where they were. -/
def Shc (c m : Nat) (x y : Wd) : Prop := y.kind = x.kind ∧ y.txt = x.txt ∧ y.d = x.d ∧ y.pl = x.pl + if c ≤ x.pl then m else 0
def Shk (c m : Nat) : List Wd → List Wd → Prop
  | [], [] => True
  | x :: xs, y :: ys => Shc c m x y ∧ Shk c m xs ys
  | _, _ => False
theorem shk_of_shl {c m : Nat} : ∀ (xs ys : List Wd), (∀ x ∈ xs, c ≤ x.pl) → Shl m xs ys → Shk c m xs ys
  | [], [], _, _ => trivial
  | [], _ :: _, _, h => by cases h
  | _ :: _, [], _, h => by cases h
  | x :: xs, y :: ys, hx, h => ⟨⟨h.1.1, h.1.2.1, h.1.2.2.1, by rw [h.1.2.2.2, if_pos (hx x (by simp))]⟩, shk_of_shl xs ys (fun z hz => hx z (by simp [hz])) h.2⟩
theorem shk_len {c m : Nat} : ∀ (xs ys : List Wd), Shk c m xs ys → ys.length = xs.length
  | [], [], _ => rfl
  | [], _ :: _, h => by cases h
  | _ :: _, [], h => by cases h
  | _ :: xs, _ :: ys, h => by simp [shk_len xs ys h.2]
theorem shk_at {c m : Nat} : ∀ (xs ys : List Wd), Shk c m xs ys → ∀ (k : Nat) (x y : Wd), xs[k]? = some x → ys[k]? = some y → Shc c m x y
  | [], [], _, k, x, y, hx, _ => by simp at hx
  | [], _ :: _, h, _, _, _, _, _ => by cases h
  | _ :: _, [], h, _, _, _, _, _ => by cases h
  | a :: xs, b :: ys, h, 0, x, y, hx, hy => by simp at hx hy; subst hx; subst hy; exact h.1
  | a :: xs, b :: ys, h, k + 1, x, y, hx, hy => shk_at xs ys h.2 k x y (by simpa using hx) (by simpa using hy)
theorem run_cut {cs ds : List Nat} {c m : Nat} (h : Pre cs ds c) (ha : Al cs c ds (c + m)) (hsk : skp ds c = c + m) : ∀ (ws : List Wd) (i : Nat), i ≤ c → Run cs i ws → (∃ x ∈ ws, x.pl = c) → ∃ vs, Run ds i vs ∧ Shk c m ws vs := by
  intro ws
  induction ws with
  | nil => rintro i _ _ ⟨x, hx, _⟩; cases hx
  | cons x ws ih =>
    intro i hi hr hx
    have hr0 := hr
    have hge := run_ge _ i hr
    obtain ⟨z, hz, hzc⟩ := hx
    obtain ⟨g1, g2, g3, g4⟩ := hge z hz
    rw [hzc] at g1 g2 g3 g4
    have hp := h.sk g2 g3 g4 _ i rfl hi g1
    rcases Nat.lt_or_eq_of_le g1 with hlt | heq
    · obtain ⟨hs, j, hw, hr⟩ := hr
      rw [if_pos hlt] at hp
      obtain ⟨e1, _⟩ := wrdA_pl hs hw
      have hz2 : z ∈ ws := by
        rcases List.mem_cons.1 hz with rfl | hz
        · omega
        · exact hz
      have hj := (run_ge _ j hr z hz2).1
      have hj2 := (skp_facts _ j rfl (cs := cs)).1
      have hw2 := h.wrd hw (by omega)
      obtain ⟨vs, h1, h2⟩ := ih j (by omega) hr ⟨z, hz2, hzc⟩
      refine ⟨x :: vs, ⟨by rw [hp]; have := h.lt; omega, j, by rw [hp]; exact hw2, h1⟩, ⟨rfl, rfl, rfl, by rw [if_neg (by omega)]; rfl⟩, h2⟩
    · rw [if_neg (by omega), hsk] at hp
      have hsc : skp cs c = c := skp_stop g2 g3 g4
      have hrc : Run cs c (x :: ws) := by
        obtain ⟨hs, j, hw, hr⟩ := hr
        exact ⟨by rw [hsc]; exact g2, j, by rw [hsc, ← heq]; exact hw, hr⟩
      obtain ⟨vs, h1, h2⟩ := run_shift (x :: ws) c m ha hrc
      have hge2 : ∀ y ∈ x :: ws, c ≤ y.pl := fun y hy => by have := (run_ge _ c hrc y hy).1; omega
      refine ⟨vs, ?_, shk_of_shl _ _ hge2 h2⟩
      have hkk : skp ds (c + m) = c + m := by rw [(Al.sk _ c m rfl ha).1, hsc]
      cases vs with
      | nil =>
        show ds.length ≤ skp ds i
        have h1' : ds.length ≤ skp ds (c + m) := h1
        omega
      | cons v vs =>
        obtain ⟨hs, j, hw, hr⟩ := h1
        rw [hkk] at hs hw
        exact ⟨by rw [hp]; exact hs, j, by rw [hp]; exact hw, hr⟩
/-- What is put between two words. -/
def mored (cm : List Nat) : List Nat := 32 :: 59 :: (cm ++ [10, 9])
theorem mored_len (cm : List Nat) : (mored cm).length = cm.length + 4 := by simp [mored]
theorem scan_blanks {cs cm : List Nat} {ws : List Wd} {k : Nat} {x : Wd} (hno : ∀ a ∈ cm, a ≠ 10) (hw : scanW cs = (ws, 0, 0)) (hk : ws[k]? = some x) :
    ∃ vs, scanW (cs.take x.pl ++ mored cm ++ cs.drop x.pl) = (vs, 0, 0) ∧ Shk x.pl (mored cm).length ws vs ∧ x.pl < cs.length := by
  have hwd : wdsA cs 0 [] = (ws, none) := by
    unfold scanW at hw
    generalize wdsA cs 0 [] = p at *
    obtain ⟨a, b⟩ := p
    cases b with
    | none => simp at hw; rw [hw]
    | some q => simp at hw
  obtain ⟨ws', e, hr⟩ := run_of_wds _ 0 [] ws rfl hwd
  rw [List.nil_append] at e
  subst e
  have hmem : x ∈ ws := List.mem_of_getElem? hk
  obtain ⟨_, g2, g3, g4⟩ := run_ge _ 0 hr x hmem
  generalize hc : x.pl = c at *
  obtain ⟨ds, hds⟩ : ∃ ds, ds = cs.take c ++ mored cm ++ cs.drop c := ⟨_, rfl⟩
  rw [← hds]
  have htk : (cs.take c).length = c := by rw [List.length_take]; omega
  have hlen : ds.length = cs.length + (mored cm).length := by
    rw [hds]
    simp only [List.length_append, List.length_take, List.length_drop]
    omega
  have hdc : ds.drop c = mored cm ++ cs.drop c := by
    rw [hds, List.append_assoc]
    exact List.drop_left' htk
  have hlie : Lies (mored cm) ds c := ⟨_, hdc⟩
  have hml := mored_len cm
  have hdm : ds.drop (c + (mored cm).length) = cs.drop c := by rw [← List.drop_drop, hdc, List.drop_left]
  have ha : Al cs c ds (c + (mored cm).length) := ⟨hdm.symm, by omega, by omega⟩
  have hpre : Pre cs ds c := by
    refine ⟨by omega, by omega, fun j hj => ?_, hlie.at (j := 0) (by omega)⟩
    rw [hds, List.append_assoc]
    unfold limb
    rw [List.getD_eq_getElem?_getD, List.getD_eq_getElem?_getD, List.getElem?_append_left (by omega), List.getElem?_take, if_pos hj]
  have hsk : skp ds c = c + (mored cm).length := by
    have l0 : limb ds c = 32 := hpre.bl
    have l1 : limb ds (c + 1) = 59 := hlie.at (j := 1) (by omega)
    have hl2 : Lies (cm ++ [10]) ds (c + 2) := ⟨9 :: cs.drop c, by rw [← List.drop_drop, hdc]; simp [mored]⟩
    have ht := til_lies (p := nlN) hl2 (by decide) (List.all_eq_true.2 fun a ha => by have := hno a ha; unfold nlN; simpa using this)
    have l2 : limb ds (c + 2 + cm.length) = 10 := by
      have e := hl2.at (j := cm.length) (by simp)
      rw [e]
      unfold limb
      rw [List.getD_eq_getElem?_getD, List.getElem?_append_right (Nat.le_refl _)]
      simp
    have l3 : limb ds (c + 2 + cm.length + 1) = 9 := by
      have hl3 : Lies ((cm ++ [10]) ++ [9]) ds (c + 2) := ⟨cs.drop c, by rw [← List.drop_drop, hdc]; simp [mored]⟩
      have := hl3.tail.at (j := 0) (by simp)
      simp only [List.length_append, List.length_singleton] at this
      rw [show c + 2 + cm.length + 1 = c + 2 + (cm.length + 1) + 0 by omega, this]
      rfl
    have l4 := ha.lim0
    rw [skp_blank (by omega) (by rw [l0]; decide) (by rw [l0]; decide), skp_semi (by omega) l1, ht, skp_blank (by omega) (by rw [l2]; decide) (by rw [l2]; decide), skp_blank (by omega) (by rw [l3]; decide) (by rw [l3]; decide)]
    rw [show c + 2 + cm.length + 1 + 1 = c + (mored cm).length by omega]
    exact skp_stop (by omega) (by rw [← l4]; exact g3) (by rw [← l4]; exact g4)
  obtain ⟨vs, h1, h2⟩ := run_cut hpre ha hsk ws 0 (Nat.zero_le _) hr ⟨x, hmem, hc⟩
  refine ⟨vs, ?_, h2, g2⟩
  unfold scanW
  rw [wds_of_run vs 0 [] h1]
  rfl
end Go.Proofs.YtkocmjmmflphnaaDoor
