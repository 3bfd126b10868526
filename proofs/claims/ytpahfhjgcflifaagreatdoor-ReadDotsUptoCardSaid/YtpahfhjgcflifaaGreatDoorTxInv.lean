/- What is read is sound, and may be read again. No walk here. | What is read of a text that was written, and of lists within lists. -/
import Derived.Test.YtpahfhjgcflifaaGreatDoorRdRead
import Derived.Test.YtpahfhjgcflifaaGreatDoorTx
namespace Go.Proofs.YtpahfhjgcflifaaGreatDoor
open Go.RowKit

theorem okD_mono : ∀ (f g : Nat) (d : Dm), f ≤ g → okD f d = true → okD g d = true := by
  intro f
  induction f with
  | zero => intro g d _ h; rw [okD_zero] at h; cases h
  | succ f ih =>
    intro g d hfg h
    obtain ⟨k, t, n, r, l, a⟩ := d
    obtain ⟨g, rfl⟩ : ∃ g', g = g' + 1 := ⟨g - 1, by omega⟩
    by_cases hk : k = 1 ∨ k = 2 ∨ k = 3
    · obtain ⟨f', hf, rfl, rfl, rfl, he, hall⟩ := okD_parts h hk
      obtain rfl : f = f' := by omega
      rw [okD_node hk, he]
      simp only [decide_true, blankA, Bool.not_false, List.length_nil, Bool.and_self, Bool.true_and]
      exact all_upto fun j hj => ih g _ (by omega) (hall j hj)
    · by_cases h7 : k = 7
      · subst h7
        rw [okD_int] at h ⊢
        exact h
      · rw [okD_leaf hk h7] at h ⊢
        exact h
/-- A word whose datum may be, alone. -/
def WSnd (x : Wd) : Prop := (x.kind = 7 → okD 1 (leafD x) = true ∧ plainA (leafD x) = true ∧ ¬ ((x.d.k : Int) = 1 ∨ (x.d.k : Int) = 2 ∨ (x.d.k : Int) = 3)) ∧ (x.kind = 6 → symbA x.txt = true)
theorem plain_leaf {k : Int} {t : List Nat} {n : Bool} {r : List Nat} {a : Int} (h1 : k ≠ 10) (h2 : k ≠ 11) : plainA (.mk k t n r [] a) = true := plain_of h1 h2 fun j hj => by simp at hj
theorem okD_any {f : Nat} {k : Int} {t : List Nat} {n : Bool} {r : List Nat} {a : Int} (h : okD 1 (.mk k t n r [] a) = true) (hf : 1 ≤ f) : okD f (.mk k t n r [] a) = true := okD_mono 1 f _ hf h
theorem okD_sym {t : List Nat} {a : Int} (h : symbA t = true) : okD 1 (.mk 4 t false [] [] a) = true := by
  rw [okD_leaf (by omega) (by omega)]
  unfold wrtA
  rw [if_pos rfl, h]
  rfl
theorem symbA_of {t : List Nat} (hby : By t) (h : symA t = true) : symbA t = true := by
  unfold symbA
  rw [atmA_symb hby h]
  rfl
theorem mark_names : ∀ k : Fin 12, mKind k.val = 6 → (mName k.val).all (fun x => decide ((97 ≤ x ∧ x ≤ 122) ∨ x = 45)) = true ∧ 0 < (mName k.val).length ∧ (mName k.val).length ≤ 64 ∧ 97 ≤ limb (mName k.val) 0 := by decide
theorem symA_name {u : List Nat} (h : u.all (fun x => decide ((97 ≤ x ∧ x ≤ 122) ∨ x = 45)) = true) (h0 : 0 < u.length) (h64 : u.length ≤ 64) (hf : 97 ≤ limb u 0) : symA u = true := by
  have hm : ∀ x ∈ u, (97 ≤ x ∧ x ≤ 122) ∨ x = 45 := fun x hx => by simpa using List.all_eq_true.1 h x hx
  have hlow : encL u = u := encL_low fun c hc => by have := hm c hc; omega
  have hch : chars u 0 = (u, none) := by
    have := chars_enc u fun c hc => by have := hm c hc; unfold scN; omega
    rwa [hlow] at this
  refine symA_yes ?_ ?_ h64 (by omega) ?_ (by rw [hch]) ?_
  · intro e; rw [e] at h0; cases h0
  · intro e
    rw [e] at hf
    exact absurd hf (by decide)
  · unfold numeA digN sgnN
    simp
    omega
  · rw [hch, List.any_eq_false]
    intro c hc
    have := hm c hc
    unfold enN enB
    simp
    omega
theorem markA_lt' {cs : List Nat} {i k : Nat} (h : markA cs i = some k) : k < 12 := by
  unfold markA at h
  exact List.mem_range.1 (List.mem_of_find?_eq_some h)
theorem lenA_enc {l : List Nat} (h : ∀ c ∈ l, ScQ c) (h2 : l.length ≤ 4096) : lenA (encL l) = some l.length := by
  have hc : chars (encL l) 0 = (l, none) := chars_enc l h
  have := encL_len l
  unfold lenA
  rw [if_neg (by omega), hc]
  simp
theorem atm_snd {bs : List Nat} {d : Dt} (h : atmA bs = some d) (i : Nat) : WSnd (leafW d i) := by
  refine ⟨fun _ => ?_, fun h6 => (by cases h6)⟩
  show okD 1 (.mk (d.k : Nat) d.t d.n d.r [] (i : Nat)) = true ∧ plainA (.mk (d.k : Nat) d.t d.n d.r [] (i : Nat)) = true ∧ _
  have h0 := h
  unfold atmA at h
  have tf : ∀ k : Nat, k = 8 ∨ k = 9 → okD 1 (.mk (k : Nat) [] false [] [] (i : Nat)) = true ∧ plainA (.mk (k : Nat) [] false [] [] (i : Nat)) = true ∧ ¬ ((k : Int) = 1 ∨ (k : Int) = 2 ∨ (k : Int) = 3) := by
    intro k hk
    refine ⟨?_, plain_leaf (by omega) (by omega), by omega⟩
    rw [okD_leaf (by omega) (by omega)]
    unfold wrtA
    rw [if_neg (by omega), if_neg (by omega), if_neg (by omega), if_pos (by omega)]
    rfl
  split at h
  · injection h with h; subst h; exact tf 8 (.inl rfl)
  · split at h
    · injection h with h; subst h; exact tf 9 (.inr rfl)
    · split at h
      · rename_i hp
        injection h with h; subst h
        have hs : Snd (parA (mkB bs)).1 (parA (mkB bs)).2.1 := by
          by_cases hx : ∃ x, ParR (mkB bs) x
          · have e : parA (mkB bs) = hx.choose := by unfold parA; rw [dif_pos hx]
            have h2 := hx.choose_spec
            rw [← e] at h2
            rcases h2 with ⟨_, _, hs, _⟩ | ⟨h0, _⟩
            · exact hs
            · rw [h0] at hp; cases hp
          · have e : parA (mkB bs) = (false, [], false) := by unfold parA; rw [dif_neg hx]
            rw [e] at hp; cases hp
        refine ⟨?_, plain_leaf (by show (7 : Int) ≠ 10; decide) (by show (7 : Int) ≠ 11; decide), by show ¬ ((7 : Int) = 1 ∨ (7 : Int) = 2 ∨ (7 : Int) = 3); decide⟩
        show okD 1 (.mk 7 [] _ _ [] _) = true
        rw [okD_int, sndB_true hs]
        rfl
      · split at h
        · rename_i hs
          injection h with h; subst h
          have hs2 : symbA bs = true := by
            unfold symbA
            rw [h0]
            rfl
          exact ⟨okD_sym hs2, plain_leaf (by show (4 : Int) ≠ 10; decide) (by show (4 : Int) ≠ 11; decide), by show ¬ ((4 : Int) = 1 ∨ (4 : Int) = 2 ∨ (4 : Int) = 3); decide⟩
        · cases h
theorem wrd_snd {cs : List Nat} {i j : Nat} {x : Wd} (hq : ∀ c ∈ cs, ScQ c) (h : wrdA cs i = some (x, j)) : WSnd x := by
  unfold wrdA at h
  cases hm : markA cs i with
  | some k =>
    rw [hm] at h
    injection h with h; injection h with h _; subst h
    refine ⟨fun h7 => ?_, fun h6 => ?_⟩
    · have : ∀ k : Fin 12, mKind k.val ≠ 7 := by decide
      exact absurd h7 (this ⟨k, markA_lt' hm⟩)
    · obtain ⟨a, b, c, d⟩ := mark_names ⟨k, markA_lt' hm⟩ h6
      exact symbA_of (by_of' (wOk_mark ⟨k, markA_lt' hm⟩).2.2) (symA_name a b c d)
  | none =>
    rw [hm] at h
    simp only at h
    split at h
    · rw [Option.map_eq_some_iff] at h
      obtain ⟨⟨l, j2⟩, h1, h2⟩ := h
      injection h2 with h2 _; subst h2
      obtain ⟨h3, h4⟩ := quoA_sc hq _ _ _ _ _ rfl (by simp) (fun x hx => by cases hx) h1
      refine ⟨fun _ => ⟨?_, plain_leaf (by show (5 : Int) ≠ 10; decide) (by show (5 : Int) ≠ 11; decide), by show ¬ ((5 : Int) = 1 ∨ (5 : Int) = 2 ∨ (5 : Int) = 3); decide⟩, fun h6 => (by cases h6)⟩
      show okD 1 (.mk 5 (encL l) false [] [] _) = true
      rw [okD_leaf (by omega) (by omega)]
      unfold wrtA
      rw [if_neg (by omega), if_pos rfl, lenA_enc h4 h3]
      simp [blankA, h3]
    · split at h
      · rw [Option.map_eq_some_iff] at h
        obtain ⟨⟨c, j2⟩, h1, h2⟩ := h
        injection h2 with h2 _; subst h2
        unfold chrA at h1
        split at h1
        · rw [Option.map_eq_some_iff] at h1
          obtain ⟨c2, h3, h4⟩ := h1
          injection h4 with h4 _; subst h4
          have hc := namedA_sc (encL_byQ (cutN_sc hq)) h3
          refine ⟨fun _ => ⟨?_, plain_leaf (by show (6 : Int) ≠ 10; decide) (by show (6 : Int) ≠ 11; decide), by show ¬ ((6 : Int) = 1 ∨ (6 : Int) = 2 ∨ (6 : Int) = 3); decide⟩, fun h6 => (by cases h6)⟩
          show okD 1 (.mk 6 (encN c2) false [] [] _) = true
          rw [okD_leaf (by omega) (by omega)]
          have he : lenA (encN c2) = some 1 := by
            have := lenA_enc (l := [c2]) (fun x hx => by rw [List.mem_singleton.1 hx]; exact hc) (by simp)
            simpa [encL] using this
          unfold wrtA
          rw [if_neg (by omega), if_neg (by omega), if_pos rfl, he]
          rfl
        · cases h1
      · split at h
        · injection h with h; injection h with h _; subst h
          exact ⟨fun h7 => absurd (show (4 : Nat) = 7 from h7) (by decide), fun h6 => absurd (show (4 : Nat) = 6 from h6) (by decide)⟩
        · rw [Option.map_eq_some_iff] at h
          obtain ⟨d, h1, h2⟩ := h
          injection h2 with h2 _; subst h2
          exact atm_snd h1 i
theorem wds_snd {cs : List Nat} (hq : ∀ c ∈ cs, ScQ c) : ∀ (n i : Nat) (acc : List Wd), cs.length - i = n → (∀ x ∈ acc, WSnd x ∧ x.kind ≠ 0) → ∀ x ∈ (wdsA cs i acc).1, WSnd x ∧ x.kind ≠ 0 := by
  intro n
  induction n using Nat.strongRecOn with
  | ind n ih =>
    intro i acc hn ha
    have hsk := (skp_facts _ i rfl (cs := cs)).1
    rcases Nat.lt_or_ge (skp cs i) cs.length with hl | hl
    · cases hw : wrdA cs (skp cs i) with
      | none =>
        rw [wdsA_bad hl hw]
        exact fun x hx => (by cases hx)
      | some p =>
        obtain ⟨x, j⟩ := p
        have hg := wrdA_gt hw
        rw [wdsA_step hl hw]
        exact ih (cs.length - j) (by omega) j (acc ++ [x]) rfl (fun y hy => by
          rcases List.mem_append.1 hy with hy | hy
          · exact ha y hy
          · rw [List.mem_singleton.1 hy]; exact ⟨wrd_snd hq hw, (wrdA_ok hq hw).k0⟩)
    · rw [wdsA_end hl]
      exact ha
theorem scanW_snd {cs : List Nat} (hq : ∀ c ∈ cs, ScQ c) : ∀ x ∈ (scanW cs).1, WSnd x ∧ x.kind ≠ 0 := by
  have h := wds_snd hq _ 0 [] rfl (fun x hx => by cases hx)
  unfold scanW
  generalize wdsA cs 0 [] = p at *
  obtain ⟨ws, o⟩ := p
  cases o with
  | none => exact h
  | some k => exact fun x hx => (by cases hx)

/-- What may stand in what is open. -/
def InvP : List Pt → Prop
  | [] => True
  | p :: ps => (∀ d ∈ p.l, okD (64 - deepA (p :: ps)) d = true ∧ plainA d = true) ∧ (p.w.kind = 6 → symbA p.w.txt = true) ∧ InvP ps
theorem deepA_up {p : Pt} {ps : List Pt} (h : p.w.kind ≠ 0 ∧ p.w.kind ≠ 5) : deepA (p :: ps) = deepA ps + 1 := by
  unfold deepA
  rw [List.countP_cons_of_pos (by simpa using h)]
theorem deepA_eq {p : Pt} {ps : List Pt} (h : ¬ (p.w.kind ≠ 0 ∧ p.w.kind ≠ 5)) : deepA (p :: ps) = deepA ps := by
  unfold deepA
  rw [List.countP_cons_of_neg (by simpa using h)]
theorem okD_pos {f : Nat} {d : Dm} (h : okD f d = true) : 1 ≤ f := by
  cases f with
  | zero => rw [okD_zero] at h; cases h
  | succ f => omega
theorem okD_list {f : Nat} {k : Int} {l : List Dm} {a : Int} (hk : k = 1 ∨ k = 2 ∨ k = 3) (he : endA k l = true) (h : ∀ d ∈ l, okD f d = true) : okD (f + 1) (.mk k [] false [] l a) = true := by
  rw [okD_node hk, he]
  simp only [decide_true, blankA, Bool.not_false, List.length_nil, Bool.and_self, Bool.true_and]
  exact List.all_eq_true.2 h
theorem plain_list {k : Int} {l : List Dm} {a : Int} (hk : k = 1 ∨ k = 2 ∨ k = 3) (h : ∀ d ∈ l, plainA d = true) : plainA (.mk k [] false [] l a) = true := plain_of (by omega) (by omega) fun _ _ => h _ (List.getElem_mem _)
theorem InvP.add : ∀ (ps : List Pt) (d : Dm), InvP ps → okD (64 - deepA ps) d = true → plainA d = true → InvP (addA ps d) := by
  intro ps
  induction ps with
  | nil => intro d _ _ _; exact trivial
  | cons p ps ih =>
    intro d h hd hp
    obtain ⟨h1, h2, h3⟩ := h
    by_cases h6 : p.w.kind = 6
    · rw [addA_abb h6]
      have hdp := deepA_up (p := p) (ps := ps) (by omega)
      rw [hdp] at hd
      have := okD_pos hd
      refine ih _ h3 ?_ ?_
      · rw [show 64 - deepA ps = (64 - (deepA ps + 1)) + 1 by omega]
        refine okD_list (.inl rfl) rfl fun x hx => ?_
        rcases List.mem_cons.1 hx with rfl | hx
        · exact okD_any (okD_sym (h2 h6)) this
        · rw [List.mem_singleton.1 hx]; exact hd
      · refine plain_list (.inl rfl) fun x hx => ?_
        rcases List.mem_cons.1 hx with rfl | hx
        · exact plain_leaf (by decide) (by decide)
        · rw [List.mem_singleton.1 hx]; exact hp
    · by_cases h5 : p.w.kind = 5
      · rw [addA_skip h5]; exact h3
      · rw [addA_put h6 h5]
        refine ⟨fun x hx => ?_, h2, h3⟩
        rw [deepA_set (q := p) (q' := { p with l := p.l ++ [d] }) rfl]
        rcases List.mem_append.1 hx with hx | hx
        · exact h1 x hx
        · rw [List.mem_singleton.1 hx]; exact ⟨hd, hp⟩
theorem endA_app {u l : List Dm} (h : endA 2 l = true) : endA 2 (u ++ l) = true := by
  unfold endA at h ⊢
  rw [if_pos rfl] at h ⊢
  cases hl : l.getLast? with
  | none => rw [hl] at h; cases h
  | some x =>
    rw [hl] at h
    have e : (u ++ l).getLast? = some x := by rw [List.getLast?_append, hl]; rfl
    rw [e]
    simp only [Bool.and_eq_true, decide_eq_true_iff] at h ⊢
    exact ⟨by rw [List.length_append]; omega, h.2⟩
theorem datA_inv {p : Pt} {f : Nat} (h : ∀ d ∈ p.l, okD f d = true ∧ plainA d = true) : okD (f + 1) (datA p) = true ∧ plainA (datA p) = true := by
  unfold datA
  split
  · exact ⟨okD_list (.inr (.inr rfl)) rfl fun d hd => (h d hd).1, plain_list (.inr (.inr rfl)) fun d hd => (h d hd).2⟩
  · split
    · rename_i h3 h0
      split
      · rename_i last hla
        have h1 : p.dot < p.l.length := (List.getElem?_eq_some_iff.1 hla).1
        have h2 : p.l[p.dot]'h1 = last := (List.getElem?_eq_some_iff.1 hla).2
        have hlm : last ∈ p.l := by rw [← h2]; exact List.getElem_mem h1
        have htk : ∀ d ∈ p.l.take p.dot, okD f d = true ∧ plainA d = true := fun d hd => h d (List.mem_of_mem_take hd)
        unfold joinA
        split
        · rename_i hk
          obtain ⟨k, t, n, r, l, a⟩ := last
          have hk' : k = 1 ∨ k = 2 := hk
          have hkk : k = 1 ∨ k = 2 ∨ k = 3 := by omega
          obtain ⟨f', hf, _, _, _, he, hall⟩ := okD_parts (h _ hlm).1 hkk
          have hpl := (plain_mk (h _ hlm).2).2.2
          refine ⟨okD_list hkk ?_ fun d hd => ?_, plain_list hkk fun d hd => ?_⟩
          · rcases hk' with rfl | rfl
            · rfl
            · exact endA_app he
          · rcases List.mem_append.1 hd with hd | hd
            · exact (htk d hd).1
            · obtain ⟨j, hj, rfl⟩ := List.mem_iff_getElem.1 hd
              exact okD_mono f' f _ (by omega) (hall j hj)
          · rcases List.mem_append.1 hd with hd | hd
            · exact (htk d hd).2
            · obtain ⟨j, hj, rfl⟩ := List.mem_iff_getElem.1 hd
              exact hpl j hj
        · rename_i hk
          have hall : ∀ d ∈ p.l.take p.dot ++ [last], okD f d = true ∧ plainA d = true := fun d hd => by
            rcases List.mem_append.1 hd with hd | hd
            · exact htk d hd
            · rw [List.mem_singleton.1 hd]; exact h _ hlm
          refine ⟨okD_list (.inr (.inl rfl)) ?_ fun d hd => (hall d hd).1, plain_list (.inr (.inl rfl)) fun d hd => (hall d hd).2⟩
          unfold endA
          rw [if_pos rfl, List.getLast?_append]
          simp only [List.getLast?_singleton, Option.some_or, List.length_append, List.length_take, List.length_singleton, Bool.and_eq_true, decide_eq_true_iff, Bool.not_eq_true', decide_eq_false_iff_not]
          exact ⟨by omega, hk⟩
      · exact ⟨okD_list (.inl rfl) rfl fun d hd => (h d hd).1, plain_list (.inl rfl) fun d hd => (h d hd).2⟩
    · exact ⟨okD_list (.inl rfl) rfl fun d hd => (h d hd).1, plain_list (.inl rfl) fun d hd => (h d hd).2⟩
theorem InvP.take {depth c c' : Nat} {ps qs : List Pt} {x : Wd} (h : InvP ps) (hd : depth ≤ 64) (hdp : deepA ps ≤ depth) (hx : WSnd x) (h0 : x.kind ≠ 0) (e : takeA depth c ps x = .ok (c', qs)) : InvP qs ∧ deepA qs ≤ depth := by
  have hadd : ∀ (ps : List Pt) (d : Dm), deepA (addA ps d) ≤ deepA ps := by
    intro ps
    induction ps with
    | nil => intro d; exact Nat.le_refl _
    | cons p ps ih =>
      intro d
      by_cases h6 : p.w.kind = 6
      · rw [addA_abb h6, deepA_up (p := p) (by omega)]
        exact Nat.le_succ_of_le (ih _)
      · by_cases h5 : p.w.kind = 5
        · rw [addA_skip h5, deepA_eq (p := p) (by omega)]
          exact Nat.le_refl _
        · rw [addA_put h6 h5, deepA_set (q := p) (q' := { p with l := p.l ++ [d] }) rfl]
          exact Nat.le_refl _
  cases ps with
  | nil => cases e
  | cons p rest =>
    rw [takeA_cases] at e
    by_cases h2 : x.kind = 2
    · rw [if_pos h2] at e
      unfold closA at e
      split at e
      · cases e
      · rename_i hno
        injection e with e; injection e with _ e; subst e
        have hk : p.w.kind ≠ 0 ∧ p.w.kind ≠ 5 := by
          by_cases h1 : p.w.kind = 1
          · omega
          · by_cases h3 : p.w.kind = 3
            · omega
            · exact absurd (.inl ⟨h1, h3⟩) hno
        have hdd := deepA_up (p := p) (ps := rest) hk
        have hda := datA_inv (p := p) (f := 64 - deepA (p :: rest)) h.1
        rw [show 64 - deepA (p :: rest) + 1 = 64 - deepA rest by omega] at hda
        exact ⟨InvP.add rest _ h.2.2 hda.1 hda.2, Nat.le_trans (hadd _ _) (by omega)⟩
    rw [if_neg h2] at e
    by_cases h4 : x.kind = 4
    · rw [if_pos h4] at e
      unfold dotA at e
      split at e
      · cases e
      · injection e with e; injection e with _ e; subst e
        rw [deepA_set (q := p) (q' := { p with dot := p.l.length }) rfl]
        exact ⟨⟨fun d hd2 => by rw [deepA_set (q := p) (q' := { p with dot := p.l.length }) rfl]; exact h.1 d hd2, h.2.1, h.2.2⟩, hdp⟩
    rw [if_neg h4] at e
    by_cases h5 : x.kind = 5
    · rw [if_pos h5] at e
      injection e with e; injection e with _ e; subst e
      rw [deepA_eq (p := ⟨x, [], 0⟩) (by show ¬ (x.kind ≠ 0 ∧ x.kind ≠ 5); omega)]
      exact ⟨⟨fun d hd2 => (by cases hd2), fun h6 => hx.2 h6, h⟩, hdp⟩
    rw [if_neg h5] at e
    unfold beginA at e
    split at e
    · cases e
    split at e
    · cases e
    split at e
    · cases e
    rename_i hn1 hn2 hn3
    have hsz : 1 ≤ szW x := by unfold szW; split <;> omega
    split at e
    · rename_i h7
      injection e with e; injection e with _ e; subst e
      obtain ⟨o1, o2, o3⟩ := hx.1 h7
      exact ⟨InvP.add _ _ h (okD_mono 1 _ _ (by omega) o1) o2, Nat.le_trans (hadd _ _) hdp⟩
    · injection e with e; injection e with _ e; subst e
      rw [deepA_up (p := ⟨x, [], 0⟩) (by show x.kind ≠ 0 ∧ x.kind ≠ 5; omega)]
      exact ⟨⟨fun d hd2 => (by cases hd2), fun h6 => hx.2 h6, h⟩, by omega⟩
theorem takes_inv {depth : Nat} (hd : depth ≤ 64) : ∀ (ws : List Wd) (c : Nat) (ps qs : List Pt), InvP ps → deepA ps ≤ depth → Base ps → wtA ps ≤ c → c ≤ 8192 → (∀ x ∈ ws, WSnd x ∧ x.kind ≠ 0) → takesA depth c ps ws = .ok qs → InvP qs ∧ Base qs ∧ wtA qs ≤ 8192 := by
  intro ws
  induction ws with
  | nil =>
    intro c ps qs h1 h2 h3 h4 h5 _ e
    injection e with e; subst e
    exact ⟨h1, h3, by omega⟩
  | cons x ws ih =>
    intro c ps qs h1 h2 h3 h4 h5 hx e
    cases ht : takeA depth c ps x with
    | error er => rw [takesA_err ht] at e; cases e
    | ok r =>
      obtain ⟨c', ps'⟩ := r
      rw [takesA_ok ht] at e
      obtain ⟨a1, a2⟩ := h1.take hd h2 (hx x (by simp)).1 (hx x (by simp)).2 ht
      obtain ⟨b1, b2, b3⟩ := takeA_wt h4 h5 ht
      exact ih c' ps' qs a1 a2 (takeA_base h3 (hx x (by simp)).2 ht) b1 b2 (fun y hy => hx y (by simp [hy])) e
/-- What is read is sound and plain. -/
theorem read_snd {bs : List Nat} (hby : By bs) {depth : Int} (h : (readA bs depth).2.2 = 0) : ∀ d ∈ (readA bs depth).1, sndD d = true ∧ plainA d = true := by
  intro d hd
  unfold readA at h hd
  split at h
  · cases h
  rename_i hdep
  rw [if_neg hdep] at hd
  split at h
  · rename_i h2; exact absurd h h2
  rename_i hdec
  rw [if_neg hdec] at hd
  split at h
  · rename_i h2; exact absurd h h2
  rename_i hsc
  rw [if_neg hsc] at hd
  simp only at h hd
  obtain ⟨hq, _⟩ := decA_sc hby (by simpa using hdec)
  have hw := scanW_snd (cs := (decA bs).1) hq
  unfold wordsA at h hd
  cases ht : takesA depth.toNat 0 [zP] (scanW (decA bs).1).1 with
  | error r =>
    rw [ht] at hd
    cases hd
  | ok qs =>
    rw [ht] at h hd
    have h1 := takes_inv (depth := depth.toNat) (by omega) _ 0 [zP] qs ⟨fun d hd => (by cases hd), fun h6 => (by cases h6), trivial⟩ (by show deepA [zP] ≤ _; simp [deepA, zP, zW]) Base.zero (by show wtA [zP] ≤ 0; simp [wtA, ownA, zP, zW, sumA]) (by omega) hw ht
    match qs, h, hd, h1 with
    | [p], _, hd, ⟨i1, i2, i3⟩ =>
      simp only at hd
      have hd0 : p.w.kind = 0 := by
        obtain ⟨xs, y, e, h0, _⟩ := i2
        cases xs with
        | nil => simp at e; rw [e]; exact h0
        | cons x xs => simp at e
      have hdp : deepA [p] = 0 := by rw [deepA_eq (p := p) (by omega)]; rfl
      have h2 := i1.1 d hd
      rw [hdp] at h2
      have hs : d.sz ≤ 8192 := by
        have e : wtA [p] = ownA p + sumA p.l + 0 := rfl
        have : d.sz ≤ sumA p.l := by
          unfold sumA
          have key : ∀ l : List Dm, d ∈ l → d.sz ≤ (l.map Dm.sz).sum := by
            intro l
            induction l with
            | nil => intro h; cases h
            | cons y l ih =>
              intro h
              rw [List.map_cons, List.sum_cons]
              rcases List.mem_cons.1 h with rfl | h
              · omega
              · have := ih h; omega
          exact key _ hd
        omega
      unfold sndD
      exact ⟨by rw [h2.1]; simpa using hs, h2.2⟩
    | [], h, hd, _ => cases hd
    | _ :: _ :: _, h, hd, _ => cases hd
/-- A sound and plain datum is small. -/
theorem snd_small : ∀ (m : Nat) (d : Dm), d.sz ≤ m → ∀ f, okD f d = true → plainA d = true → DBy d → d.sz ≤ 8192 → Sm 100000 d := by
  intro m
  induction m with
  | zero => intro d h; have := sz_pos d; omega
  | succ m ih =>
    intro d hm f hok hpl hdb hs
    obtain ⟨k, t, n, r, l, a⟩ := d
    obtain ⟨h10, h11, hpl2⟩ := plain_mk hpl
    obtain ⟨hby, hdb2⟩ := hdb.open'
    by_cases hk : k = 1 ∨ k = 2 ∨ k = 3
    · obtain ⟨f', _, rfl, rfl, rfl, _, hall⟩ := okD_parts hok hk
      have hl : l.length ≤ 8192 := by
        have h1 := sz_sumA k [] false [] l a
        have h2 := sumA_len l
        omega
      refine .mk (by simp) (by simp) (by omega) fun i hi => ?_
      have := Dm.sz_mem (d := .mk k [] false [] l a) (x := l[i]'hi) (List.getElem_mem hi)
      exact ih _ (by omega) f' (hall i hi) (hpl2 i hi) (hdb2 i hi) (by omega)
    · obtain ⟨rfl, h⟩ := leaf_parts hok hk h10 h11
      rcases h with ⟨_, rfl, hsn⟩ | ⟨_, rfl, h⟩
      · exact .mk (by simp) (by have := hsn.1; omega) (by simp) fun i hi => by simp at hi
      · have ht : t.length ≤ 100000 := by
          rcases h with ⟨_, hs⟩ | ⟨_, u, hc, hlen⟩ | ⟨_, c, hc⟩ | ⟨_, rfl⟩ | ⟨_, rfl⟩
          · unfold symA at hs
            simp only [Bool.and_eq_true, decide_eq_true_iff] at hs
            have := hs.1.1.1.2.2.1
            omega
          · have he := (enc_chars hby _ 0 u (Nat.le_refl _) (Nat.zero_le _) hc).1
            rw [List.drop_zero] at he
            have := encL_len u
            rw [he] at this
            omega
          · have he := (enc_chars hby _ 0 [c] (Nat.le_refl _) (Nat.zero_le _) hc).1
            rw [List.drop_zero] at he
            have := encL_len [c]
            rw [he] at this
            simp at this
            omega
          · simp
          · simp
        exact .mk ht (by simp) (by simp) fun i hi => by simp at hi
end Go.Proofs.YtpahfhjgcflifaaGreatDoor
namespace Go.Proofs.YtpahfhjgcflifaaGreatDoor
open Go.RowKit

/-- What is read of a text all of whose words are read as d. -/
theorem read_scs {cs : List Nat} {ws : List Wd} {d : Dm} (hs : Scs cs 0 ws cs.length) (hr : ReadsAs ws d) (hsc : ∀ c ∈ cs, scN c) (hl : (encL cs).length ≤ 65536) {depth : Nat} (h1 : 1 ≤ depth) (h2 : depth ≤ 64) :
    (okD depth d = true ∧ d.sz ≤ 8192 → ∃ d', d'.strip = d.strip ∧ readA (encL cs) (depth : Nat) = ([d'], 0, 0)) ∧
    (¬ (okD depth d = true ∧ d.sz ≤ 8192) → ∃ (a : Int) (e : Nat), readA (encL cs) (depth : Nat) = ([], a, e) ∧ (e = 5 ∨ e = 6) ∧ (okD depth d = true → e = 6) ∧ (d.sz ≤ 8192 → e = 5)) := by
  have hd : decA (encL cs) = (cs, 0, 0) := decA_ok hl (chars_enc cs hsc)
  have hq := scanW_of hs
  have e : readA (encL cs) (depth : Nat) = ((wordsA depth cs.length ws).1, (((wordsA depth cs.length ws).2.1 : Nat) : Int), (wordsA depth cs.length ws).2.2) := by
    unfold readA
    rw [if_neg (by omega), hd]
    simp only [ne_eq, not_true_eq_false, if_false]
    rw [hq]
    simp
  obtain ⟨w1, w2⟩ := words_of hr depth cs.length
  rw [e]
  refine ⟨fun hg => ?_, fun hn => ?_⟩
  · obtain ⟨d', h3, h4⟩ := w1 hg
    exact ⟨d', h3, by rw [h4]; rfl⟩
  · obtain ⟨a, er, h3, h4, h5, h6⟩ := w2 hn
    exact ⟨(a : Nat), er, by rw [h3], h4, h5, h6⟩
/-- What is read of a text that is a datum's. -/
theorem read_writes {s : List Nat} {d : Dm} (hw : Writes s d) (hsc : ∀ c ∈ s, scN c) (hl : (encL s).length ≤ 65536) {depth : Nat} (h1 : 1 ≤ depth) (h2 : depth ≤ 64) :
    (okD depth d = true ∧ d.sz ≤ 8192 → ∃ d', d'.strip = d.strip ∧ readA (encL s) (depth : Nat) = ([d'], 0, 0)) ∧
    (¬ (okD depth d = true ∧ d.sz ≤ 8192) → ∃ (a : Int) (e : Nat), readA (encL s) (depth : Nat) = ([], a, e) ∧ (e = 5 ∨ e = 6) ∧ (okD depth d = true → e = 6) ∧ (d.sz ≤ 8192 → e = 5)) := by
  obtain ⟨ws, h3, h4⟩ := hw.reads s 0 ⟨[], by simp⟩ (.inl (by simp))
  rw [Nat.zero_add] at h3
  exact read_scs h3 h4 hsc hl h1 h2
/-- Lists within lists: the text, and the datum. -/
def nestT : Nat → List Nat → List Nat
  | 0, s => s
  | n + 1, s => 40 :: (nestT n s ++ [41])
def nestD : Nat → Dm → Dm
  | 0, d => d
  | n + 1, d => .mk 1 [] false [] [nestD n d] 0
theorem nestT_len (n : Nat) (s : List Nat) : (nestT n s).length = 2 * n + s.length := by
  induction n with
  | zero => simp [nestT]
  | succ n ih => simp [nestT, ih]; omega
theorem nestT_low {n : Nat} {s : List Nat} (h : ∀ c ∈ s, c < 128) : ∀ c ∈ nestT n s, c < 128 := by
  induction n with
  | zero => exact h
  | succ n ih =>
    intro c hc
    rcases List.mem_cons.1 hc with rfl | hc
    · decide
    rcases List.mem_append.1 hc with hc | hc
    · exact ih c hc
    · rw [List.mem_singleton.1 hc]; decide
theorem nestD_sz (n : Nat) (d : Dm) : (nestD n d).sz = n + d.sz := by
  induction n with
  | zero => simp [nestD]
  | succ n ih =>
    show (Dm.mk 1 [] false [] [nestD n d] 0).sz = _
    rw [sz_sumA, sumA_one, ih]
    omega
theorem nestD_ok {d : Dm} {m : Nat} (_hm : 1 ≤ m) (h : ∀ f, okD f d = true ↔ m ≤ f) : ∀ n f, okD f (nestD n d) = true ↔ n + m ≤ f := by
  intro n
  induction n with
  | zero => intro f; rw [Nat.zero_add]; exact h f
  | succ n ih =>
    intro f
    cases f with
    | zero =>
      show okD 0 (Dm.mk 1 [] false [] [nestD n d] 0) = true ↔ _
      rw [okD_zero]
      simp
    | succ f =>
      show okD (f + 1) (Dm.mk 1 [] false [] [nestD n d] 0) = true ↔ _
      rw [okD_node (.inl rfl)]
      have e : endA 1 [nestD n d] = true := rfl
      rw [e]
      simp only [decide_true, blankA, Bool.not_false, List.length_nil, Bool.and_self, Bool.true_and, List.all_cons, List.all_nil, Bool.and_true]
      rw [ih f]
      omega
theorem nest_writes {s : List Nat} {d : Dm} {m : Nat} (hm : 1 ≤ m) (h : ∀ f, okD f d = true ↔ m ≤ f) (hw : Writes s d) : ∀ n, Writes (nestT n s) (nestD n d)
  | 0 => hw
  | n + 1 => (nest_writes hm h hw n).paren (g := n + m) ((nestD_ok hm h n _).2 (Nat.le_refl _))
theorem symb_a : symbA [97] = true := by
  have h1 : chars [97] 0 = ([97], none) := chars_enc [97] (by intro c hc; rw [List.mem_singleton] at hc; subst hc; decide)
  have y1 : symA [97] = true := symA_yes (by decide) (by decide) (by decide) (by decide) (by decide) (by rw [h1]) (by rw [h1]; decide)
  unfold symbA
  rw [atmA_symb (by_of (by decide)) y1]
  rfl
def aD : Dm := .mk 4 [97] false [] [] 0
def qaD : Dm := .mk 1 [] false [] [.mk 4 (mName 2) false [] [] 0, aD] 0
theorem aD_ok (f : Nat) : okD f aD = true ↔ 1 ≤ f := by
  have h1 : okD 1 aD = true := by
    unfold aD
    rw [okD_leaf (by omega) (by omega)]
    unfold wrtA
    rw [if_pos rfl, symb_a]
    rfl
  exact okD_lev h1 (by omega)
theorem aD_writes : Writes [97] aD := by
  have h1 : chars [97] 0 = ([97], none) := chars_enc [97] (by intro c hc; rw [List.mem_singleton] at hc; subst hc; decide)
  have e : aD.tx = [97] := by
    unfold Dm.tx aD
    rw [tg_leaf (by omega)]
    show (chA [97]).1 = _
    rw [chA_ok h1]
  rw [← e]
  exact writes_dm ((aD_ok 1).2 (Nat.le_refl _)) (plain_of (by omega) (by omega) fun j hj => by simp at hj) (.mk (by_of (by decide)) fun i h => by simp at h)
theorem qaD_ok (f : Nat) : okD f qaD = true ↔ 2 ≤ f := by
  cases f with
  | zero => rw [okD_zero]; simp
  | succ f =>
    unfold qaD
    rw [okD_node (.inl rfl)]
    have e1 : endA 1 [Dm.mk 4 (mName 2) false [] [] 0, aD] = true := rfl
    rw [e1]
    simp only [decide_true, blankA, Bool.not_false, List.length_nil, Bool.and_self, Bool.true_and, List.all_cons, List.all_nil, Bool.and_true, Bool.and_eq_true]
    rw [aD_ok]
    constructor
    · rintro ⟨_, h⟩; omega
    · intro h
      refine ⟨?_, by omega⟩
      obtain ⟨f, rfl⟩ : ∃ g, f = g + 1 := ⟨f - 1, by omega⟩
      rw [okD_leaf (by omega) (by omega)]
      unfold wrtA
      rw [if_pos rfl, symb_quote]
      rfl
theorem qaD_writes : Writes [39, 97] qaD := aD_writes.quote
/-- How deep lists may stand within one another. -/
theorem nest_read {s : List Nat} {d : Dm} {m n depth : Nat} (hm : 1 ≤ m) (h : ∀ f, okD f d = true ↔ m ≤ f) (hw : Writes s d) (hlow : ∀ c ∈ s, c < 128) (hsz : d.sz ≤ 10) (hsl : s.length ≤ 10) (hn : n ≤ 100) (h1 : 1 ≤ depth) (h2 : depth ≤ 64) : (readA (nestT n s) (depth : Nat)).2.2 = if n + m > depth then 5 else 0 := by
  have hlo := nestT_low (n := n) hlow
  have he := encL_low hlo
  have hlen := nestT_len n s
  have hz := nestD_sz n d
  obtain ⟨r1, r2⟩ := read_writes (nest_writes hm h hw n) (fun c hc => by have := hlo c hc; unfold scN; omega) (by rw [he, hlen]; omega) h1 h2
  rw [he] at r1 r2
  by_cases hd : n + m ≤ depth
  · obtain ⟨d', _, e⟩ := r1 ⟨(nestD_ok hm h n depth).2 hd, by omega⟩
    rw [e, if_neg (by omega)]
  · obtain ⟨a, e, e1, e2, e3, e4⟩ := r2 fun hh => hd ((nestD_ok hm h n depth).1 hh.1)
    rw [e1, if_pos (by omega)]
    exact e4 (by omega)
/-- A datum's text with a blank ahead, and a blank and a comment behind. -/
theorem read_back {D : Dm} (hok : okD 64 D = true) (hsz : D.sz ≤ 8192) (hpl : plainA D = true) (hdb : DBy D) (hl : D.tb.length ≤ 60000) : ∃ d', d'.strip = D.strip ∧ readA (32 :: (D.tb ++ [32, 59])) 64 = ([d'], 0, 0) := by
  obtain ⟨hsc, henc, hpos, _, _⟩ := tx_enc _ D (Nat.le_refl _) 64 hok hpl hdb
  have hcs : encL (32 :: (D.tx ++ [32, 59])) = 32 :: (D.tb ++ [32, 59]) := by
    show encN 32 ++ encL (D.tx ++ [32, 59]) = _
    rw [encL_app, henc]
    rfl
  have hlie : Lies (D.tx ++ [32, 59]) (32 :: (D.tx ++ [32, 59])) 1 := ⟨[], by simp⟩
  have hlen : (32 :: (D.tx ++ [32, 59])).length = D.tx.length + 3 := by simp
  obtain ⟨h32, hlt⟩ := lies_next (u := D.tx) (c := 32) (r := [59]) hlie
  obtain ⟨ws, h1, h2⟩ := (writes_dm hok hpl hdb).reads _ 1 hlie.left (.inr ⟨hlt, by rw [h32]; decide⟩)
  have h0 : Scs (32 :: (D.tx ++ [32, 59])) 0 [] 1 := Scs.blank (by simp) rfl
  have h3 := Scs.blank hlt h32
  have h59 : limb (32 :: (D.tx ++ [32, 59])) (1 + D.tx.length + 1) = 59 := by
    have h4 : Lies [32, 59] (32 :: (D.tx ++ [32, 59])) (1 + D.tx.length) := hlie.tail
    exact h4.at (j := 1) (by simp)
  have h5 : Scs (32 :: (D.tx ++ [32, 59])) (1 + D.tx.length + 1) [] (32 :: (D.tx ++ [32, 59])).length := fun acc => by
    rw [List.append_nil]
    refine wdsA_skp ?_ acc
    rw [skp_semi (by rw [hlen]; omega) h59, til_end (by rw [hlen]; omega), show 1 + D.tx.length + 1 + 1 = (32 :: (D.tx ++ [32, 59])).length by rw [hlen]; omega]
  have hall := h0.trans (h1.trans (h3.trans h5))
  simp only [List.nil_append, List.append_nil] at hall
  have hscs : ∀ c ∈ 32 :: (D.tx ++ [32, 59]), scN c := by
    intro c hc
    rcases List.mem_cons.1 hc with rfl | hc
    · unfold scN; omega
    rcases List.mem_append.1 hc with hc | hc
    · exact hsc c hc
    · have h6 : c = 32 ∨ c = 59 := by simpa using hc
      unfold scN
      omega
  have hr := (read_scs hall h2 hscs (by rw [hcs]; simp; omega) (depth := 64) (by omega) (by omega)).1 ⟨hok, hsz⟩
  rw [hcs] at hr
  exact hr
end Go.Proofs.YtpahfhjgcflifaaGreatDoor
