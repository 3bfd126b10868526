/- What is read of a short sign, a datum that is passed over, and a datum; and of the list that it stands for. No walk here. -/
import Derived.Test.YtpahfhjgcflifaaDoorTxInv
namespace Go.Proofs.YtpahfhjgcflifaaDoor
open Go.RowKit

/-- What is read, by where its words go. -/
theorem read_goes {cs : List Nat} {ws : List Wd} (hs : Scs cs 0 ws cs.length) (hsc : ∀ c ∈ cs, scN c) (hl : (encL cs).length ≤ 65536) {G K C : Prop} {x : Dm} (hg : Goes G K C (takesA 64 0 [zP] ws) (.ok [⟨zW, [x], 0⟩])) :
    (G → readA (encL cs) 64 = ([x], 0, 0)) ∧ (¬ G → ∃ (a : Int) (e : Nat), readA (encL cs) 64 = ([], a, e) ∧ (e = 5 ∨ e = 6) ∧ (K → e = 6) ∧ (C → e = 5)) := by
  have hd : decA (encL cs) = (cs, 0, 0) := decA_ok hl (chars_enc cs hsc)
  have hq := scanW_of hs
  have e : readA (encL cs) 64 = ((wordsA 64 cs.length ws).1, (((wordsA 64 cs.length ws).2.1 : Nat) : Int), (wordsA 64 cs.length ws).2.2) := by
    unfold readA
    rw [if_neg (by omega), hd]
    simp only [ne_eq, not_true_eq_false, if_false]
    rw [hq]
    simp
  rw [e]
  unfold wordsA
  refine ⟨fun h => ?_, fun h => ?_⟩
  · rw [hg.1 h]
    rfl
  · obtain ⟨a, er, h1, h2, h3, h4⟩ := hg.2 h
    rw [h1]
    exact ⟨(a : Nat), er, rfl, h2, h3, h4⟩
def sgA : Nat → List Nat
  | 0 => [39]
  | 1 => [44]
  | 2 => [44, 64]
  | 3 => [35, 39]
  | 4 => [35, 44]
  | _ => [35, 44, 64]
def miA : Nat → Nat
  | 0 => 2
  | 1 => 5
  | 2 => 4
  | 3 => 8
  | 4 => 11
  | _ => 10
theorem mi_facts : ∀ k : Fin 6, mKind (miA k.val) = 6 ∧ miA k.val < 12 ∧ (mName (miA k.val)).all (fun x => decide (x < 128)) = true ∧ (mName (miA k.val)).length ≤ 30 ∧ (sgA k.val).all (fun x => decide (x < 128)) = true ∧ 0 < (sgA k.val).length ∧ (sgA k.val).length ≤ 3 ∧ mText (miA k.val) = sgA k.val := by decide
theorem scs_sign {k : Nat} (hk : k < 6) {cs r : List Nat} (h : cs = sgA k ++ 35 :: 59 :: r) : Scs cs 0 [markW (miA k) 0] (sgA k).length := by
  have hd : cs.drop 0 = sgA k ++ 35 :: 59 :: r := by rw [List.drop_zero]; exact h
  have hm : markA cs 0 = some (miA k) := by
    unfold markA pfx
    rw [hd]
    match k, hk with
    | 0, _ => simp [List.range, List.range.loop, mText, mtab, sgA, miA]
    | 1, _ => simp [List.range, List.range.loop, mText, mtab, sgA, miA]
    | 2, _ => simp [List.range, List.range.loop, mText, mtab, sgA, miA]
    | 3, _ => simp [List.range, List.range.loop, mText, mtab, sgA, miA]
    | 4, _ => simp [List.range, List.range.loop, mText, mtab, sgA, miA]
    | 5, _ => simp [List.range, List.range.loop, mText, mtab, sgA, miA]
  have h0 : limb cs 0 ≠ 59 ∧ blN (limb cs 0) = false ∧ 0 < cs.length := by
    rw [h]
    match k, hk with
    | 0, _ => exact ⟨by show (39 : Nat) ≠ 59; decide, by show blN 39 = false; decide, by simp [sgA]⟩
    | 1, _ => exact ⟨by show (44 : Nat) ≠ 59; decide, by show blN 44 = false; decide, by simp [sgA]⟩
    | 2, _ => exact ⟨by show (44 : Nat) ≠ 59; decide, by show blN 44 = false; decide, by simp [sgA]⟩
    | 3, _ => exact ⟨by show (35 : Nat) ≠ 59; decide, by show blN 35 = false; decide, by simp [sgA]⟩
    | 4, _ => exact ⟨by show (35 : Nat) ≠ 59; decide, by show blN 35 = false; decide, by simp [sgA]⟩
    | 5, _ => exact ⟨by show (35 : Nat) ≠ 59; decide, by show blN 35 = false; decide, by simp [sgA]⟩
  have hw := wrdA_mark hm
  rw [(mi_facts ⟨k, hk⟩).2.2.2.2.2.2.2, Nat.zero_add] at hw
  exact Scs.one h0.2.2 h0.1 h0.2.1 hw
theorem scs_skip {cs : List Nat} {i : Nat} (h : Lies [35, 59] cs i) : Scs cs i [markW 7 i] (i + 2) := by
  have h0 : limb cs i = 35 := h.at (j := 0) (by simp)
  refine Scs.one (h.lt (by simp)) (by rw [h0]; decide) (by rw [h0]; decide) (wrdA_mark ?_)
  obtain ⟨rest, hr⟩ := h
  unfold markA pfx
  rw [hr]
  simp [List.range, List.range.loop, mText, mtab]
/-- A datum that may be written, whose text is not too long. -/
structure Wr (d : Dm) : Prop where
  ok : okD 64 d = true
  sz : d.sz ≤ 8192
  pl : plainA d = true
  by' : DBy d
theorem Wr.enc {d : Dm} (h : Wr d) : (∀ c ∈ d.tx, scN c) ∧ encL d.tx = d.tb ∧ 0 < d.tx.length := by
  obtain ⟨a, b, c, _⟩ := tx_enc _ d (Nat.le_refl _) 64 h.ok h.pl h.by'
  exact ⟨a, b, c⟩
/-- The list that a short sign and a datum are. -/
def abD (k : Nat) (d : Dm) : Dm := .mk 1 [] false [] [.mk 4 (mName (miA k)) false [] [] 0, d] 0
theorem symb_mi {k : Nat} (hk : k < 6) : symbA (mName (miA k)) = true := by
  obtain ⟨a, b, c, _⟩ := mi_facts ⟨k, hk⟩
  obtain ⟨e, f, g, h⟩ := mark_names ⟨miA k, b⟩ a
  exact symbA_of (by_of' c) (symA_name e f g h)
theorem abD_sz (k : Nat) (d : Dm) : (abD k d).sz = 2 + d.sz := by
  unfold abD
  rw [sz_sumA]
  simp only [sumA, List.map_cons, List.map_nil, List.sum_cons, List.sum_nil, sz_sumA]
  omega
theorem abD_ok {k : Nat} (hk : k < 6) {d : Dm} {f : Nat} (h : okD f d = true) : okD (f + 1) (abD k d) = true := by
  refine okD_list (.inl rfl) rfl fun x hx => ?_
  rcases List.mem_cons.1 hx with rfl | hx
  · exact okD_any (okD_sym (symb_mi hk)) (okD_pos h)
  · rw [List.mem_singleton.1 hx]; exact h
theorem abD_ok' {k : Nat} {d : Dm} {f : Nat} (h : okD (f + 1) (abD k d) = true) : okD f d = true := by
  obtain ⟨f', hf, _, _, _, _, hall⟩ := okD_parts h (.inl rfl)
  obtain rfl : f = f' := by omega
  exact hall 1 (by simp)
theorem list1_tb (g : Int → List Nat → Bool → List Nat → List Nat) (x y : Dm) (a : Int) : (Dm.mk 1 [] false [] [x, y] a).tg g = 40 :: (x.tg g ++ 32 :: (y.tg g ++ [41])) := by
  rw [tg_node (.inl rfl)]
  simp [lisT, hdT, preT, sepT]
/-- The short way. -/
theorem short_read {k : Nat} (hk : k < 6) {d g : Dm} (hd : Wr d) (hg : Wr g) (hl : d.tb.length ≤ 20000) (hl2 : g.tb.length ≤ 20000) :
    ((okD 63 g = true ∧ 2 + g.sz ≤ 8192) ∧ (okD 63 d = true ∧ 2 + g.sz + d.sz ≤ 8192) → ∃ x, x.strip = (abD k d).strip ∧ readA (sgA k ++ 35 :: 59 :: (g.tb ++ 32 :: d.tb)) 64 = ([x], 0, 0)) ∧
    (¬ ((okD 63 g = true ∧ 2 + g.sz ≤ 8192) ∧ (okD 63 d = true ∧ 2 + g.sz + d.sz ≤ 8192)) → ∃ (a : Int) (e : Nat), readA (sgA k ++ 35 :: 59 :: (g.tb ++ 32 :: d.tb)) 64 = ([], a, e) ∧ (e = 5 ∨ e = 6)) := by
  obtain ⟨d1, d2, d3⟩ := hd.enc
  obtain ⟨g1, g2, g3⟩ := hg.enc
  obtain ⟨m1, m2, m3, m4, m5, m6, m7, _⟩ := mi_facts ⟨k, hk⟩
  simp only at m1 m2 m3 m4 m5 m6 m7
  have hlow : ∀ c ∈ sgA k, c < 128 := fun c hc => by simpa using List.all_eq_true.1 m5 c hc
  obtain ⟨cs, hcs⟩ : ∃ cs, cs = sgA k ++ 35 :: 59 :: (g.tx ++ 32 :: d.tx) := ⟨_, rfl⟩
  have henc : encL cs = sgA k ++ 35 :: 59 :: (g.tb ++ 32 :: d.tb) := by
    rw [hcs, encL_app, encL_low hlow]
    show sgA k ++ (encN 35 ++ (encN 59 ++ encL (g.tx ++ 32 :: d.tx))) = _
    rw [encL_app, g2]
    show sgA k ++ (encN 35 ++ (encN 59 ++ (g.tb ++ (encN 32 ++ encL d.tx)))) = _
    rw [d2]
    rfl
  have hsc : ∀ c ∈ cs, scN c := by
    intro c hc
    rw [hcs] at hc
    rcases List.mem_append.1 hc with hc | hc
    · have := hlow c hc; unfold scN; omega
    rcases List.mem_cons.1 hc with rfl | hc
    · unfold scN; omega
    rcases List.mem_cons.1 hc with rfl | hc
    · unfold scN; omega
    rcases List.mem_append.1 hc with hc | hc
    · exact g1 c hc
    rcases List.mem_cons.1 hc with rfl | hc
    · unfold scN; omega
    · exact d1 c hc
  have h1 := scs_sign hk (r := g.tx ++ 32 :: d.tx) hcs
  have hl0 : Lies (35 :: 59 :: (g.tx ++ 32 :: d.tx)) cs (sgA k).length := ⟨[], by rw [hcs, List.drop_left, List.append_nil]⟩
  have h2 := scs_skip (Lies.left (u := [35, 59]) (v := g.tx ++ 32 :: d.tx) hl0)
  have hlg : Lies (g.tx ++ 32 :: d.tx) cs ((sgA k).length + 2) := Lies.tail (u := [35, 59]) hl0
  obtain ⟨hn1, hn2⟩ := lies_next hlg
  obtain ⟨wg, h3, h4⟩ := (writes_dm hg.ok hg.pl hg.by').reads cs _ hlg.left (.inr ⟨hn2, by rw [hn1]; decide⟩)
  have h5 := Scs.blank hn2 hn1
  have hld : Lies d.tx cs ((sgA k).length + 2 + g.tx.length + 1) := by
    have h6 : Lies (32 :: d.tx) cs ((sgA k).length + 2 + g.tx.length) := hlg.tail
    exact Lies.tail (u := [32]) h6
  have hlen : (sgA k).length + 2 + g.tx.length + 1 + d.tx.length = cs.length := by
    rw [hcs]
    simp only [List.length_append, List.length_cons]
    omega
  obtain ⟨wd, h6, h7⟩ := (writes_dm hd.ok hd.pl hd.by').reads cs _ hld (.inl hlen)
  rw [hlen] at h6
  have hall := h1.trans (h2.trans (h3.trans (h5.trans h6)))
  simp only [List.nil_append] at hall
  obtain ⟨d', hd', hgo⟩ := h7
  have hw6 : (markW (miA k) 0).kind = 6 := m1
  have hsw : szW (markW (miA k) 0) = 2 := by unfold szW; rw [if_pos hw6]
  have b1 := goes_begin (depth := 64) (c := 0) (f := 64) (q := zP) (ps := []) (w := markW (miA k) 0) (markW 7 (sgA k).length :: (wg ++ wd)) (by simp [fullA, zP]) (by omega) (by omega) (by omega) (by rw [deepA_zero])
  rw [if_neg (by omega), hsw] at b1
  have hdp : deepA (⟨markW (miA k) 0, [], 0⟩ :: [zP]) + 63 = 64 := by
    rw [deepA_in (q := ⟨markW (miA k) 0, [], 0⟩) (by show (markW (miA k) 0).kind ≠ 0 ∧ (markW (miA k) 0).kind ≠ 5; omega), deepA_zero]
  have b2 := skips_of h4 (w0 := markW 7 (sgA k).length) rfl (c := 0 + 2) (f := 63) wd hdp (by omega)
  have b3 := fun (hc : 0 + 2 + g.sz ≤ 8192) => hgo 64 (0 + 2 + g.sz) 63 ⟨markW (miA k) 0, [], 0⟩ [zP] [] (by simp [fullA]) hdp hc
  have hG := b1.trans fun _ => b2.trans fun hg => by
    have := b3 hg.2
    rw [List.append_nil] at this
    exact this
  have hadd : addA (⟨markW (miA k) 0, [], 0⟩ :: [zP]) d' = [⟨zW, [abbA (markW (miA k) 0) d'], 0⟩] := by
    show (if (markW (miA k) 0).kind = 6 then _ else _) = _
    rw [if_pos hw6]
    rfl
  rw [hadd] at hG
  have e0 : ∀ c, takesA 64 c [⟨zW, [abbA (markW (miA k) 0) d'], 0⟩] [] = .ok [⟨zW, [abbA (markW (miA k) 0) d'], 0⟩] := fun _ => rfl
  rw [e0] at hG
  have hr := read_goes hall hsc (by
    rw [henc]
    simp only [List.length_append, List.length_cons]
    omega) hG
  rw [henc] at hr
  have hst : (abbA (markW (miA k) 0) d').strip = (abD k d).strip := by
    unfold abbA abD
    rw [strip_mk, strip_mk]
    simp only [List.map_cons, List.map_nil, strip_mk, hd']
    rfl
  refine ⟨fun h => ⟨_, hst, hr.1 ⟨⟨by omega, by omega⟩, ⟨h.1.1, by omega⟩, h.2.1, by omega⟩⟩, fun h => ?_⟩
  obtain ⟨a, e, h1, h2, _⟩ := hr.2 fun h3 => h ⟨⟨h3.2.1.1, by omega⟩, h3.2.2.1, by omega⟩
  exact ⟨a, e, h1, h2⟩
/-- The long way. -/
theorem long_read {k : Nat} (hk : k < 6) {d : Dm} (hd : Wr d) (hl : d.tb.length ≤ 20000) :
    (okD 63 d = true ∧ 2 + d.sz ≤ 8192 → ∃ x, x.strip = (abD k d).strip ∧ readA (40 :: (mName (miA k) ++ 32 :: (d.tb ++ [41]))) 64 = ([x], 0, 0)) ∧
    (¬ (okD 63 d = true ∧ 2 + d.sz ≤ 8192) → ∃ (a : Int) (e : Nat), readA (40 :: (mName (miA k) ++ 32 :: (d.tb ++ [41]))) 64 = ([], a, e) ∧ (e = 5 ∨ e = 6)) := by
  obtain ⟨m1, m2, m3, m4, m5, m6, m7, _⟩ := mi_facts ⟨k, hk⟩
  simp only at m1 m2 m3 m4 m5 m6 m7
  have hby : By (mName (miA k)) := by_of' m3
  have hok : okD 65 (abD k d) = true := abD_ok hk hd.ok
  have hpl : plainA (abD k d) = true := plain_list (.inl rfl) fun x hx => by
    rcases List.mem_cons.1 hx with rfl | hx
    · exact plain_leaf (by decide) (by decide)
    · rw [List.mem_singleton.1 hx]; exact hd.pl
  have hdb : DBy (abD k d) := .mk By.nil fun i h => by
    match i, h with
    | 0, _ => exact .mk hby fun i h => by simp at h
    | 1, _ => exact hd.by'
  have htb : (abD k d).tb = 40 :: (mName (miA k) ++ 32 :: (d.tb ++ [41])) := by
    unfold Dm.tb abD
    rw [list1_tb, tg_leaf (by omega)]
    rfl
  obtain ⟨a1, a2, a3, _⟩ := tx_enc _ _ (Nat.le_refl _) 65 hok hpl hdb
  have hr := read_writes (writes_dm hok hpl hdb) a1 (by
    rw [a2, htb]
    simp only [List.length_append, List.length_cons, List.length_nil]
    omega) (depth := 64) (by omega) (by omega)
  rw [a2, htb, abD_sz] at hr
  refine ⟨fun h => ?_, fun h => ?_⟩
  · obtain ⟨x, hx, e⟩ := hr.1 ⟨abD_ok hk h.1, h.2⟩
    exact ⟨x, hx, e⟩
  · obtain ⟨a, e, h1, h2, _⟩ := hr.2 fun h3 => h ⟨abD_ok' h3.1, h3.2⟩
    exact ⟨a, e, h1, h2⟩
/-- Both. -/
theorem shorts_read {k : Nat} (hk : k < 6) {d g : Dm} (hd : Wr d) (hg : Wr g) (hl : d.tb.length ≤ 20000) (hl2 : g.tb.length ≤ 20000) :
    ∃ (l1 : List Dm) (a1 : Int) (e : Nat) (l2 : List Dm) (a2 : Int) (f : Nat), readA (sgA k ++ 35 :: 59 :: (g.tb ++ 32 :: d.tb)) 64 = (l1, a1, e) ∧ readA (40 :: (mName (miA k) ++ 32 :: (d.tb ++ [41]))) 64 = (l2, a2, f) ∧
      ((e = 0 ∧ f = 0 ∧ ∃ x y, l1 = [x] ∧ l2 = [y] ∧ sameA x y = true) ∨ e = 6 ∨ (e = 0 ∧ f = 6) ∨ (e = 5 ∧ f = 6) ∨ (e = 5 ∧ f = 5) ∨ (e = 5 ∧ f = 0)) := by
  obtain ⟨s1, s2⟩ := short_read hk hd hg hl hl2
  obtain ⟨t1, t2⟩ := long_read hk hd hl
  by_cases h1 : (okD 63 g = true ∧ 2 + g.sz ≤ 8192) ∧ (okD 63 d = true ∧ 2 + g.sz + d.sz ≤ 8192)
  · obtain ⟨x, hx, ex⟩ := s1 h1
    obtain ⟨y, hy, ey⟩ := t1 ⟨h1.2.1, by omega⟩
    exact ⟨[x], 0, 0, [y], 0, 0, ex, ey, .inl ⟨rfl, rfl, x, y, rfl, rfl, sameA_true (hx.trans hy.symm)⟩⟩
  · obtain ⟨a, e, ex, he⟩ := s2 h1
    by_cases h2 : okD 63 d = true ∧ 2 + d.sz ≤ 8192
    · obtain ⟨y, hy, ey⟩ := t1 h2
      refine ⟨[], a, e, [y], 0, 0, ex, ey, ?_⟩
      rcases he with rfl | rfl
      · exact .inr (.inr (.inr (.inr (.inr ⟨rfl, rfl⟩))))
      · exact .inr (.inl rfl)
    · obtain ⟨b, f, ey, hf⟩ := t2 h2
      refine ⟨[], a, e, [], b, f, ex, ey, ?_⟩
      rcases he with rfl | rfl
      · rcases hf with rfl | rfl
        · exact .inr (.inr (.inr (.inr (.inl ⟨rfl, rfl⟩))))
        · exact .inr (.inr (.inr (.inl ⟨rfl, rfl⟩)))
      · exact .inr (.inl rfl)
theorem Wr.tby {d : Dm} (h : Wr d) : By d.tb := by
  obtain ⟨a, b, _⟩ := h.enc
  rw [← b]
  exact encL_byQ fun c hc => a c hc
theorem By.consN {a : Nat} {l : List Nat} (ha : a < 256) (h : By l) : By (a :: l) := fun i => by
  cases i with
  | zero => exact ha
  | succ i => exact h i
theorem short_by {k : Nat} (hk : k < 6) {d g : Dm} (hd : Wr d) (hg : Wr g) : By (sgA k ++ 35 :: 59 :: (g.tb ++ 32 :: d.tb)) :=
  (by_of' (mi_facts ⟨k, hk⟩).2.2.2.2.1).app (By.consN (by omega) (By.consN (by omega) (hg.tby.app (By.consN (by omega) hd.tby))))
theorem long_by {k : Nat} (hk : k < 6) {d : Dm} (hd : Wr d) : By (40 :: (mName (miA k) ++ 32 :: (d.tb ++ [41]))) :=
  By.consN (by omega) ((by_of' (mi_facts ⟨k, hk⟩).2.2.1).app (By.consN (by omega) (hd.tby.app (by_of (by decide)))))
end Go.Proofs.YtpahfhjgcflifaaDoor
