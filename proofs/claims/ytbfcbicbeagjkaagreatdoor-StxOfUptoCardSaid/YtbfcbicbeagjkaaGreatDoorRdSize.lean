/- ref.bare, ref.size, ref.Sound | read.Sound. | ref.size and ref.Sound of any datum. | slices.Equal of limbs, slices.EqualFunc of datums, read.Same | ref.Sound. -/
import Derived.Test.YtbfcbicbeagjkaaGreatDoorRdLeaf
import Derived.Test.YtbfcbicbeagjkaaGreatDoorTkRAtom
import Derived.Test.YtbfcbicbeagjkaaGreatDoorUOne
import Derived.Test.YtbfcbicbeagjkaaGreatDoorRdMath
import Derived.Test.YtbfcbicbeagjkaaGreatDoorUEncMath
import Derived.Test.YtbfcbicbeagjkaaGreatDoorRdLight
import Derived.Deep.QuietTactic
import Derived.BigQuiet
namespace Go.Proofs.YtbfcbicbeagjkaaGreatDoor
open Go.RowKit

def bareA (T N L : Bool) (D : Dm) : Bool := (T || decide (D.t = [])) && (N || blankA D.n D.r) && (L || decide (D.l.length = 0))
set_option maxRecDepth 100000 in
set_option maxHeartbeats 4000000 in
theorem bare_any (T N L : Bool) (D : Dm) (us : List Value) (w : World) (h1 : Lay w D us) :
    Calls Tryz.prog 98 #[.agg us.toArray, .bool T, .bool N, .bool L] w fun e w' => e = .returned (.bool (bareA T N L D)) ∧ Below w.heap.size w w' := by
  obtain ⟨k, t, n, r, l, a⟩ := D
  obtain ⟨lv, av, xs, rfl, _, _, _, hr, hrow1, _⟩ := h1.open'
  simp only [Dm.r, Dm.l] at hr hrow1
  simp only [Dm.k, Dm.t, Dm.n, Dm.a]
  have hmx : l.length ≤ 9223372036854775807 := by have := hrow1.2.1; unfold maxLen at this; omega
  have hmr : r.length ≤ 9223372036854775807 := by have := hr.1; unfold maxLen at this; omega
  obtain ⟨ao, cv0, rfl⟩ : ∃ o c, av = .slice o l.length c := by obtain ⟨_, _, o, c, h, _⟩ := hrow1; exact ⟨o, c, h⟩
  obtain ⟨lo0, lc0, rfl⟩ : ∃ o c, lv = .slice o r.length c := by obtain ⟨_, o, c, h, _⟩ := hr; exact ⟨o, c, h⟩
  clear h1 hr hrow1
  have hb1 := below1 w (.cells #[.int .i64 k, .string (mkB t), .bool n, .slice lo0 r.length lc0, .slice ao l.length cv0, .int .i64 a] 27)
  have HB := Lib.hid hb1
  clear hb1
  show Calls Tryz.prog 98 #[.agg #[.int .i64 k, .string (mkB t), .bool n, .slice lo0 r.length lc0, .slice ao l.length cv0, .int .i64 a], .bool T, .bool N, .bool L] w _
  rcases (by cases T <;> by_cases h : t = [] <;> simp [h] : (T = false ∧ t ≠ []) ∨ (T = false ∧ t = []) ∨ T = true) with ⟨rfl, he⟩ | hA
  · have HV : Hid (bareA false N L (.mk k t n r l a) = false) := Lib.hid (by unfold bareA; simp [Dm.t, he])
    obtain ⟨s1, s2, s3⟩ := nonempty_str he
    clear he
    go_enter Tryz.func98, Tryz.ntmps98
    go_wp2_with fail
    go_ret
    exact ⟨ret_bl (by rw [HV.out]), HB.out⟩
  have HA : Hid ((T || decide (t = [])) = true) := Lib.hid (by rcases hA with ⟨rfl, h⟩ | rfl <;> simp_all)
  rcases (by cases N <;> cases n <;> by_cases h : r.length = 0 <;> simp [h] : (N = false ∧ n = true) ∨ (N = false ∧ n = false ∧ r.length ≠ 0) ∨ (N = false ∧ n = false ∧ r.length = 0) ∨ N = true) with ⟨rfl, rfl⟩ | ⟨rfl, rfl, h0⟩ | hN
  · have HV : Hid (bareA T false L (.mk k t true r l a) = false) := Lib.hid (by unfold bareA blankA; simp [Dm.n])
    rcases hA with ⟨rfl, he⟩ | rfl
    · obtain ⟨s1, s2, s3⟩ := empty_str he
      clear he
      go_enter Tryz.func98, Tryz.ntmps98
      go_wp2_with fail
      go_ret
      exact ⟨ret_bl (by rw [HV.out]), HB.out⟩
    · go_enter Tryz.func98, Tryz.ntmps98
      go_wp2_with fail
      go_ret
      exact ⟨ret_bl (by rw [HV.out]), HB.out⟩
  · have HV : Hid (bareA T false L (.mk k t false r l a) = false) := Lib.hid (by
      have e : bareA T false L (.mk k t false r l a) = ((T || decide (t = [])) && (false || (!false && decide (r.length = 0))) && (L || decide (l.length = 0))) := rfl
      rw [e, decide_eq_false h0]
      simp)
    have hd : (((r.length : Nat) : Int) == 0) = false := by rw [beq_eq_false_iff_ne]; omega
    clear h0
    rcases hA with ⟨rfl, he⟩ | rfl
    · obtain ⟨s1, s2, s3⟩ := empty_str he
      clear he
      go_enter Tryz.func98, Tryz.ntmps98
      go_wp2_with fail
      go_ret
      exact ⟨ret_bl (by rw [HV.out]), HB.out⟩
    · go_enter Tryz.func98, Tryz.ntmps98
      go_wp2_with fail
      go_ret
      exact ⟨ret_bl (by rw [HV.out]), HB.out⟩
  have HN : Hid ((N || blankA n r) = true) := Lib.hid (by unfold blankA; rcases hN with ⟨rfl, rfl, h⟩ | rfl <;> simp_all)
  have HV : Hid (bareA T N L (.mk k t n r l a) = (L || decide (l.length = 0))) := Lib.hid (by
    have e : bareA T N L (.mk k t n r l a) = ((T || decide (t = [])) && (N || blankA n r) && (L || decide (l.length = 0))) := rfl
    rw [e, HA.out, HN.out, Bool.true_and, Bool.true_and])
  have hN' : (N = false ∧ n = false ∧ (((r.length : Nat) : Int) == 0) = true) ∨ N = true := by
    rcases hN with ⟨h1, h2, h3⟩ | h
    · exact .inl ⟨h1, h2, by rw [h3]; rfl⟩
    · exact .inr h
  have hA' : (T = false ∧ ((mkB t).toList = [] ∧ (mkB t).toList.isEmpty = true ∧ ((mkB t).toList == []) = true)) ∨ T = true := by
    rcases hA with ⟨h1, h2⟩ | h
    · exact .inl ⟨h1, empty_str h2⟩
    · exact .inr h
  clear hA hN HA HN
  rcases (by cases L <;> by_cases h : l.length = 0 <;> simp [h] : (L = false ∧ l.length ≠ 0) ∨ (L = false ∧ l.length = 0) ∨ L = true) with ⟨rfl, h0⟩ | ⟨rfl, h0⟩ | rfl
  · have HX : Hid (bareA T N false (.mk k t n r l a) = false) := Lib.hid (by rw [HV.out]; simpa using h0)
    have hd : (((l.length : Nat) : Int) == 0) = false := by rw [beq_eq_false_iff_ne]; omega
    clear h0 HV
    rcases hA' with ⟨rfl, s1, s2, s3⟩ | rfl <;> rcases hN' with ⟨rfl, rfl, hq⟩ | rfl
    all_goals
      go_enter Tryz.func98, Tryz.ntmps98
      go_wp2_with fail
      go_ret
      exact ⟨ret_bl (by rw [HX.out]), HB.out⟩
  · have HX : Hid (bareA T N false (.mk k t n r l a) = true) := Lib.hid (by rw [HV.out]; simpa using h0)
    have hd : (((l.length : Nat) : Int) == 0) = true := by rw [h0]; rfl
    clear h0 HV
    rcases hA' with ⟨rfl, s1, s2, s3⟩ | rfl <;> rcases hN' with ⟨rfl, rfl, hq⟩ | rfl
    all_goals
      go_enter Tryz.func98, Tryz.ntmps98
      go_wp2_with fail
      go_ret
      exact ⟨ret_bl (by rw [HX.out]), HB.out⟩
  · have HX : Hid (bareA T N true (.mk k t n r l a) = true) := Lib.hid (by rw [HV.out]; rfl)
    clear HV
    rcases hA' with ⟨rfl, s1, s2, s3⟩ | rfl <;> rcases hN' with ⟨rfl, rfl, hq⟩ | rfl
    all_goals
      go_enter Tryz.func98, Tryz.ntmps98
      go_wp2_with fail
      go_ret
      exact ⟨ret_bl (by rw [HX.out]), HB.out⟩

set_option maxRecDepth 100000 in
set_option maxHeartbeats 1000000 in
/-- read.Sound. -/
theorem dsound_any (D : Dm) (us : List Value) (w : World) (h1 : Lay w D us) (hsm : Sm 1100000 D) (ht : Tabs w) :
    Calls Tryz.prog 92 #[.agg us.toArray] w fun e w' => e = .returned (.bool (sndD D)) ∧ Below w.heap.size w w' := by
  have HLY := Lib.hid h1
  have HSM := Lib.hid hsm
  have HT := Lib.hid ht
  obtain ⟨k, t, n, r, l, a⟩ := D
  obtain ⟨lv, av, xs, rfl, _, _, _, hr, hrow1, _⟩ := h1.open'
  simp only [Dm.r, Dm.l] at hr hrow1
  simp only [Dm.k, Dm.t, Dm.n, Dm.a] at HLY
  simp only [Dm.k, Dm.t, Dm.n, Dm.a]
  obtain ⟨ao, cv0, rfl⟩ : ∃ o c, av = .slice o l.length c := by obtain ⟨_, _, o, c, h, _⟩ := hrow1; exact ⟨o, c, h⟩
  obtain ⟨lo0, lc0, rfl⟩ : ∃ o c, lv = .slice o r.length c := by obtain ⟨_, o, c, h, _⟩ := hr; exact ⟨o, c, h⟩
  clear h1 hr hrow1 hsm ht
  have hb2 := below2 w (.cells #[.int .i64 k, .string (mkB t), .bool n, .slice lo0 r.length lc0, .slice ao l.length cv0, .int .i64 a] 27) (.cells #[.int .i64 0] 175)
  have HB2 := Lib.hid hb2
  have hck : CkB ((w.alloc (.cells #[.int .i64 k, .string (mkB t), .bool n, .slice lo0 r.length lc0, .slice ao l.length cv0, .int .i64 a] 27)).alloc (.cells #[.int .i64 0] 175)) (w.heap.size + 1) 0 := by
    have := heap_alloc_new (w.alloc (.cells #[.int .i64 k, .string (mkB t), .bool n, .slice lo0 r.length lc0, .slice ao l.length cv0, .int .i64 a] 27)) (.cells #[.int .i64 0] 175)
    simpa [CkB] using this
  have HCK := Lib.hid hck
  clear hb2 hck
  show Calls Tryz.prog 92 #[.agg #[.int .i64 k, .string (mkB t), .bool n, .slice lo0 r.length lc0, .slice ao l.length cv0, .int .i64 a]] w _
  go_enter Tryz.func92, Tryz.ntmps92
  go_wp2_with fail
  have hly2 := (HLY.out.layP.move (Keeps.of_below HB2.out)).mono (Q := fun b => b ≠ w.heap.size + 1) fun b _ hb => by omega
  refine (snd_any w (w.heap.size + 1) _ _ (Nat.le_refl _) HSM.out 64 (Nat.le_refl _) _ _ 0 1 rfl hly2 HCK.out (by omega) ⟨HT.out, HB2.out, by omega⟩).mono ?_
  rintro e w3 ⟨b, c', rfl, hk, _, _, hyes, hno⟩
  have HB3 := Lib.hid (HB2.out.trans (hk.bel.mono (by omega)))
  have HV : Hid (sndD (.mk k t n r l a) = b) := Lib.hid (by
    unfold sndD
    cases b with
    | true =>
      obtain ⟨h1, h2, h3⟩ := hyes rfl
      rw [h1]
      simp
      omega
    | false =>
      rcases hno rfl with h | h
      · rw [h]; rfl
      · rw [Bool.and_eq_false_iff]
        right
        simp
        omega)
  clear hk hyes hno hly2
  go_wp2_with fail
  go_ret
  exact ⟨ret_bl (by rw [HV.out]), HB3.out⟩

/-- What ref.size answers: how many, or too many. -/
noncomputable def sizA (f room : Nat) (D : Dm) : Nat := if okD f D = true ∧ D.sz ≤ room then D.sz else 100000
theorem sizA_yes {f room : Nat} {D : Dm} (h : okD f D = true) (h2 : D.sz ≤ room) : sizA f room D = D.sz := if_pos ⟨h, h2⟩
theorem sizA_no {f room : Nat} {D : Dm} (h : okD f D = false ∨ room < D.sz) : sizA f room D = 100000 := by
  unfold sizA
  refine if_neg fun ⟨h1, h2⟩ => ?_
  rcases h with h | h
  · rw [h] at h1; cases h1
  · omega
end Go.Proofs.YtbfcbicbeagjkaaGreatDoor
namespace Go.Proofs.YtbfcbicbeagjkaaGreatDoor
open Go.RowKit

/-- A text of one character is short. -/
theorem oneT_short {t cs : List Nat} (hby : By t) (h : chars t 0 = (cs, none)) (h1 : cs.length = 1) : t.length ≤ 65536 := by
  obtain ⟨e1, _⟩ := enc_chars hby _ 0 _ (Nat.le_refl _) (Nat.zero_le _) h
  rw [List.drop_zero] at e1
  have := encL_len cs
  rw [e1] at this
  omega
theorem bare_node (D : Dm) : bareA false false true D = (decide (D.t = []) && blankA D.n D.r) := by simp [bareA]
theorem bare_txt (D : Dm) : bareA true false false D = (blankA D.n D.r && decide (D.l.length = 0)) := by simp [bareA]
theorem bare_num (D : Dm) : bareA false true false D = (decide (D.t = []) && decide (D.l.length = 0)) := by simp [bareA]
theorem bare_none (D : Dm) : bareA false false false D = (decide (D.t = []) && blankA D.n D.r && decide (D.l.length = 0)) := by simp [bareA]
def RsPost (f room : Nat) (D : Dm) (w : World) (e : Ending) (w' : World) : Prop := e = .returned (.int .i64 ((sizA f room D : Nat) : Int)) ∧ Below w.heap.size w w'
theorem RsPost.bad {f room : Nat} {D : Dm} {w w' : World} (h : okD f D = false ∨ room < D.sz) (hb : Below w.heap.size w w') : RsPost f room D w (.returned (.int .i64 100000)) w' := ⟨by rw [sizA_no h]; rfl, hb⟩
theorem RsPost.ok {f room s : Nat} {D : Dm} {w w' : World} (h : okD f D = true) (h2 : D.sz ≤ room) (hs : s = D.sz) (hb : Below w.heap.size w w') : RsPost f room D w (.returned (.int .i64 ((s : Nat) : Int))) w' := ⟨by rw [sizA_yes h h2, hs], hb⟩
theorem RsPost.one {f room : Nat} {D : Dm} {w w' : World} (h : okD f D = true) (hr : 1 ≤ room) (hs : D.sz = 1) (hb : Below w.heap.size w w') : RsPost f room D w (.returned (.int .i64 1)) w' := ⟨by rw [sizA_yes h (by omega), hs]; rfl, hb⟩
theorem lenA_ok {t cs : List Nat} (h : chars t 0 = (cs, none)) : lenA t = if 65536 < t.length then none else some cs.length := by unfold lenA; rw [h]; simp
theorem lenA_bad {t : List Nat} {k : Nat} (h : (chars t 0).2 = some k) : lenA t = none := by unfold lenA; rw [h]; simp
/-- What the walk of a leaf needs. -/
structure Lf (w : World) (k : Int) (t : List Nat) (n : Bool) (lo : Option Addr) (r : List Nat) (lc : Nat) (ao : Option Addr) (l : List Dm) (cv : Nat) (a : Int) (W : World) : Prop where
  bel : Below w.heap.size w W
  box : W.heap[w.heap.size]? = some (.cells #[.int .i64 k, .string (mkB t), .bool n, .slice lo r.length lc, .slice ao l.length cv, .int .i64 a] 27 (0, 0))
theorem Lf.step {w : World} {k : Int} {t : List Nat} {n : Bool} {lo : Option Addr} {r : List Nat} {lc : Nat} {ao : Option Addr} {l : List Dm} {cv : Nat} {a : Int} {W W' : World} (h : Lf w k t n lo r lc ao l cv a W) (hb : Below W.heap.size W W') : Lf w k t n lo r lc ao l cv a W' :=
  ⟨h.bel.trans (hb.mono h.bel.size), (hb.block _ (Array.getElem?_eq_some_iff.1 h.box).1).trans h.box⟩

set_option maxRecDepth 100000 in
set_option maxHeartbeats 8000000 in
theorem rsize_any : ∀ (m : Nat) (D : Dm), D.sz ≤ m → Sm 1100000 D → ∀ (f room : Nat), f ≤ 64 → room ≤ 8192 → ∀ (us : List Value) (w : World) (dp : Int), dp = 65 - (f : Int) → Lay w D us →
    Calls Tryz.prog 58 #[.agg us.toArray, .int .i64 dp, .int .i64 ((room : Nat) : Int)] w (RsPost f room D w) := by
  intro m
  induction m with
  | zero => intro D h; have := Dm.sz_eq D; omega
  | succ m ih =>
    intro D hsz hsm f room hf hroom us w dp hdp h1
    have HIH := Lib.hid ih
    clear ih
    have HLY := Lib.hid h1
    have HPOS := Lib.hid (sz_pos D)
    obtain ⟨k, t, n, r, l, a⟩ := D
    have HSZ : Hid (∀ (j : Nat) (h : j < l.length), (l[j]'h).sz ≤ m) := Lib.hid fun j h => by
      have := Dm.sz_mem (d := .mk k t n r l a) (x := l[j]) (List.getElem_mem h)
      omega
    have HSN : Hid ((Dm.mk k t n r l a).sz = 1 + szs l l.length) := Lib.hid sz_node
    obtain ⟨hs1, _, hs3, hs4⟩ := hsm.open'
    have HSM := Lib.hid hs4
    obtain ⟨lv, av, xs, rfl, hby, _, hlim, hr, hrow1, hin1⟩ := h1.open'
    simp only [Dm.k, Dm.t, Dm.n, Dm.r, Dm.l, Dm.a] at hby hlim hr hrow1 hin1 HLY
    simp only [Dm.k, Dm.t, Dm.n, Dm.a]
    have HBY := Lib.hid hby
    have HTL : Hid (t.length ≤ 1100000) := Lib.hid hs1
    have HLIM := Lib.hid hlim
    have HR := Lib.hid hr
    have HRW := Lib.hid hrow1
    have HIN := Lib.hid hin1
    have HLL := Lib.hid hs3
    obtain ⟨ao, cv0, rfl⟩ : ∃ o c, av = .slice o l.length c := by obtain ⟨_, _, o, c, h, _⟩ := hrow1; exact ⟨o, c, h⟩
    obtain ⟨lo0, lc0, rfl⟩ : ∃ o c, lv = .slice o r.length c := by obtain ⟨_, o, c, h, _⟩ := hr; exact ⟨o, c, h⟩
    clear h1 hby hlim hr hrow1 hin1 hsz hsm hs1 hs3 hs4
    have HX : Hid (Lf w k t n lo0 r lc0 ao l cv0 a (w.alloc (.cells #[.int .i64 k, .string (mkB t), .bool n, .slice lo0 r.length lc0, .slice ao l.length cv0, .int .i64 a] 27))) := Lib.hid ⟨below1 w _, box1 w _ _⟩
    show Calls Tryz.prog 58 #[.agg #[.int .i64 k, .string (mkB t), .bool n, .slice lo0 r.length lc0, .slice ao l.length cv0, .int .i64 a], .int .i64 dp, .int .i64 ((room : Nat) : Int)] w _
    rcases Nat.eq_zero_or_pos f with hf0 | hf0
    · subst hf0
      have hd : decide ((64 : Int) < dp) = true := by simp; omega
      clear hdp hf hroom
      go_enter Tryz.func58, Tryz.ntmps58
      go_wp2_with fail
      go_ret
      exact RsPost.bad (.inl (okD_zero _)) HX.out.bel
    obtain ⟨f, rfl⟩ : ∃ f', f = f' + 1 := ⟨f - 1, by omega⟩
    have hd : decide ((64 : Int) < dp) = false := by simp; omega
    have HDP2 : Hid (dp + 1 = 65 - (f : Int) ∧ f ≤ 64) := Lib.hid (by omega)
    have hcw : (-1000 : Int) ≤ dp ∧ dp ≤ 1000 := by omega
    clear hdp hf hf0
    rcases Nat.eq_zero_or_pos room with hr0 | hr0
    · subst hr0
      go_enter Tryz.func58, Tryz.ntmps58
      go_wp2_with fail
      go_ret
      exact RsPost.bad (.inr HPOS.out) HX.out.bel
    have hd1 : decide (((room : Nat) : Int) < 1) = false := by simp; omega
    have HRM : Hid (1 ≤ room) := Lib.hid hr0
    clear hr0
    obtain ⟨a0, a1, a2, a3, a4, a5⟩ := row6 HX.out.box
    by_cases hk : k = 1 ∨ k = 2 ∨ k = 3
    · have HNODE := Lib.hid (okD_node (f := f) (t := t) (n := n) (r := r) (l := l) (a := a) hk)
      rcases hk with rfl | rfl | rfl
      · go_enter Tryz.func58, Tryz.ntmps58
        go_wp2_with fail
        refine (bare_any false false true (.mk _ t n r l a) [_, _, _, _, _, _] _ (HLY.out.keep HX.out.bel)).mono ?_
        rintro e w3 ⟨rfl, hb3⟩
        have HX3 := Lib.hid (HX.out.step hb3)
        clear hb3 a0 a1 a2 a3 a4 a5
        obtain ⟨a0, a1, a2, a3, a4, a5⟩ := row6 HX3.out.box
        generalize hbr : bareA false false true (Dm.mk _ t n r l a) = bb
        have HBR : Hid ((decide (t = []) && blankA n r) = bb) := Lib.hid ((bare_node _).symm.trans hbr)
        clear hbr
        cases bb with
        | false =>
          go_wp2_with fail
          go_ret
          exact RsPost.bad (.inl (by rw [HNODE.out, HBR.out]; rfl)) HX3.out.bel
        | true =>
          go_wp2_with fail
          clear a0 a1 a2 a3 a4 a5
          go_loopw [8, 9] (fun v i wr => ∃ j cc : Nat, i = .int .i64 (j : Nat) ∧ v = .int .i64 (cc : Nat) ∧ j ≤ l.length ∧ cc = 1 + szs l j ∧ cc ≤ room ∧ (∀ (q : Nat) (h : q < l.length), q < j → okD f (l[q]'h) = true) ∧ Below w3.heap.size w3 wr) (fun _ i _ => l.length - (intOf i).toNat)
          case atStart => exact ⟨0, 1, rfl, rfl, Nat.zero_le _, by rw [szs_zero], HRM.out, fun q _ h => by omega, Below.refl _ _⟩
          case round =>
            obtain ⟨j, cc, rfl, rfl, hj, hcc, hcr, hall, hbel⟩ := hrel
            have HXR := Lib.hid (HX3.out.step hbel)
            have HCC := Lib.hid hcc
            have HALL := Lib.hid hall
            have HBL := Lib.hid hbel
            have hll := HLL.out
            clear hcc hall hbel
            obtain ⟨a0, a1, a2, a3, a4, a5⟩ := row6 HXR.out.box
            by_cases hjl : j < l.length
            · have hii : ((j : Nat) : Int) < ((l.length : Nat) : Int) := by omega
              obtain ⟨b, off, cap, v0, v1, v2, v3, v4, v5, hav, _, _, hly, p0, p1, p2, p3, p4, p5⟩ := row_datum (HRW.out.below HXR.out.bel) (fun j h => (HIN.out j h).keep HXR.out.bel) hjl
              simp only [Value.slice.injEq, true_and] at hav
              obtain ⟨rfl, rfl⟩ := hav
              have HY1 := Lib.hid hly
              obtain ⟨_, _, _, e1, _⟩ := hly.open'
              clear hly e1
              have hsub : ((room : Nat) : Int) - ((cc : Nat) : Int) = ((room - cc : Nat) : Int) := by omega
              go_wp2_with fail
              clear p0 p1 p2 p3 p4 p5 a0 a1 a2 a3 a4 a5
              refine (HIH.out (l[j]'hjl) (HSZ.out j hjl) (HSM.out j hjl) f (room - cc) HDP2.out.2 (by omega) [v0, v1, v2, v3, v4, v5] _ _ HDP2.out.1 HY1.out).mono ?_
              rintro e w4 ⟨rfl, hb4⟩
              have HX4 := Lib.hid (HXR.out.step hb4)
              have HB4 := Lib.hid (HBL.out.trans (hb4.mono HBL.out.size))
              clear hb4
              by_cases hok : okD f (l[j]'hjl) = true ∧ (l[j]'hjl).sz ≤ room - cc
              · rw [sizA_yes hok.1 hok.2]
                have HS1 := Lib.hid (szs_succ hjl)
                have HOK := Lib.hid hok
                clear hok
                obtain ⟨sj, hsj⟩ : ∃ s, (l[j]'hjl).sz = s := ⟨_, rfl⟩
                rw [hsj]
                have hsr : cc + sj ≤ room := by have := HOK.out.2; omega
                have hdl : decide (((room : Nat) : Int) < ((cc : Nat) : Int) + ((sj : Nat) : Int)) = false := by rw [decide_eq_false_iff_not]; omega
                have HSJ := Lib.hid hsj
                clear hsj
                go_wp2_with fail
                go_roundw
                case measure => simp only [intOf]; omega
                case rel =>
                  refine ⟨j + 1, cc + sj, by go_num, by go_num, by omega, by rw [HS1.out, HCC.out, HSJ.out]; omega, hsr, fun q h hq => ?_, HB4.out⟩
                  rcases Nat.lt_or_eq_of_le (Nat.le_of_lt_succ hq) with h2 | h2
                  · exact HALL.out q h h2
                  · subst h2; exact HOK.out.1
              · have hno : okD f (l[j]'hjl) = false ∨ room - cc < (l[j]'hjl).sz := by
                  rcases hc : okD f (l[j]'hjl) with _ | _
                  · exact .inl rfl
                  · right
                    have : ¬ (l[j]'hjl).sz ≤ room - cc := fun h => hok ⟨hc, h⟩
                    omega
                rw [sizA_no hno]
                have HNO := Lib.hid hno
                clear hok hno
                have hdl : decide (((room : Nat) : Int) < ((cc : Nat) : Int) + 100000) = true := by rw [decide_eq_true_iff]; omega
                have hdl2 : decide (((room : Nat) : Int) < ((cc : Nat) : Int) + ((100000 : Nat) : Int)) = true := by rw [decide_eq_true_iff]; omega
                go_wp2_with fail
                go_ret
                refine RsPost.bad ?_ HX4.out.bel
                rcases HNO.out with h | h
                · exact .inl (by rw [HNODE.out, all_not hjl h, Bool.and_false])
                · right
                  have h1 := szs_succ hjl
                  have h2 := szs_mono (l := l) (Nat.succ_le_of_lt hjl) (Nat.le_refl _)
                  have h3 := HCC.out
                  have h4 := HSN.out
                  simp only [Nat.succ_eq_add_one] at h2
                  omega
            · obtain rfl : j = l.length := by omega
              have HA := Lib.hid (all_upto (p := okD f) fun j h => HALL.out j h h)
              have HXX := Lib.hid HXR.out.bel
              go_wp2_with fail
              go_ret
              exact RsPost.ok (by rw [HNODE.out, HBR.out, HA.out, endA_no (by omega)]; rfl) (by rw [HSN.out]; have := HCC.out; omega) (by rw [HSN.out]; exact HCC.out) HXX.out
      · go_enter Tryz.func58, Tryz.ntmps58
        go_wp2_with fail
        refine (bare_any false false true (.mk _ t n r l a) [_, _, _, _, _, _] _ (HLY.out.keep HX.out.bel)).mono ?_
        rintro e w3 ⟨rfl, hb3⟩
        have HX3 := Lib.hid (HX.out.step hb3)
        clear hb3 a0 a1 a2 a3 a4 a5
        obtain ⟨a0, a1, a2, a3, a4, a5⟩ := row6 HX3.out.box
        generalize hbr : bareA false false true (Dm.mk _ t n r l a) = bb
        have HBR : Hid ((decide (t = []) && blankA n r) = bb) := Lib.hid ((bare_node _).symm.trans hbr)
        clear hbr
        cases bb with
        | false =>
          go_wp2_with fail
          go_ret
          exact RsPost.bad (.inl (by rw [HNODE.out, HBR.out]; rfl)) HX3.out.bel
        | true =>
          go_wp2_with fail
          clear a0 a1 a2 a3 a4 a5
          go_loopw [8, 9] (fun v i wr => ∃ j cc : Nat, i = .int .i64 (j : Nat) ∧ v = .int .i64 (cc : Nat) ∧ j ≤ l.length ∧ cc = 1 + szs l j ∧ cc ≤ room ∧ (∀ (q : Nat) (h : q < l.length), q < j → okD f (l[q]'h) = true) ∧ Below w3.heap.size w3 wr) (fun _ i _ => l.length - (intOf i).toNat)
          case atStart => exact ⟨0, 1, rfl, rfl, Nat.zero_le _, by rw [szs_zero], HRM.out, fun q _ h => by omega, Below.refl _ _⟩
          case round =>
            obtain ⟨j, cc, rfl, rfl, hj, hcc, hcr, hall, hbel⟩ := hrel
            have HXR := Lib.hid (HX3.out.step hbel)
            have HCC := Lib.hid hcc
            have HALL := Lib.hid hall
            have HBL := Lib.hid hbel
            have hll := HLL.out
            clear hcc hall hbel
            obtain ⟨a0, a1, a2, a3, a4, a5⟩ := row6 HXR.out.box
            by_cases hjl : j < l.length
            · have hii : ((j : Nat) : Int) < ((l.length : Nat) : Int) := by omega
              obtain ⟨b, off, cap, v0, v1, v2, v3, v4, v5, hav, _, _, hly, p0, p1, p2, p3, p4, p5⟩ := row_datum (HRW.out.below HXR.out.bel) (fun j h => (HIN.out j h).keep HXR.out.bel) hjl
              simp only [Value.slice.injEq, true_and] at hav
              obtain ⟨rfl, rfl⟩ := hav
              have HY1 := Lib.hid hly
              obtain ⟨_, _, _, e1, _⟩ := hly.open'
              clear hly e1
              have hsub : ((room : Nat) : Int) - ((cc : Nat) : Int) = ((room - cc : Nat) : Int) := by omega
              go_wp2_with fail
              clear p0 p1 p2 p3 p4 p5 a0 a1 a2 a3 a4 a5
              refine (HIH.out (l[j]'hjl) (HSZ.out j hjl) (HSM.out j hjl) f (room - cc) HDP2.out.2 (by omega) [v0, v1, v2, v3, v4, v5] _ _ HDP2.out.1 HY1.out).mono ?_
              rintro e w4 ⟨rfl, hb4⟩
              have HX4 := Lib.hid (HXR.out.step hb4)
              have HB4 := Lib.hid (HBL.out.trans (hb4.mono HBL.out.size))
              clear hb4
              by_cases hok : okD f (l[j]'hjl) = true ∧ (l[j]'hjl).sz ≤ room - cc
              · rw [sizA_yes hok.1 hok.2]
                have HS1 := Lib.hid (szs_succ hjl)
                have HOK := Lib.hid hok
                clear hok
                obtain ⟨sj, hsj⟩ : ∃ s, (l[j]'hjl).sz = s := ⟨_, rfl⟩
                rw [hsj]
                have hsr : cc + sj ≤ room := by have := HOK.out.2; omega
                have hdl : decide (((room : Nat) : Int) < ((cc : Nat) : Int) + ((sj : Nat) : Int)) = false := by rw [decide_eq_false_iff_not]; omega
                have HSJ := Lib.hid hsj
                clear hsj
                go_wp2_with fail
                go_roundw
                case measure => simp only [intOf]; omega
                case rel =>
                  refine ⟨j + 1, cc + sj, by go_num, by go_num, by omega, by rw [HS1.out, HCC.out, HSJ.out]; omega, hsr, fun q h hq => ?_, HB4.out⟩
                  rcases Nat.lt_or_eq_of_le (Nat.le_of_lt_succ hq) with h2 | h2
                  · exact HALL.out q h h2
                  · subst h2; exact HOK.out.1
              · have hno : okD f (l[j]'hjl) = false ∨ room - cc < (l[j]'hjl).sz := by
                  rcases hc : okD f (l[j]'hjl) with _ | _
                  · exact .inl rfl
                  · right
                    have : ¬ (l[j]'hjl).sz ≤ room - cc := fun h => hok ⟨hc, h⟩
                    omega
                rw [sizA_no hno]
                have HNO := Lib.hid hno
                clear hok hno
                have hdl : decide (((room : Nat) : Int) < ((cc : Nat) : Int) + 100000) = true := by rw [decide_eq_true_iff]; omega
                have hdl2 : decide (((room : Nat) : Int) < ((cc : Nat) : Int) + ((100000 : Nat) : Int)) = true := by rw [decide_eq_true_iff]; omega
                go_wp2_with fail
                go_ret
                refine RsPost.bad ?_ HX4.out.bel
                rcases HNO.out with h | h
                · exact .inl (by rw [HNODE.out, all_not hjl h, Bool.and_false])
                · right
                  have h1 := szs_succ hjl
                  have h2 := szs_mono (l := l) (Nat.succ_le_of_lt hjl) (Nat.le_refl _)
                  have h3 := HCC.out
                  have h4 := HSN.out
                  simp only [Nat.succ_eq_add_one] at h2
                  omega
            · obtain rfl : j = l.length := by omega
              have HA := Lib.hid (all_upto (p := okD f) fun j h => HALL.out j h h)
              have HXX := Lib.hid HXR.out.bel
              rcases Nat.lt_or_ge l.length 2 with hl2 | hl2
              · have hd2 : decide (((l.length : Nat) : Int) < 2) = true := by simp; omega
                have HE := Lib.hid (endA_short hl2)
                clear hl2
                go_wp2_with fail
                go_ret
                exact RsPost.bad (.inl (by rw [HNODE.out, HE.out]; simp)) HXX.out
              · have hd2 : decide (((l.length : Nat) : Int) < 2) = false := by simp; omega
                have HE := Lib.hid (endA_long hl2)
                obtain ⟨b, off, cap, hav, hcap, hlt, p0⟩ := last_kind (HRW.out.below HXR.out.bel) (fun j h => (HIN.out j h).keep HXR.out.bel) hl2
                simp only [Value.slice.injEq, true_and] at hav
                obtain ⟨rfl, rfl⟩ := hav
                by_cases e1 : (l[l.length - 1]'(by omega)).k = 1
                · have HE1 := Lib.hid e1
                  rw [e1] at p0
                  clear e1
                  go_wp2_with fail
                  go_ret
                  exact RsPost.bad (.inl (by rw [HNODE.out, HE.out, HE1.out]; simp)) HXX.out
                · by_cases e2 : (l[l.length - 1]'(by omega)).k = 2
                  · have HE1 := Lib.hid e2
                    rw [e2] at p0
                    clear e1 e2
                    go_wp2_with fail
                    go_ret
                    exact RsPost.bad (.inl (by rw [HNODE.out, HE.out, HE1.out]; simp)) HXX.out
                  · have HE1 : Hid (decide ((l[l.length - 1]'(by omega)).k = 1 ∨ (l[l.length - 1]'(by omega)).k = 2) = false) := Lib.hid (by simp [e1, e2])
                    have q1 : ((l[l.length - 1]'(by omega)).k == 1) = false := by rw [beq_eq_false_iff_ne]; exact e1
                    have q2 : ((l[l.length - 1]'(by omega)).k == 2) = false := by rw [beq_eq_false_iff_ne]; exact e2
                    clear e1 e2
                    generalize (l[l.length - 1]'(by omega)).k = kk at *
                    go_wp2_with fail
                    go_ret
                    exact RsPost.ok (by rw [HNODE.out, HBR.out, HA.out, HE.out, HE1.out]; rfl) (by rw [HSN.out]; have := HCC.out; omega) (by rw [HSN.out]; exact HCC.out) HXX.out
      · go_enter Tryz.func58, Tryz.ntmps58
        go_wp2_with fail
        refine (bare_any false false true (.mk _ t n r l a) [_, _, _, _, _, _] _ (HLY.out.keep HX.out.bel)).mono ?_
        rintro e w3 ⟨rfl, hb3⟩
        have HX3 := Lib.hid (HX.out.step hb3)
        clear hb3 a0 a1 a2 a3 a4 a5
        obtain ⟨a0, a1, a2, a3, a4, a5⟩ := row6 HX3.out.box
        generalize hbr : bareA false false true (Dm.mk _ t n r l a) = bb
        have HBR : Hid ((decide (t = []) && blankA n r) = bb) := Lib.hid ((bare_node _).symm.trans hbr)
        clear hbr
        cases bb with
        | false =>
          go_wp2_with fail
          go_ret
          exact RsPost.bad (.inl (by rw [HNODE.out, HBR.out]; rfl)) HX3.out.bel
        | true =>
          go_wp2_with fail
          clear a0 a1 a2 a3 a4 a5
          go_loopw [8, 9] (fun v i wr => ∃ j cc : Nat, i = .int .i64 (j : Nat) ∧ v = .int .i64 (cc : Nat) ∧ j ≤ l.length ∧ cc = 1 + szs l j ∧ cc ≤ room ∧ (∀ (q : Nat) (h : q < l.length), q < j → okD f (l[q]'h) = true) ∧ Below w3.heap.size w3 wr) (fun _ i _ => l.length - (intOf i).toNat)
          case atStart => exact ⟨0, 1, rfl, rfl, Nat.zero_le _, by rw [szs_zero], HRM.out, fun q _ h => by omega, Below.refl _ _⟩
          case round =>
            obtain ⟨j, cc, rfl, rfl, hj, hcc, hcr, hall, hbel⟩ := hrel
            have HXR := Lib.hid (HX3.out.step hbel)
            have HCC := Lib.hid hcc
            have HALL := Lib.hid hall
            have HBL := Lib.hid hbel
            have hll := HLL.out
            clear hcc hall hbel
            obtain ⟨a0, a1, a2, a3, a4, a5⟩ := row6 HXR.out.box
            by_cases hjl : j < l.length
            · have hii : ((j : Nat) : Int) < ((l.length : Nat) : Int) := by omega
              obtain ⟨b, off, cap, v0, v1, v2, v3, v4, v5, hav, _, _, hly, p0, p1, p2, p3, p4, p5⟩ := row_datum (HRW.out.below HXR.out.bel) (fun j h => (HIN.out j h).keep HXR.out.bel) hjl
              simp only [Value.slice.injEq, true_and] at hav
              obtain ⟨rfl, rfl⟩ := hav
              have HY1 := Lib.hid hly
              obtain ⟨_, _, _, e1, _⟩ := hly.open'
              clear hly e1
              have hsub : ((room : Nat) : Int) - ((cc : Nat) : Int) = ((room - cc : Nat) : Int) := by omega
              go_wp2_with fail
              clear p0 p1 p2 p3 p4 p5 a0 a1 a2 a3 a4 a5
              refine (HIH.out (l[j]'hjl) (HSZ.out j hjl) (HSM.out j hjl) f (room - cc) HDP2.out.2 (by omega) [v0, v1, v2, v3, v4, v5] _ _ HDP2.out.1 HY1.out).mono ?_
              rintro e w4 ⟨rfl, hb4⟩
              have HX4 := Lib.hid (HXR.out.step hb4)
              have HB4 := Lib.hid (HBL.out.trans (hb4.mono HBL.out.size))
              clear hb4
              by_cases hok : okD f (l[j]'hjl) = true ∧ (l[j]'hjl).sz ≤ room - cc
              · rw [sizA_yes hok.1 hok.2]
                have HS1 := Lib.hid (szs_succ hjl)
                have HOK := Lib.hid hok
                clear hok
                obtain ⟨sj, hsj⟩ : ∃ s, (l[j]'hjl).sz = s := ⟨_, rfl⟩
                rw [hsj]
                have hsr : cc + sj ≤ room := by have := HOK.out.2; omega
                have hdl : decide (((room : Nat) : Int) < ((cc : Nat) : Int) + ((sj : Nat) : Int)) = false := by rw [decide_eq_false_iff_not]; omega
                have HSJ := Lib.hid hsj
                clear hsj
                go_wp2_with fail
                go_roundw
                case measure => simp only [intOf]; omega
                case rel =>
                  refine ⟨j + 1, cc + sj, by go_num, by go_num, by omega, by rw [HS1.out, HCC.out, HSJ.out]; omega, hsr, fun q h hq => ?_, HB4.out⟩
                  rcases Nat.lt_or_eq_of_le (Nat.le_of_lt_succ hq) with h2 | h2
                  · exact HALL.out q h h2
                  · subst h2; exact HOK.out.1
              · have hno : okD f (l[j]'hjl) = false ∨ room - cc < (l[j]'hjl).sz := by
                  rcases hc : okD f (l[j]'hjl) with _ | _
                  · exact .inl rfl
                  · right
                    have : ¬ (l[j]'hjl).sz ≤ room - cc := fun h => hok ⟨hc, h⟩
                    omega
                rw [sizA_no hno]
                have HNO := Lib.hid hno
                clear hok hno
                have hdl : decide (((room : Nat) : Int) < ((cc : Nat) : Int) + 100000) = true := by rw [decide_eq_true_iff]; omega
                have hdl2 : decide (((room : Nat) : Int) < ((cc : Nat) : Int) + ((100000 : Nat) : Int)) = true := by rw [decide_eq_true_iff]; omega
                go_wp2_with fail
                go_ret
                refine RsPost.bad ?_ HX4.out.bel
                rcases HNO.out with h | h
                · exact .inl (by rw [HNODE.out, all_not hjl h, Bool.and_false])
                · right
                  have h1 := szs_succ hjl
                  have h2 := szs_mono (l := l) (Nat.succ_le_of_lt hjl) (Nat.le_refl _)
                  have h3 := HCC.out
                  have h4 := HSN.out
                  simp only [Nat.succ_eq_add_one] at h2
                  omega
            · obtain rfl : j = l.length := by omega
              have HA := Lib.hid (all_upto (p := okD f) fun j h => HALL.out j h h)
              have HXX := Lib.hid HXR.out.bel
              go_wp2_with fail
              go_ret
              exact RsPost.ok (by rw [HNODE.out, HBR.out, HA.out, endA_no (by omega)]; rfl) (by rw [HSN.out]; have := HCC.out; omega) (by rw [HSN.out]; exact HCC.out) HXX.out
    have d1 : (k == 1) = false := by rw [beq_eq_false_iff_ne]; omega
    have d2 : (k == 2) = false := by rw [beq_eq_false_iff_ne]; omega
    have d3 : (k == 3) = false := by rw [beq_eq_false_iff_ne]; omega
    have HSMK := Lib.hid (byt_mk HBY.out)
    by_cases h7 : k = 7
    · subst h7
      have HLEAF := Lib.hid (okD_int (f := f) (t := t) (n := n) (r := r) (l := l) (a := a))
      clear hk d1 d2 d3
      go_enter Tryz.func58, Tryz.ntmps58
      go_wp2_with fail
      refine (rsound_any n _ r _ (HR.out.below HX.out.bel) HLIM.out).mono ?_
      rintro e w3 ⟨rfl, hb3⟩
      have HX3 := Lib.hid (HX.out.step hb3)
      clear hb3 a0 a1 a2 a3 a4 a5
      obtain ⟨a0, a1, a2, a3, a4, a5⟩ := row6 HX3.out.box
      cases hsn : sndB n r with
      | false =>
        have HW := Lib.hid hsn
        clear hsn
        go_wp2_with fail
        go_ret
        exact RsPost.bad (.inl (by rw [HLEAF.out, HW.out]; simp)) HX3.out.bel
      | true =>
        have HW := Lib.hid hsn
        clear hsn
        go_wp2_with fail
        refine (bare_any false true false (.mk _ t n r l a) [_, _, _, _, _, _] _ (HLY.out.keep HX3.out.bel)).mono ?_
        rintro e w9 ⟨rfl, hb9⟩
        have HX9 := Lib.hid (HX3.out.step hb9)
        generalize hbr : bareA false true false (Dm.mk _ t n r l a) = bb
        have HBR : Hid ((decide (t = []) && decide (l.length = 0)) = bb) := Lib.hid ((bare_num _).symm.trans hbr)
        clear hbr hb9 a0 a1 a2 a3 a4 a5
        cases bb with
        | false =>
          go_wp2_with fail
          go_ret
          exact RsPost.bad (.inl (by rw [HLEAF.out]; rw [HW.out, Bool.and_true, HBR.out])) HX9.out.bel
        | true =>
          go_wp2_with fail
          go_ret
          exact RsPost.one (by rw [HLEAF.out]; rw [HW.out, Bool.and_true, HBR.out]) HRM.out (by rw [HSN.out]; have h9 := HBR.out; rw [Bool.and_eq_true] at h9; have h8 := of_decide_eq_true h9.2; rw [h8, szs_zero]) HX9.out.bel
    have HLEAF := Lib.hid (okD_leaf (f := f) (t := t) (n := n) (r := r) (l := l) (a := a) hk h7)
    have d7 : (k == 7) = false := by rw [beq_eq_false_iff_ne]; omega
    by_cases h4 : k = 4
    · subst h4
      have HV := Lib.hid (wrtA_sym t)
      clear hk h7 d1 d2 d3 d7
      go_enter Tryz.func58, Tryz.ntmps58
      go_wp2_with fail
      refine (ratom_any (mkB t) _ (by rw [mkB_size]; have := HTL.out; omega)).mono ?_
      rintro e w1 ⟨lv, rfl, hlv, hb⟩
      rw [HSMK.out] at hlv
      rw [HSMK.out]
      obtain ⟨_, ao1, cv1, rfl, _, _⟩ := hlv
      have HX1 := Lib.hid (HX.out.step hb)
      clear hb a0 a1 a2 a3 a4 a5
      unfold dtV
      cases ha : atmA t with
      | none =>
        have HS : Hid (symbA t = false) := Lib.hid (by unfold symbA; rw [ha])
        have HX2 := Lib.hid (HX1.out.step (below1 w1 (.cells #[.int .i64 ((zD.k : Nat) : Int), .string (mkB zD.t), .bool zD.n, .slice ao1 zD.r.length cv1, .slice none 0 0, .int .i64 ((0 : Nat) : Int)] 27)))
        clear ha
        simp only [Option.getD_none, Option.isSome_none]
        go_wp2_with fail
        go_ret
        exact RsPost.bad (.inl (by rw [HLEAF.out, HV.out, HS.out]; simp)) HX2.out.bel
      | some d =>
        have HS : Hid (symbA t = decide (d.k = 4)) := Lib.hid (by unfold symbA; rw [ha])
        have HX2 := Lib.hid (HX1.out.step (below1 w1 (.cells #[.int .i64 ((d.k : Nat) : Int), .string (mkB d.t), .bool d.n, .slice ao1 d.r.length cv1, .slice none 0 0, .int .i64 0] 27)))
        have r0 := row6 (box1 w1 #[.int .i64 ((d.k : Nat) : Int), .string (mkB d.t), .bool d.n, .slice ao1 d.r.length cv1, .slice none 0 0, .int .i64 0] 27)
        obtain ⟨b0, b1, b2, b3, b4, b5⟩ := r0
        obtain ⟨a0, a1, a2, a3, a4, a5⟩ := row6 HX2.out.box
        clear ha
        simp only [Option.getD_some, Option.isSome_some]
        by_cases hd4 : d.k = 4
        · have HW : Hid (wrtA 4 t = true) := Lib.hid (by rw [HV.out, HS.out]; simp [hd4])
          have hq : (((d.k : Nat) : Int) == 4) = true := by rw [hd4]; rfl
          clear hd4
          go_wp2_with fail
          refine (bare_any true false false (.mk _ t n r l a) [_, _, _, _, _, _] _ (HLY.out.keep HX2.out.bel)).mono ?_
          rintro e w9 ⟨rfl, hb9⟩
          have HX9 := Lib.hid (HX2.out.step hb9)
          generalize hbr : bareA true false false (Dm.mk _ t n r l a) = bb
          have HBR : Hid ((blankA n r && decide (l.length = 0)) = bb) := Lib.hid ((bare_txt _).symm.trans hbr)
          clear hbr hb9 a0 a1 a2 a3 a4 a5 b0 b1 b2 b3 b4 b5
          cases bb with
          | false =>
            go_wp2_with fail
            go_ret
            exact RsPost.bad (.inl (by rw [HLEAF.out]; rw [Bool.and_assoc, HBR.out, Bool.and_false])) HX9.out.bel
          | true =>
            go_wp2_with fail
            go_ret
            exact RsPost.one (by rw [HLEAF.out]; rw [Bool.and_assoc, HBR.out, HW.out]; rfl) HRM.out (by rw [HSN.out]; have h9 := HBR.out; rw [Bool.and_eq_true] at h9; have h8 := of_decide_eq_true h9.2; rw [h8, szs_zero]) HX9.out.bel
        · have HW : Hid (wrtA 4 t = false) := Lib.hid (by rw [HV.out, HS.out]; simp [hd4])
          have hq : (((d.k : Nat) : Int) == 4) = false := by rw [beq_eq_false_iff_ne]; omega
          clear hd4
          go_wp2_with fail
          go_ret
          exact RsPost.bad (.inl (by rw [HLEAF.out, HW.out]; simp)) HX2.out.bel
    have d4 : (k == 4) = false := by rw [beq_eq_false_iff_ne]; exact h4
    by_cases h5 : k = 5
    · subst h5
      have HV := Lib.hid (wrtA_str t)
      clear hk h7 d1 d2 d3 d7 h4 d4
      go_enter Tryz.func58, Tryz.ntmps58
      have hconv := run_bytes_of_string (P := Tryz.prog) (w.alloc (.cells #[.int .i64 5, .string (mkB t), .bool n, .slice lo0 r.length lc0, .slice ao l.length cv0, .int .i64 a] 27)) 9 80 5 (mkB t) Tryz.underlying9 Tryz.underlying80 Tryz.underlying5
      have hcap := grownCap_ge (w.alloc (.cells #[.int .i64 5, .string (mkB t), .bool n, .slice lo0 r.length lc0, .slice ao l.length cv0, .int .i64 a] 27)) (mkB t).size 0 5
      simp only [World.size_alloc] at hconv
      go_wp2_with fail
      generalize hG : grownCap (w.alloc (.cells #[.int .i64 5, .string (mkB t), .bool n, .slice lo0 r.length lc0, .slice ao l.length cv0, .int .i64 a] 27)) (mkB t).size 0 5 = cap at *
      have hnew := heap_alloc_new (w.alloc (.cells #[.int .i64 5, .string (mkB t), .bool n, .slice lo0 r.length lc0, .slice ao l.length cv0, .int .i64 a] 27)) (.cells (bytesRow (mkB t) cap) 5 ((bytesRow (mkB t) cap).size, (bytesRow (mkB t) cap).size + 1))
      simp only [World.size_alloc] at hnew
      have hsl : Sl .u8 (((w.alloc (.cells #[.int .i64 5, .string (mkB t), .bool n, .slice lo0 r.length lc0, .slice ao l.length cv0, .int .i64 a] 27)).alloc (.cells (bytesRow (mkB t) cap) 5 ((bytesRow (mkB t) cap).size, (bytesRow (mkB t) cap).size + 1))).drew) (.slice (some ⟨w.heap.size + 1, 0, none⟩) (mkB t).size cap) t := by
        have := row_slS (w := (w.alloc (.cells #[.int .i64 5, .string (mkB t), .bool n, .slice lo0 r.length lc0, .slice ao l.length cv0, .int .i64 a] 27))) (s := mkB t) (cap := cap) (e := 5) (W := ((w.alloc (.cells #[.int .i64 5, .string (mkB t), .bool n, .slice lo0 r.length lc0, .slice ao l.length cv0, .int .i64 a] 27)).alloc (.cells (bytesRow (mkB t) cap) 5 ((bytesRow (mkB t) cap).size, (bytesRow (mkB t) cap).size + 1))).drew) (heap_alloc_new (w.alloc (.cells #[.int .i64 5, .string (mkB t), .bool n, .slice lo0 r.length lc0, .slice ao l.length cv0, .int .i64 a] 27)) _) hcap (by rw [mkB_size]; have := HTL.out; omega)
        rw [HSMK.out] at this
        simpa using this
      have HX3 := Lib.hid (HX.out.step ((below1 (w.alloc (.cells #[.int .i64 5, .string (mkB t), .bool n, .slice lo0 r.length lc0, .slice ao l.length cv0, .int .i64 a] 27)) (.cells (bytesRow (mkB t) cap) 5 ((bytesRow (mkB t) cap).size, (bytesRow (mkB t) cap).size + 1))).drew))
      refine (rchars_any _ t _ hsl HBY.out (by have := HTL.out; omega)).mono ?_
      rintro e w4 ⟨v, rfl, hv, hb4⟩
      have HX4 := Lib.hid (HX3.out.step hb4)
      obtain ⟨_, ao4, cv4, rfl, _, _⟩ := hv
      clear hb4 hsl hnew hconv hG hcap a0 a1 a2 a3 a4 a5
      obtain ⟨a0, a1, a2, a3, a4, a5⟩ := row6 HX4.out.box
      generalize hc : chars t 0 = p at *
      obtain ⟨cs, o⟩ := p
      cases o with
      | some kk =>
        have HW : Hid (wrtA 5 t = false) := Lib.hid (by rw [HV.out, lenA_bad (k := kk) (by rw [hc])])
        rw [chA_bad (k := kk) (by rw [hc])]
        have hneg : decide (((kk : Nat) : Int) < 0) = false := by rw [decide_eq_false_iff_not]; omega
        clear hc
        go_wp2_with fail
        go_ret
        exact RsPost.bad (.inl (by rw [HLEAF.out, HW.out]; simp)) HX4.out.bel
      | none =>
        have HLEN := Lib.hid (lenA_ok hc)
        rw [chA_ok hc]
        have HC := Lib.hid hc
        clear hc
        rcases (by omega : 4096 < cs.length ∨ (cs.length ≤ 4096 ∧ 65536 < t.length) ∨ (cs.length ≤ 4096 ∧ t.length ≤ 65536)) with h1 | ⟨h1, h2⟩ | ⟨h1, h2⟩
        · have q1 : decide (((cs.length : Nat) : Int) ≤ 4096) = false := by rw [decide_eq_false_iff_not]; omega
          have HW : Hid (wrtA 5 t = false) := Lib.hid (by
            rw [HV.out, HLEN.out]
            split
            · rename_i n he
              split at he
              · cases he
              · injection he with he; subst he; simpa using h1
            · rfl)
          clear h1
          go_wp2_with fail
          go_ret
          exact RsPost.bad (.inl (by rw [HLEAF.out, HW.out]; simp)) HX4.out.bel
        · have q1 : decide (((cs.length : Nat) : Int) ≤ 4096) = true := by rw [decide_eq_true_iff]; omega
          have q2 : decide ((((mkB t).size : Nat) : Int) ≤ 65536) = false := by rw [decide_eq_false_iff_not, mkB_size]; omega
          have HW : Hid (wrtA 5 t = false) := Lib.hid (by rw [HV.out, HLEN.out, if_pos h2])
          clear h1 h2
          go_wp2_with fail
          go_ret
          exact RsPost.bad (.inl (by rw [HLEAF.out, HW.out]; simp)) HX4.out.bel
        · have q1 : decide (((cs.length : Nat) : Int) ≤ 4096) = true := by rw [decide_eq_true_iff]; omega
          have q2 : decide ((((mkB t).size : Nat) : Int) ≤ 65536) = true := by rw [decide_eq_true_iff, mkB_size]; omega
          have HW : Hid (wrtA 5 t = true) := Lib.hid (by rw [HV.out, HLEN.out, if_neg (by omega)]; simpa using h1)
          clear h1 h2
          go_wp2_with fail
          refine (bare_any true false false (.mk _ t n r l a) [_, _, _, _, _, _] _ (HLY.out.keep HX4.out.bel)).mono ?_
          rintro e w9 ⟨rfl, hb9⟩
          have HX9 := Lib.hid (HX4.out.step hb9)
          generalize hbr : bareA true false false (Dm.mk _ t n r l a) = bb
          have HBR : Hid ((blankA n r && decide (l.length = 0)) = bb) := Lib.hid ((bare_txt _).symm.trans hbr)
          clear hbr hb9 a0 a1 a2 a3 a4 a5
          cases bb with
          | false =>
            go_wp2_with fail
            go_ret
            exact RsPost.bad (.inl (by rw [HLEAF.out]; rw [Bool.and_assoc, HBR.out, Bool.and_false])) HX9.out.bel
          | true =>
            go_wp2_with fail
            go_ret
            exact RsPost.one (by rw [HLEAF.out]; rw [Bool.and_assoc, HBR.out, HW.out]; rfl) HRM.out (by rw [HSN.out]; have h9 := HBR.out; rw [Bool.and_eq_true] at h9; have h8 := of_decide_eq_true h9.2; rw [h8, szs_zero]) HX9.out.bel
    have d5 : (k == 5) = false := by rw [beq_eq_false_iff_ne]; exact h5
    by_cases h6 : k = 6
    · subst h6
      have HV := Lib.hid (wrtA_chr t)
      clear hk h7 d1 d2 d3 d7 h4 d4 h5 d5
      go_enter Tryz.func58, Tryz.ntmps58
      have hconv := run_bytes_of_string (P := Tryz.prog) (w.alloc (.cells #[.int .i64 6, .string (mkB t), .bool n, .slice lo0 r.length lc0, .slice ao l.length cv0, .int .i64 a] 27)) 9 80 5 (mkB t) Tryz.underlying9 Tryz.underlying80 Tryz.underlying5
      have hcap := grownCap_ge (w.alloc (.cells #[.int .i64 6, .string (mkB t), .bool n, .slice lo0 r.length lc0, .slice ao l.length cv0, .int .i64 a] 27)) (mkB t).size 0 5
      simp only [World.size_alloc] at hconv
      go_wp2_with fail
      generalize hG : grownCap (w.alloc (.cells #[.int .i64 6, .string (mkB t), .bool n, .slice lo0 r.length lc0, .slice ao l.length cv0, .int .i64 a] 27)) (mkB t).size 0 5 = cap at *
      have hnew := heap_alloc_new (w.alloc (.cells #[.int .i64 6, .string (mkB t), .bool n, .slice lo0 r.length lc0, .slice ao l.length cv0, .int .i64 a] 27)) (.cells (bytesRow (mkB t) cap) 5 ((bytesRow (mkB t) cap).size, (bytesRow (mkB t) cap).size + 1))
      simp only [World.size_alloc] at hnew
      have hsl : Sl .u8 (((w.alloc (.cells #[.int .i64 6, .string (mkB t), .bool n, .slice lo0 r.length lc0, .slice ao l.length cv0, .int .i64 a] 27)).alloc (.cells (bytesRow (mkB t) cap) 5 ((bytesRow (mkB t) cap).size, (bytesRow (mkB t) cap).size + 1))).drew) (.slice (some ⟨w.heap.size + 1, 0, none⟩) (mkB t).size cap) t := by
        have := row_slS (w := (w.alloc (.cells #[.int .i64 6, .string (mkB t), .bool n, .slice lo0 r.length lc0, .slice ao l.length cv0, .int .i64 a] 27))) (s := mkB t) (cap := cap) (e := 5) (W := ((w.alloc (.cells #[.int .i64 6, .string (mkB t), .bool n, .slice lo0 r.length lc0, .slice ao l.length cv0, .int .i64 a] 27)).alloc (.cells (bytesRow (mkB t) cap) 5 ((bytesRow (mkB t) cap).size, (bytesRow (mkB t) cap).size + 1))).drew) (heap_alloc_new (w.alloc (.cells #[.int .i64 6, .string (mkB t), .bool n, .slice lo0 r.length lc0, .slice ao l.length cv0, .int .i64 a] 27)) _) hcap (by rw [mkB_size]; have := HTL.out; omega)
        rw [HSMK.out] at this
        simpa using this
      have HX3 := Lib.hid (HX.out.step ((below1 (w.alloc (.cells #[.int .i64 6, .string (mkB t), .bool n, .slice lo0 r.length lc0, .slice ao l.length cv0, .int .i64 a] 27)) (.cells (bytesRow (mkB t) cap) 5 ((bytesRow (mkB t) cap).size, (bytesRow (mkB t) cap).size + 1))).drew))
      refine (rchars_any _ t _ hsl HBY.out (by have := HTL.out; omega)).mono ?_
      rintro e w4 ⟨v, rfl, hv, hb4⟩
      have HX4 := Lib.hid (HX3.out.step hb4)
      obtain ⟨_, ao4, cv4, rfl, _, _⟩ := hv
      clear hb4 hsl hnew hconv hG hcap a0 a1 a2 a3 a4 a5
      obtain ⟨a0, a1, a2, a3, a4, a5⟩ := row6 HX4.out.box
      generalize hc : chars t 0 = p at *
      obtain ⟨cs, o⟩ := p
      cases o with
      | some kk =>
        have HW : Hid (wrtA 6 t = false) := Lib.hid (by rw [HV.out, lenA_bad (k := kk) (by rw [hc])])
        rw [chA_bad (k := kk) (by rw [hc])]
        have hneg : decide (((kk : Nat) : Int) < 0) = false := by rw [decide_eq_false_iff_not]; omega
        clear hc
        go_wp2_with fail
        go_ret
        exact RsPost.bad (.inl (by rw [HLEAF.out, HW.out]; simp)) HX4.out.bel
      | none =>
        have HLEN := Lib.hid (lenA_ok hc)
        rw [chA_ok hc]
        have HC := Lib.hid hc
        clear hc
        by_cases h1 : cs.length = 1
        · have q1 : (((cs.length : Nat) : Int) == 1) = true := by rw [h1]; rfl
          have HW : Hid (wrtA 6 t = true) := Lib.hid (by rw [HV.out, HLEN.out, if_neg (by have := oneT_short HBY.out HC.out h1; omega)]; simpa using h1)
          clear h1
          go_wp2_with fail
          refine (bare_any true false false (.mk _ t n r l a) [_, _, _, _, _, _] _ (HLY.out.keep HX4.out.bel)).mono ?_
          rintro e w9 ⟨rfl, hb9⟩
          have HX9 := Lib.hid (HX4.out.step hb9)
          generalize hbr : bareA true false false (Dm.mk _ t n r l a) = bb
          have HBR : Hid ((blankA n r && decide (l.length = 0)) = bb) := Lib.hid ((bare_txt _).symm.trans hbr)
          clear hbr hb9 a0 a1 a2 a3 a4 a5
          cases bb with
          | false =>
            go_wp2_with fail
            go_ret
            exact RsPost.bad (.inl (by rw [HLEAF.out]; rw [Bool.and_assoc, HBR.out, Bool.and_false])) HX9.out.bel
          | true =>
            go_wp2_with fail
            go_ret
            exact RsPost.one (by rw [HLEAF.out]; rw [Bool.and_assoc, HBR.out, HW.out]; rfl) HRM.out (by rw [HSN.out]; have h9 := HBR.out; rw [Bool.and_eq_true] at h9; have h8 := of_decide_eq_true h9.2; rw [h8, szs_zero]) HX9.out.bel
        · have q1 : (((cs.length : Nat) : Int) == 1) = false := by rw [beq_eq_false_iff_ne]; omega
          have HW : Hid (wrtA 6 t = false) := Lib.hid (by
            rw [HV.out, HLEN.out]
            split
            · rename_i n he
              split at he
              · cases he
              · injection he with he; subst he; simpa using h1
            · rfl)
          clear h1
          go_wp2_with fail
          go_ret
          exact RsPost.bad (.inl (by rw [HLEAF.out, HW.out]; simp)) HX4.out.bel
    have d6 : (k == 6) = false := by rw [beq_eq_false_iff_ne]; exact h6
    by_cases h8 : k = 8 ∨ k = 9 ∨ k = 10
    · have HV := Lib.hid (wrtA_bare t h8)
      clear hk h7 d1 d2 d3 d7 h4 d4 h5 d5 h6 d6
      rcases h8 with rfl | rfl | rfl
      all_goals
        go_enter Tryz.func58, Tryz.ntmps58
        go_wp2_with fail
        refine (bare_any false false false (.mk _ t n r l a) [_, _, _, _, _, _] _ (HLY.out.keep HX.out.bel)).mono ?_
        rintro e w9 ⟨rfl, hb9⟩
        have HX9 := Lib.hid (HX.out.step hb9)
        generalize hbr : bareA false false false (Dm.mk _ t n r l a) = bb
        have HBR : Hid ((decide (t = []) && blankA n r && decide (l.length = 0)) = bb) := Lib.hid ((bare_none _).symm.trans hbr)
        clear hbr hb9 a0 a1 a2 a3 a4 a5
        cases bb with
        | false =>
          go_wp2_with fail
          go_ret
          exact RsPost.bad (.inl (by rw [HLEAF.out]; rw [HV.out, HBR.out])) HX9.out.bel
        | true =>
          go_wp2_with fail
          go_ret
          exact RsPost.one (by rw [HLEAF.out]; rw [HV.out, HBR.out]) HRM.out (by rw [HSN.out]; have h9 := HBR.out; rw [Bool.and_eq_true] at h9; have h8 := of_decide_eq_true h9.2; rw [h8, szs_zero]) HX9.out.bel
    have d8 : (k == 8) = false := by rw [beq_eq_false_iff_ne]; omega
    have d9 : (k == 9) = false := by rw [beq_eq_false_iff_ne]; omega
    have d10 : (k == 10) = false := by rw [beq_eq_false_iff_ne]; omega
    have HV := Lib.hid (wrtA_other t h4 h5 h6 h8)
    by_cases h11 : k = 11
    · subst h11
      have HW : Hid (wrtA 11 t = true) := Lib.hid (by rw [HV.out]; rfl)
      clear hk h7 d1 d2 d3 d7 h4 d4 h5 d5 h6 d6 h8 d8 d9 d10
      go_enter Tryz.func58, Tryz.ntmps58
      go_wp2_with fail
      refine (bare_any true false false (.mk _ t n r l a) [_, _, _, _, _, _] _ (HLY.out.keep HX.out.bel)).mono ?_
      rintro e w9 ⟨rfl, hb9⟩
      have HX9 := Lib.hid (HX.out.step hb9)
      generalize hbr : bareA true false false (Dm.mk _ t n r l a) = bb
      have HBR : Hid ((blankA n r && decide (l.length = 0)) = bb) := Lib.hid ((bare_txt _).symm.trans hbr)
      clear hbr hb9 a0 a1 a2 a3 a4 a5
      cases bb with
      | false =>
        go_wp2_with fail
        go_ret
        exact RsPost.bad (.inl (by rw [HLEAF.out]; rw [Bool.and_assoc, HBR.out, Bool.and_false])) HX9.out.bel
      | true =>
        go_wp2_with fail
        go_ret
        exact RsPost.one (by rw [HLEAF.out]; rw [Bool.and_assoc, HBR.out, HW.out]; rfl) HRM.out (by rw [HSN.out]; have h9 := HBR.out; rw [Bool.and_eq_true] at h9; have h8 := of_decide_eq_true h9.2; rw [h8, szs_zero]) HX9.out.bel
    have d11 : (k == 11) = false := by rw [beq_eq_false_iff_ne]; exact h11
    have HW : Hid (wrtA k t = false) := Lib.hid (by rw [HV.out]; simpa using h11)
    clear hk h7 h4 h5 h6 h8 h11
    go_enter Tryz.func58, Tryz.ntmps58
    go_wp2_with fail
    go_ret
    exact RsPost.bad (.inl (by rw [HLEAF.out, HW.out]; simp)) HX.out.bel
end Go.Proofs.YtbfcbicbeagjkaaGreatDoor
namespace Go.Proofs.YtbfcbicbeagjkaaGreatDoor
open Go.RowKit

theorem Sl.cap {k : IntKind} {w : World} {ao : Option Addr} {cap : Nat} {xs : List Nat} (h : Sl k w (.slice ao xs.length cap) xs) : xs.length ≤ cap := by
  obtain ⟨_, ao', cap', hv, h, _⟩ := h
  simp only [Value.slice.injEq, true_and] at hv
  obtain ⟨rfl, rfl⟩ := hv
  exact h

def RowsEq (l l' : List Dm) : Prop := l.length = l'.length ∧ ∀ (j : Nat) (h : j < l.length) (h' : j < l'.length), sameA (l[j]'h) (l'[j]'h') = true
def EqfPost (l l' : List Dm) (w : World) (e : Ending) (w' : World) : Prop := ∃ b, e = .returned (.bool b) ∧ Below w.heap.size w w' ∧ (b = true → RowsEq l l') ∧ (b = false → ¬ RowsEq l l')
theorem EqfPost.no {l l' : List Dm} {w w' : World} (hb : Below w.heap.size w w') (h : ¬ RowsEq l l') : EqfPost l l' w (.returned (.bool false)) w' := ⟨false, rfl, hb, fun h => (by cases h), fun _ => h⟩
theorem EqfPost.yes {l l' : List Dm} {w w' : World} (hb : Below w.heap.size w w') (h : RowsEq l l') : EqfPost l l' w (.returned (.bool true)) w' := ⟨true, rfl, hb, fun _ => h, fun h => (by cases h)⟩

set_option maxRecDepth 100000 in
set_option maxHeartbeats 1000000 in
/-- ref.Sound. -/
theorem rdsound_any (D : Dm) (us : List Value) (w : World) (h1 : Lay w D us) (hsm : Sm 1100000 D) :
    Calls Tryz.prog 17 #[.agg us.toArray] w fun e w' => e = .returned (.bool (sndD D)) ∧ Below w.heap.size w w' := by
  have HSM := Lib.hid hsm
  have HLY := Lib.hid h1
  obtain ⟨k, t, n, r, l, a⟩ := D
  obtain ⟨lv, av, xs, rfl, _, _, _, hr, hrow1, _⟩ := h1.open'
  simp only [Dm.r, Dm.l] at hr hrow1
  simp only [Dm.k, Dm.t, Dm.n, Dm.a] at HLY
  simp only [Dm.k, Dm.t, Dm.n, Dm.a]
  obtain ⟨ao, cv0, rfl⟩ : ∃ o c, av = .slice o l.length c := by obtain ⟨_, _, o, c, h, _⟩ := hrow1; exact ⟨o, c, h⟩
  obtain ⟨lo0, lc0, rfl⟩ : ∃ o c, lv = .slice o r.length c := by obtain ⟨_, o, c, h, _⟩ := hr; exact ⟨o, c, h⟩
  clear h1 hr hrow1 hsm
  have HB1 := Lib.hid (below1 w (.cells #[.int .i64 k, .string (mkB t), .bool n, .slice lo0 r.length lc0, .slice ao l.length cv0, .int .i64 a] 27))
  show Calls Tryz.prog 17 #[.agg #[.int .i64 k, .string (mkB t), .bool n, .slice lo0 r.length lc0, .slice ao l.length cv0, .int .i64 a]] w _
  go_enter Tryz.func17, Tryz.ntmps17
  go_wp2_with fail
  refine (rsize_any _ _ (Nat.le_refl _) HSM.out 64 8192 (Nat.le_refl _) (Nat.le_refl _) _ _ 1 rfl (HLY.out.keep HB1.out)).mono ?_
  rintro e w3 ⟨rfl, hb3⟩
  have HB3 := Lib.hid (HB1.out.trans (hb3.mono HB1.out.size))
  clear hb3
  by_cases h : okD 64 (.mk k t n r l a) = true ∧ (Dm.mk k t n r l a).sz ≤ 8192
  · have HV : Hid (sndD (.mk k t n r l a) = true) := Lib.hid (by unfold sndD; rw [h.1]; simpa using h.2)
    rw [sizA_yes h.1 h.2]
    have hq : decide ((((Dm.mk k t n r l a).sz : Nat) : Int) ≤ 8192) = true := by rw [decide_eq_true_iff]; have := h.2; omega
    clear h
    go_wp2_with fail
    go_ret
    exact ⟨ret_bl (by rw [HV.out]), HB3.out⟩
  · have hno : okD 64 (.mk k t n r l a) = false ∨ 8192 < (Dm.mk k t n r l a).sz := by
      rcases hc : okD 64 (.mk k t n r l a) with _ | _
      · exact .inl rfl
      · right
        have : ¬ (Dm.mk k t n r l a).sz ≤ 8192 := fun h2 => h ⟨hc, h2⟩
        omega
    have HV : Hid (sndD (.mk k t n r l a) = false) := Lib.hid (by
      unfold sndD
      rcases hno with h | h
      · rw [h]; rfl
      · rw [Bool.and_eq_false_iff]; right; rw [decide_eq_false_iff_not]; omega)
    rw [sizA_no hno]
    clear h hno
    go_wp2_with fail
    go_ret
    exact ⟨ret_bl (by rw [HV.out]), HB3.out⟩
end Go.Proofs.YtbfcbicbeagjkaaGreatDoor
