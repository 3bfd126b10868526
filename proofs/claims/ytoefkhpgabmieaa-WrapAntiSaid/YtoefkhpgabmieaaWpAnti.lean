/- WrapAnti -/
import Derived.Test.YtoefkhpgabmieaaWpOrder
import Derived.Test.YtoefkhpgabmieaaStOpB
namespace Go.Proofs.Ytoefkhpgabmieaa
open Go.RowKit

theorem gz_cons0 (r : Int) (s : List Int) : gz (r :: s) 0 = r := rfl
theorem gz_cons (r : Int) (s : List Int) (j : Nat) : gz (r :: s) (j + 1) = gz s j := rfl
theorem zc_cons (r : Int) (s : List Int) : zc (r :: s) = zc s + if r = 0 then 1 else 0 := by
  unfold zc
  rw [List.countP_cons]
  by_cases h : r = 0 <;> simp [h]
theorem sbsB_cons (r : Int) (s : List Int) : sbsB (r :: s) = (decide (0 ≤ r) && sbsB s) := rfl
theorem sndS_rib {m s : List Int} {r : Int} (hr : 0 < r) (h : sndS m s = true) : sndS m (r :: s) = true := by
  unfold sndS at h ⊢
  rw [zc_cons, if_neg (by omega), sbsB_cons, decide_eq_true (show 0 ≤ r by omega)]
  simpa using h
theorem sndS_ribs {m s : List Int} : ∀ {rv : List Int}, (∀ r ∈ rv, 0 < r) → sndS m s = true → sndS m (rv ++ s) = true
  | [], _, h => h
  | r :: rv, hp, h => sndS_rib (hp r (by simp)) (sndS_ribs (fun q hq => hp q (by simp [hq])) h)
theorem lrg_no {m s : List Int} (h1 : m.length ≤ 256) (h2 : s.length ≤ 256) : lrgB m s = false := by
  unfold lrgB; rw [decide_eq_false (by omega), decide_eq_false (by omega)]; rfl
theorem sndB_of {m s : List Int} (h1 : m.length ≤ 256) (h2 : s.length ≤ 256) (h : sndS m s = true) : sndB m s = true := by
  unfold sndB; rw [lrg_no h1 h2, h]; rfl
theorem join_rib {m s : List Int} {r : Int} (hr : 0 < r) (h : sndS m s = true) (h1 : m.length ≤ 256) (h2 : s.length + 1 ≤ 256) : joinA [] [r] m s = (m, r :: s, 0) := by
  have e : endB [] [r] = false := by unfold endB; simp
  rw [joinA_ok (snd_rib hr) (sndB_of h1 (by omega) h), e, Bool.false_and]
  have e2 : marryA false [] [r] m s = (m, r :: s) := by simp [marryA, cutL, cutF]
  rw [e2, closeA_ok (lrg_no h1 (by simpa using h2)) (sndS_rib hr h)]
/-- The taking away of a mark, ahead of what begins with none. -/
theorem sndS_anti {m s : List Int} (h : sndS m s = true) (h0 : ∀ j, j < m.length → 0 < gz m j) : sndS (-1 :: m) (0 :: s) = true := by
  unfold sndS at h ⊢
  rw [Bool.and_eq_true, Bool.and_eq_true] at h ⊢
  refine ⟨mksB_true fun j hj => ?_, ?_, ?_⟩
  · cases j with
    | zero => rfl
    | succ j =>
      rw [gz_cons]
      unfold markB
      rw [decide_eq_true (h0 j (by simpa using hj))]
      rfl
  · rw [sbsB_cons, h.2.1]; rfl
  · have := h.2.2
    rw [zc_cons, if_pos rfl]
    simp at this ⊢
    exact this
theorem marks_pos {m s : List Int} (h : sndS m s = true) (h0 : m.length = 0 ∨ gz m 0 ≠ -1) : ∀ j, j < m.length → 0 < gz m j := by
  intro j hj
  unfold sndS at h
  rw [Bool.and_eq_true] at h
  have hm := mksB_at h.1 hj
  unfold markB at hm
  by_cases h1 : 0 < gz m j
  · exact h1
  · rw [decide_eq_false h1] at hm
    simp at hm
    obtain ⟨h2, h3⟩ := hm
    subst h3
    rcases h0 with h0 | h0
    · omega
    · exact absurd h2 h0
theorem join_anti {m s : List Int} (h : sndS m s = true) (h0 : ∀ j, j < m.length → 0 < gz m j) (h1 : m.length ≤ 200) (h2 : s.length ≤ 200) : joinA (mrkA (-1)).1 (mrkA (-1)).2 m s = (-1 :: m, 0 :: s, 0) := by
  have e0 : mrkA (-1) = ([-1], [0]) := by decide
  rw [e0]
  have e : endB [-1] [0] = false := by decide
  rw [joinA_ok (by decide) (sndB_of (by omega) (by omega) h), e, Bool.false_and]
  have e2 : marryA false [-1] [0] m s = (-1 :: m, 0 :: s) := by simp [marryA, cutL, cutF]
  rw [e2, closeA_ok (lrg_no (by simp; omega) (by simp; omega)) (sndS_anti h h0)]
theorem sndS_mark {n : Int} (h : 0 < n) : sndS [n] [0] = true := sndB_snd (snd_mark (by unfold markB; rw [decide_eq_true h]; rfl))
theorem join_taken {m s rv : List Int} {n : Int} (hn : 0 < n) (hrv : ∀ r ∈ rv, 0 < r) (h : sndS m s = true) (h0 : ∀ j, j < m.length → 0 < gz m j) (h1 : m.length ≤ 200) (h2 : s.length ≤ 200) (h3 : rv.length ≤ 20) : joinA [n] (rv ++ [0]) (-1 :: m) (0 :: s) = (m, rv ++ s, 0) := by
  have s1 := sndB_of (m := [n]) (s := rv ++ [0]) (by simp) (by simp; omega) (sndS_ribs hrv (sndS_mark hn))
  have s2 := sndB_of (m := -1 :: m) (s := 0 :: s) (by simp; omega) (by simp; omega) (sndS_anti h h0)
  have e1 : endB [n] (rv ++ [0]) = true := by
    unfold endB
    rw [gz_last_app (by simp)]
    have : gz [n] ([n].length - 1) = n := rfl
    rw [this, decide_eq_true (show n ≠ -1 by omega)]
    rfl
  have e2 : begB (-1 :: m) (0 :: s) = true := by unfold begB; rw [gz_cons0, gz_cons0]; simp
  rw [joinA_ok s1 s2, e1, e2]
  have e3 : marryA (true && true) [n] (rv ++ [0]) (-1 :: m) (0 :: s) = (m, rv ++ s) := by simp [marryA, cutL, cutF]
  rw [e3, closeA_ok (lrg_no (m := m) (s := rv ++ s) (by omega) (by simp; omega)) (sndS_ribs hrv h)]
theorem Sl.at' {w : World} {v : Value} {xs : List Nat} (h : Sl .u8 w v xs) {i : Nat} (hi : i < xs.length) : ∃ b off cap, v = .slice (some ⟨b, off, none⟩) xs.length cap ∧ b < w.heap.size ∧ w.cell? ⟨b, off + i, none⟩ = some (.int .u8 ((limb xs i : Nat) : Int)) := by
  obtain ⟨_, ao, cap, hv, _, hr⟩ := h
  rcases hr with ⟨h0, _⟩ | ⟨b, off, h1, h2, h3⟩
  · rw [h0] at hi; simp at hi
  · subst h1
    exact ⟨b, off, cap, hv, h2, h3 i hi⟩

set_option maxRecDepth 100000 in
set_option maxHeartbeats 8000000 in
theorem wrapanti_any (x rv : Value) (m s : List Int) (xs : List Nat) (z : Int) (w : World) (hx : Wr w x m s) (hr : Sl .u8 w rv xs) (hby : By xs) (hz0 : 0 ≤ z) (hz9 : z ≤ 255) :
    Calls Try.prog 7 #[x, rv, .int .u8 z] w fun e w' => e = .returned (.bool true) ∧ Below w.heap.size w w' := by
  obtain ⟨_, _, rfl, h1a, h2a⟩ := hx.cells
  obtain ⟨-, ao, ap, h3a, -, -⟩ := h1a.cases
  obtain ⟨-, aq, ar, h4a, -, -⟩ := h2a.cases
  generalize hla1 : m.length = am at h3a
  generalize hla2 : s.length = an at h4a
  subst h3a h4a
  have HR := Lib.hid hr
  have HBY := Lib.hid hby
  obtain ⟨hrm, ro, rp, rfl, -, -⟩ := hr
  obtain ⟨rl, hrl⟩ : ∃ k, k = xs.length := ⟨_, rfl⟩
  rw [← hrl] at HR hrm ⊢
  have HRL := Lib.hid hrl
  unfold maxLen at hrm
  have hb1 := below1 w (.cells #[.slice ao am ap, .slice aq an ar] 24)
  have HB0 := Lib.hid hb1
  have Ra0 := Lib.hid (heap_alloc_new w (.cells #[.slice ao am ap, .slice aq an ar] 24))
  have HX_0 := Lib.hid (hx.below hb1)
  have HLa := Lib.hid (And.intro hla1 hla2)
  clear hb1 hx h1a h2a hla1 hla2 hby hrl
  go_enter Try.func7, Try.ntmps7
  go_upto_region 1 with fail
  generalize w.alloc (.cells #[.slice ao am ap, .slice aq an ar] 24) = w1 at *
  obtain ⟨ca0, da0, ya0, za0⟩ := rowp2 Ra0.out
  go_wp2_with fail
  refine (answers9_any w1).mono ?_
  rintro e w2 ⟨rfl, hbx⟩
  have HB1 := Lib.hid (HB0.out.trans (hbx.mono HB0.out.size))
  have Ra1 := Lib.hid ((hbx.block _ (Array.getElem?_eq_some_iff.1 Ra0.out).1).trans Ra0.out)
  have HX_1 := Lib.hid (HX_0.out.below hbx)
  clear Ra0 HX_0
  clear hbx
  clear ca0 da0 ya0 za0
  obtain ⟨ca1, da1, ya1, za1⟩ := rowp2 Ra1.out
  go_wp2_with fail
  refine (light_any _ _ m s _ HX_1.out.parts.1 HX_1.out.parts.2).mono ?_
  rintro e w3 ⟨rfl, hbx⟩
  have HB2 := Lib.hid (HB1.out.trans (hbx.mono HB1.out.size))
  have Ra2 := Lib.hid ((hbx.block _ (Array.getElem?_eq_some_iff.1 Ra1.out).1).trans Ra1.out)
  have HX_2 := Lib.hid (HX_1.out.below hbx)
  clear HB1 Ra1 HX_1
  clear hbx
  clear ca1 da1 ya1 za1
  obtain ⟨ca2, da2, ya2, za2⟩ := rowp2 Ra2.out
  cases hlt : (decide (m.length ≤ 2000) && decide (s.length ≤ 2000)) with
  | false =>
    go_wp2_with fail
    clear ca2 da2 ya2 za2
    refine (answers9_any _).mono ?_
    rintro e wz ⟨rfl, hbx⟩
    have HBz := Lib.hid (HB2.out.trans (hbx.mono HB2.out.size))
    clear hbx
    go_wp2_with fail
    go_ret
    exact ⟨rfl, HBz.out⟩
  | true =>
    clear hlt
    go_wp2_with fail
    refine (rsound_any _ _ m s w3 HX_2.out.parts.1 HX_2.out.parts.2).mono ?_
    rintro e w4 ⟨rfl, hwx⟩
    subst hwx
    have hbx := Below.refl w3.heap.size w3
    have HB3 := Lib.hid (HB2.out.trans (hbx.mono HB2.out.size))
    have Ra3 := Lib.hid ((hbx.block _ (Array.getElem?_eq_some_iff.1 Ra2.out).1).trans Ra2.out)
    have HX_3 := Lib.hid (HX_2.out.below hbx)
    clear HB2 Ra2 HX_2
    clear hbx
    clear ca2 da2 ya2 za2
    obtain ⟨ca3, da3, ya3, za3⟩ := rowp2 Ra3.out
    cases hsd : sndB m s with
    | false =>
      go_wp2_with fail
      clear ca3 da3 ya3 za3
      refine (answers9_any _).mono ?_
      rintro e wz ⟨rfl, hbx⟩
      have HBz := Lib.hid (HB3.out.trans (hbx.mono HB3.out.size))
      clear hbx
      go_wp2_with fail
      go_ret
      exact ⟨rfl, HBz.out⟩
    | true =>
      have HSD := Lib.hid (sndB_snd hsd)
      clear hsd
      by_cases hc1 : 200 < an
      · go_wp2_with fail
        clear ca3 da3 ya3 za3
        refine (answers9_any _).mono ?_
        rintro e wz ⟨rfl, hbx⟩
        have HBz := Lib.hid (HB3.out.trans (hbx.mono HB3.out.size))
        clear hbx
        go_wp2_with fail
        go_ret
        exact ⟨rfl, HBz.out⟩
      by_cases hc2 : 200 < am
      · go_wp2_with fail
        clear ca3 da3 ya3 za3
        refine (answers9_any _).mono ?_
        rintro e wz ⟨rfl, hbx⟩
        have HBz := Lib.hid (HB3.out.trans (hbx.mono HB3.out.size))
        clear hbx
        go_wp2_with fail
        go_ret
        exact ⟨rfl, HBz.out⟩
      have hm0 : am = 0 ∨ (0 < am ∧ (gz m 0 == -1) = true) ∨ (0 < am ∧ (gz m 0 == -1) = false) := by
        by_cases h : am = 0
        · exact .inl h
        · cases gz m 0 == -1
          · exact .inr (.inr ⟨by omega, rfl⟩)
          · exact .inr (.inl ⟨by omega, rfl⟩)
      have hpos : (am = 0 ∨ (gz m 0 == -1) = false) → ∀ j, j < m.length → 0 < gz m j := by
        intro h
        refine marks_pos HSD.out ?_
        have h1 := HLa.out.1
        rcases h with h | h
        · exact .inl (by omega)
        · exact .inr (by rw [beq_eq_false_iff_ne] at h; exact h)
      have HPOS := Lib.hid hpos
      clear hpos
      have hcell : 0 < am → ∃ b off, ao = some ⟨b, off, none⟩ ∧ w3.cell? ⟨b, off, none⟩ = some (.int .i64 (gz m 0)) := fun h => HX_3.out.parts.1.at0 (by have := HLa.out.1; omega)
      have HCL := Lib.hid hcell
      clear hcell
      rcases hm0 with h00 | ⟨hm1, hm2⟩ | ⟨hm1, hm2⟩
      · skip
        have HP := Lib.hid (HPOS.out (.inl h00))
        clear HPOS
        by_cases hc3 : 20 < rl
        · go_wp2_with fail
          clear ca3 da3 ya3 za3
          refine (answers9_any _).mono ?_
          rintro e wz ⟨rfl, hbx⟩
          have HBz := Lib.hid (HB3.out.trans (hbx.mono HB3.out.size))
          clear hbx
          go_wp2_with fail
          go_ret
          exact ⟨rfl, HBz.out⟩
        have HLN : Hid (m.length ≤ 200 ∧ s.length ≤ 200 ∧ rl ≤ 20) := Lib.hid (by have := HLa.out; omega)
        go_upto_region 3 with fail
        clear HCL
        try clear h00
        clear ca3 da3 ya3 za3
        refine wp_region_late 8 7 5 7 68 (psi [isWr ((mrkA (-1)).1) ((mrkA (-1)).2), isV (.agg #[.slice ao am ap, .slice aq an ar]), isWr (m) (s), isJ (joinA ((mrkA (-1)).1) ((mrkA (-1)).2) (m) (s)), isJ (joinA ((mrkA (-1)).1) ((mrkA (-1)).2) (m) (s)), isWr (joinA ((mrkA (-1)).1) ((mrkA (-1)).2) (m) (s)).1 (joinA ((mrkA (-1)).1) ((mrkA (-1)).2) (m) (s)).2.1, isV (.int .i64 (joinA ((mrkA (-1)).1) ((mrkA (-1)).2) (m) (s)).2.2), isBox w3.heap.size, nothing, isV (.int .i64 (joinA ((mrkA (-1)).1) ((mrkA (-1)).2) (m) (s)).2.2)]) (fun W => Below w3.heap.size w3 W) (FillsP) (by kernel_rfl) (Below.refl _ _).drew (psi_mono ?_) (by kernel_rfl) (by kernel_rfl) (by kernel_rfl) ?_ ?_
        · intro p hp
          simp only [List.mem_cons, List.not_mem_nil, or_false] at hp
          (repeat' rcases hp with rfl | hp) <;> first | exact isV_stays _ | exact nothing_stays | (subst hp; first | exact isV_stays _ | exact nothing_stays) | exact isBox_stays _ | exact isJ_stays _ | exact isWr_stays _ _ | (subst hp; exact isBox_stays _) | (subst hp; exact isJ_stays _) | (subst hp; exact isWr_stays _ _)
        · refine AllOps.cons ?_ ?_
          · refine OpL.early (by kernel_rfl) (by kernel_rfl) fun ab W hC hB hdep => ?_
            refine .inl ⟨rfl, ?_⟩
            clear hB hdep
            refine goes_call (f := 18) (args := #[.int .i64 (-1)]) ?_ ?_
            · simp only [execOp]
              go_simp
            · exact (mark_any (-1) W).mono fun e w7 ⟨⟨v7, he, hi⟩, hb⟩ => ⟨v7, he, hC.trans (hb.mono hC.size), hb, hi⟩
          refine AllOps.cons ?_ ?_
          · refine OpL.early (by kernel_rfl) (by kernel_rfl) fun ab W hC hB hdep => ?_
            refine .inl ⟨rfl, ?_⟩
            have b0 : ab.tmps.getD 3 undef = .pointer (some ⟨w.heap.size, 0, none⟩) := hB.off 3 (by kernel_rfl)
            obtain ⟨c0, c1, _, _⟩ := rowp2 ((hC.block _ (Array.getElem?_eq_some_iff.1 Ra3.out).1).trans Ra3.out)
            clear hB hdep
            refine goes_value (v := .agg #[.slice ao am ap, .slice aq an ar]) ?_ hC rfl
            simp only [execOp, Act.eval, b0]
            go_simp
          refine AllOps.cons ?_ ?_
          · refine OpL.early (by kernel_rfl) (by kernel_rfl) fun ab W hC hB hdep => ?_
            refine .inl ⟨rfl, ?_⟩
            obtain ⟨x0, (q0 : (isV (.agg #[.slice ao am ap, .slice aq an ar])) x0 W), e0⟩ := hdep 1 65 (by kernel_rfl)
            obtain rfl : x0 = .agg #[.slice ao am ap, .slice aq an ar] := q0
            clear hB hdep
            refine goes_call (f := 12) (args := #[.agg #[.slice ao am ap, .slice aq an ar]]) ?_ ?_
            · simp only [execOp]
              go_simp
            · exact (lown_any _ (m) (s) W (HX_3.out.below hC) (by have := HLN.out; omega) (by have := HLN.out; omega)).mono fun e w7 ⟨⟨v7, he, hi⟩, hb⟩ => ⟨v7, he, hC.trans (hb.mono hC.size), hb, hi⟩
          refine AllOps.cons ?_ ?_
          · refine OpL.early (by kernel_rfl) (by kernel_rfl) fun ab W hC hB hdep => ?_
            refine .inl ⟨rfl, ?_⟩
            obtain ⟨x0, (q0 : (isWr ((mrkA (-1)).1) ((mrkA (-1)).2)) x0 W), e0⟩ := hdep 0 64 (by kernel_rfl)
            skip
            obtain ⟨x1, (q1 : (isWr (m) (s)) x1 W), e1⟩ := hdep 2 66 (by kernel_rfl)
            skip
            clear hB hdep
            refine goes_call (f := 11) (args := #[x0, x1]) ?_ ?_
            · simp only [execOp]
              go_simp
            · exact (wjoin_any x0 x1 ((mrkA (-1)).1) ((mrkA (-1)).2) (m) (s) W (q0) (q1)).mono fun e w7 ⟨⟨v7, he, hi⟩, hb⟩ => ⟨_, he, hC.trans (hb.mono hC.size), hb, ⟨v7, rfl, hi⟩⟩
          refine AllOps.cons ?_ ?_
          · refine OpL.early (by kernel_rfl) (by kernel_rfl) fun ab W hC hB hdep => ?_
            refine .inl ⟨rfl, ?_⟩
            obtain ⟨x0, (q0 : (isJ (joinA ((mrkA (-1)).1) ((mrkA (-1)).2) (m) (s))) x0 W), e0⟩ := hdep 3 67 (by kernel_rfl)
            obtain ⟨jx0, rfl, hj0⟩ := q0
            clear hB hdep
            refine goes_value (v := .tuple #[jx0, .int .i64 (joinA ((mrkA (-1)).1) ((mrkA (-1)).2) (m) (s)).2.2]) ?_ hC ⟨jx0, rfl, hj0⟩
            simp only [execOp, Act.eval, e0]
            go_simp
          refine AllOps.cons ?_ ?_
          · refine OpL.early (by kernel_rfl) (by kernel_rfl) fun ab W hC hB hdep => ?_
            refine .inl ⟨rfl, ?_⟩
            obtain ⟨x0, (q0 : (isJ (joinA ((mrkA (-1)).1) ((mrkA (-1)).2) (m) (s))) x0 W), e0⟩ := hdep 4 63 (by kernel_rfl)
            obtain ⟨jx0, rfl, hj0⟩ := q0
            clear hB hdep
            refine goes_value (v := jx0) ?_ hC hj0
            simp only [execOp, Act.eval, e0]
            go_simp
          refine AllOps.cons ?_ ?_
          · refine OpL.pure (by kernel_rfl) (by kernel_rfl) fun ab W W1 hC hB hdep => .inl ⟨rfl, ?_⟩
            obtain ⟨x0, (q0 : (isJ (joinA ((mrkA (-1)).1) ((mrkA (-1)).2) (m) (s))) x0 W), e0⟩ := hdep 4 63 (by kernel_rfl)
            obtain ⟨jx0, rfl, hj0⟩ := q0
            clear hB hdep
            refine ⟨.int .i64 (joinA ((mrkA (-1)).1) ((mrkA (-1)).2) (m) (s)).2.2, ?_, rfl⟩
            simp only [execOp, Act.eval, e0]
            go_simp
          refine AllOps.cons ?_ ?_
          · refine OpL.early (by kernel_rfl) (by kernel_rfl) fun ab W hC hB hdep => ?_
            refine .inl ⟨rfl, ?_⟩
            clear hB hdep
            refine goes_world (v := .pointer (some ⟨W.heap.size, 0, none⟩)) (w1 := W.alloc (.cells #[.slice none 0 0, .slice none 0 0] 24)) ?_ (hC.trans ((below1 W _).mono hC.size)) (below1 W _) ⟨_, rfl, hC.size, heap_alloc_new W _⟩
            simp only [execOp]
            go_simp
          refine AllOps.cons ?_ ?_
          · refine OpL.write (by kernel_rfl) fun vals ab W hC hB hdep => ⟨rfl, ?_⟩
            obtain ⟨(q0 : (isBox w3.heap.size) (vals 7) W), e0⟩ := hdep 7 7 (by kernel_rfl)
            generalize vals 7 = x0 at *
            obtain ⟨g0, rfl, hge0, hg0⟩ := q0
            obtain ⟨(q1 : (isWr (joinA ((mrkA (-1)).1) ((mrkA (-1)).2) (m) (s)).1 (joinA ((mrkA (-1)).1) ((mrkA (-1)).2) (m) (s)).2.1) (vals 5) W), e1⟩ := hdep 5 68 (by kernel_rfl)
            generalize vals 5 = x1 at *
            obtain ⟨u1, v1, rfl, hu1, hv1⟩ := Wr.cells q1
            obtain ⟨_, uo1, uc1, rfl, _, _⟩ := hu1.cases
            obtain ⟨_, vo1, vc1, rfl, _, _⟩ := hv1.cases
            clear hB hdep
            obtain ⟨_, _, z1, z2⟩ := rowp2 hg0
            refine writes_skip (w1 := (W.setCell ⟨g0, 0, none⟩ _).setCell ⟨g0, 1, none⟩ _) ?_ ⟨_, _, _, rfl, rfl, rfl⟩
            simp only [execOp, Act.eval, e0, e1]
            go_simp
          refine AllOps.cons ?_ ?_
          · refine OpL.pure (by kernel_rfl) (by kernel_rfl) fun ab W W1 hC hB hdep => .inl ⟨rfl, ?_⟩
            obtain ⟨x0, (q0 : (isV (.int .i64 (joinA ((mrkA (-1)).1) ((mrkA (-1)).2) (m) (s)).2.2)) x0 W), e0⟩ := hdep 6 69 (by kernel_rfl)
            obtain rfl : x0 = .int .i64 (joinA ((mrkA (-1)).1) ((mrkA (-1)).2) (m) (s)).2.2 := q0
            clear hB hdep
            refine ⟨.int .i64 (joinA ((mrkA (-1)).1) ((mrkA (-1)).2) (m) (s)).2.2, ?_, rfl⟩
            simp only [execOp, Act.eval, e0]
            go_simp
          exact trivial
        · intro vals aa W0 wA hC hFin hB hall
          obtain ⟨(k0 : (isWr ((mrkA (-1)).1) ((mrkA (-1)).2)) (vals 0) W0), e0⟩ := hall 0 _ rfl (by decide)
          obtain ⟨(k1 : (isV (.agg #[.slice ao am ap, .slice aq an ar])) (vals 1) W0), e1⟩ := hall 1 _ rfl (by decide)
          obtain ⟨(k2 : (isWr (m) (s)) (vals 2) W0), e2⟩ := hall 2 _ rfl (by decide)
          obtain ⟨(k3 : (isJ (joinA ((mrkA (-1)).1) ((mrkA (-1)).2) (m) (s))) (vals 3) W0), e3⟩ := hall 3 _ rfl (by decide)
          obtain ⟨(k4 : (isJ (joinA ((mrkA (-1)).1) ((mrkA (-1)).2) (m) (s))) (vals 4) W0), e4⟩ := hall 4 _ rfl (by decide)
          obtain ⟨(k5 : (isWr (joinA ((mrkA (-1)).1) ((mrkA (-1)).2) (m) (s)).1 (joinA ((mrkA (-1)).1) ((mrkA (-1)).2) (m) (s)).2.1) (vals 5) W0), e5⟩ := hall 5 _ rfl (by decide)
          obtain ⟨(k6 : (isV (.int .i64 (joinA ((mrkA (-1)).1) ((mrkA (-1)).2) (m) (s)).2.2)) (vals 6) W0), e6⟩ := hall 6 _ rfl (by decide)
          obtain ⟨(k7 : (isBox w3.heap.size) (vals 7) W0), e7⟩ := hall 7 _ rfl (by decide)
          obtain ⟨(k9 : (isV (.int .i64 (joinA ((mrkA (-1)).1) ((mrkA (-1)).2) (m) (s)).2.2)) (vals 9) W0), e9⟩ := hall 9 _ rfl (by decide)
          have hv : ∀ p ∈ [((64 : Nat), (vals 0 : Value)), ((65 : Nat), (.agg #[.slice ao am ap, .slice aq an ar] : Value)), ((66 : Nat), (vals 2 : Value)), ((67 : Nat), (vals 3 : Value)), ((63 : Nat), (vals 4 : Value)), ((68 : Nat), (vals 5 : Value)), ((69 : Nat), (.int .i64 (joinA ((mrkA (-1)).1) ((mrkA (-1)).2) (m) (s)).2.2 : Value)), ((7 : Nat), (vals 7 : Value)), ((8 : Nat), (.int .i64 (joinA ((mrkA (-1)).1) ((mrkA (-1)).2) (m) (s)).2.2 : Value))], aa.tmps.getD p.1 undef = p.2 := by
            intro p hp
            simp only [List.mem_cons, List.not_mem_nil, or_false] at hp
            rcases hp with rfl | rfl | rfl | rfl | rfl | rfl | rfl | rfl | rfl
            · exact e0 _ rfl
            · exact (e1 _ rfl).trans k1
            · exact e2 _ rfl
            · exact e3 _ rfl
            · exact e4 _ rfl
            · exact e5 _ rfl
            · exact (e6 _ rfl).trans k6
            · exact e7 _ rfl
            · exact (e9 _ rfl).trans k9
          have hact := act_fold _ hB hv (by kernel_rfl)
          subst hact
          obtain ⟨d_g, d_o1, d_n1, d_c1, d_o2, d_n2, d_c2, hpg, hpv, hrow, hwr, hbx⟩ := fills_end hC hFin k7 k5
          generalize vals 0 = d_v0 at *
          generalize vals 2 = d_v2 at *
          generalize vals 3 = d_v3 at *
          generalize vals 4 = d_v4 at *
          rw [hpg, hpv]
          clear hv hall hB hC hFin k0 e0 k1 e1 k2 e2 k3 e3 k4 e4 k5 e5 k6 e6 k7 e7 k9 e9 hpg hpv
          refine (‹∀ (a : Act) (w : World), Code.wp Try.prog _ _ a w → _›) _ wA ?_
          simp only [List.foldl, List.setIfInBounds_toArray, List.set_cons_succ, List.set_cons_zero]
          have hja := join_anti HSD.out HP.out HLN.out.1 HLN.out.2.1
          rw [hja]
          rw [hja] at hwr
          have hwr2 : Wr wA (.agg #[.slice d_o1 d_n1 d_c1, .slice d_o2 d_n2 d_c2]) (-1 :: m) (0 :: s) := hwr
          clear hja hwr
          have HB4 := Lib.hid (HB3.out.trans (hbx.mono HB3.out.size))
          have Ra4 := Lib.hid ((hbx.block _ (Array.getElem?_eq_some_iff.1 Ra3.out).1).trans Ra3.out)
          have HX_4 := Lib.hid (HX_3.out.below hbx)
          clear HB3 Ra3 HX_3
          have Rd4 := Lib.hid hrow
          have HT_4 := Lib.hid hwr2
          clear hbx hrow hwr2
          obtain ⟨ca4, da4, ya4, za4⟩ := rowp2 Ra4.out
          obtain ⟨cd4, dd4, yd4, zd4⟩ := rowp2 Rd4.out
          have hzw : z + 1 ≤ 256 := by omega
          go_wp2_with fail
          refine (mark_any (z + 1) wA).mono ?_
          rintro e wB ⟨⟨x9, rfl, hx9⟩, hbx⟩
          rw [mrkA_yes (by unfold markB; rw [decide_eq_true (show 0 < z + 1 by omega)]; rfl)] at hx9
          have HB5 := Lib.hid (HB4.out.trans (hbx.mono HB4.out.size))
          have Ra5 := Lib.hid ((hbx.block _ (Array.getElem?_eq_some_iff.1 Ra4.out).1).trans Ra4.out)
          have Rd5 := Lib.hid ((hbx.block _ (Array.getElem?_eq_some_iff.1 Rd4.out).1).trans Rd4.out)
          have HX_5 := Lib.hid (HX_4.out.below hbx)
          have HT_5 := Lib.hid (HT_4.out.below hbx)
          clear HB4 Ra4 Rd4 HX_4 HT_4
          clear hbx
          clear ca4 da4 ya4 za4 cd4 dd4 yd4 zd4
          obtain ⟨ca5, da5, ya5, za5⟩ := rowp2 Ra5.out
          obtain ⟨cd5, dd5, yd5, zd5⟩ := rowp2 Rd5.out
          have HK_5 := Lib.hid hx9
          clear hx9
          have HG1 := Lib.hid (And.intro (Array.getElem?_eq_some_iff.1 Rd5.out).1 (Array.getElem?_eq_some_iff.1 Ra5.out).1)
          obtain ⟨_, _, rfl, hp1, hp2⟩ := HK_5.out.cells
          obtain ⟨-, ko, kp, rfl, -, -⟩ := hp1.cases
          obtain ⟨-, kq, kr, rfl, -, -⟩ := hp2.cases
          clear hp1 hp2
          simp only [List.length_cons, List.length_nil, Nat.zero_add] at HK_5 ⊢
          have hbx := below1 wB (.cells #[.slice ko 1 kp, .slice kq 1 kr] 24)
          have hnx := heap_alloc_new wB (.cells #[.slice ko 1 kp, .slice kq 1 kr] 24)
          have HB6 := Lib.hid (HB5.out.trans (hbx.mono HB5.out.size))
          have Ra6 := Lib.hid ((hbx.block _ (Array.getElem?_eq_some_iff.1 Ra5.out).1).trans Ra5.out)
          have Rd6 := Lib.hid ((hbx.block _ (Array.getElem?_eq_some_iff.1 Rd5.out).1).trans Rd5.out)
          have HX_6 := Lib.hid (HX_5.out.below hbx)
          have HT_6 := Lib.hid (HT_5.out.below hbx)
          have HK_6 := Lib.hid (HK_5.out.below hbx)
          clear HB5 Ra5 Rd5 HX_5 HT_5 HK_5
          have Rk7 := Lib.hid hnx
          clear hbx hnx
          go_upto_region 5 with fail
          clear ca5 da5 ya5 za5 cd5 dd5 yd5 zd5
          generalize wB.alloc (.cells #[.slice ko 1 kp, .slice kq 1 kr] 24) = wBa at *
          obtain ⟨ca6, da6, ya6, za6⟩ := rowp2 Ra6.out
          obtain ⟨cd6, dd6, yd6, zd6⟩ := rowp2 Rd6.out
          obtain ⟨ck6, dk6, yk6, zk6⟩ := rowp2 Rk7.out
          go_wp2_with fail
          refine (lown_any _ m s _ HX_6.out (by have := HLN.out; omega) (by have := HLN.out; omega)).mono ?_
          rintro e wC ⟨⟨x10, rfl, hx10⟩, hbx⟩
          have HB8 := Lib.hid (HB6.out.trans (hbx.mono HB6.out.size))
          have Ra8 := Lib.hid ((hbx.block _ (Array.getElem?_eq_some_iff.1 Ra6.out).1).trans Ra6.out)
          have Rd8 := Lib.hid ((hbx.block _ (Array.getElem?_eq_some_iff.1 Rd6.out).1).trans Rd6.out)
          have Rk8 := Lib.hid ((hbx.block _ (Array.getElem?_eq_some_iff.1 Rk7.out).1).trans Rk7.out)
          have HX_8 := Lib.hid (HX_6.out.below hbx)
          have HT_8 := Lib.hid (HT_6.out.below hbx)
          have HK_8 := Lib.hid (HK_6.out.below hbx)
          clear HB6 Ra6 Rd6 Rk7 HX_6 HT_6 HK_6
          clear hbx
          clear ca6 da6 ya6 za6 cd6 dd6 yd6 zd6 ck6 dk6 yk6 zk6
          obtain ⟨ca7, da7, ya7, za7⟩ := rowp2 Ra8.out
          obtain ⟨cd7, dd7, yd7, zd7⟩ := rowp2 Rd8.out
          obtain ⟨ck7, dk7, yk7, zk7⟩ := rowp2 Rk8.out
          have HW_8 := Lib.hid hx10
          clear hx10
          have HG3 := Lib.hid (Array.getElem?_eq_some_iff.1 Rk8.out).1
          obtain ⟨_, _, rfl, hp1, hp2⟩ := HW_8.out.cells
          obtain ⟨-, lo, lp, hp3, -, -⟩ := hp1.cases
          obtain ⟨-, lq, lr, hp4, -, -⟩ := hp2.cases
          generalize m.length = lm at hp3
          rw [HLa.out.2] at hp4
          subst hp3 hp4
          clear hp1 hp2
          have hbx := below1 wC (.cells #[.slice lo lm lp, .slice lq an lr] 24)
          have hnx := heap_alloc_new wC (.cells #[.slice lo lm lp, .slice lq an lr] 24)
          have HB9 := Lib.hid (HB8.out.trans (hbx.mono HB8.out.size))
          have Ra9 := Lib.hid ((hbx.block _ (Array.getElem?_eq_some_iff.1 Ra8.out).1).trans Ra8.out)
          have Rd9 := Lib.hid ((hbx.block _ (Array.getElem?_eq_some_iff.1 Rd8.out).1).trans Rd8.out)
          have Rk9 := Lib.hid ((hbx.block _ (Array.getElem?_eq_some_iff.1 Rk8.out).1).trans Rk8.out)
          have HX_9 := Lib.hid (HX_8.out.below hbx)
          have HT_9 := Lib.hid (HT_8.out.below hbx)
          have HK_9 := Lib.hid (HK_8.out.below hbx)
          have HW_9 := Lib.hid (HW_8.out.below hbx)
          clear HB8 Ra8 Rd8 Rk8 HX_8 HT_8 HK_8 HW_8
          have Rl10 := Lib.hid hnx
          clear hbx hnx
          go_upto_region 7 with fail
          clear ca7 da7 ya7 za7 cd7 dd7 yd7 zd7 ck7 dk7 yk7 zk7
          generalize wC.alloc (.cells #[.slice lo lm lp, .slice lq an lr] 24) = wCa at *
          obtain ⟨ca8, da8, ya8, za8⟩ := rowp2 Ra9.out
          obtain ⟨cd8, dd8, yd8, zd8⟩ := rowp2 Rd9.out
          obtain ⟨ck8, dk8, yk8, zk8⟩ := rowp2 Rk9.out
          obtain ⟨cl8, dl8, yl8, zl8⟩ := rowp2 Rl10.out
          clear ca8 da8 ya8 za8 cd8 dd8 yd8 zd8 ck8 dk8 yk8 zk8 cl8 dl8 yl8 zl8
          obtain ⟨G9, hG9⟩ : ∃ G, G = wB.heap.size := ⟨_, rfl⟩
          obtain ⟨G10, hG10⟩ : ∃ G, G = wC.heap.size := ⟨_, rfl⟩
          have HG : Hid (d_g < G9 ∧ G9 < G10 ∧ w.heap.size < G9) := Lib.hid (by rw [hG9, hG10]; exact ⟨HG1.out.1, HG3.out, HG1.out.2⟩)
          rw [← hG9] at Rk9 ⊢
          rw [← hG10] at Rl10 ⊢
          clear hG9 hG10 HG1 HG3
          go_loopw [11] (fun v wr => ∃ (i : Nat) (rvv : List Int), i ≤ rl ∧ rvv.length = i ∧ (∀ r ∈ rvv, 0 < r) ∧ v = .int .i64 (i : Nat) ∧ Below w.heap.size w wr ∧ wr.heap[d_g]? = some (.cells #[.slice d_o1 d_n1 d_c1, .slice d_o2 d_n2 d_c2] 24 (0, 0)) ∧ Wr wr (.agg #[.slice d_o1 d_n1 d_c1, .slice d_o2 d_n2 d_c2]) (-1 :: m) (0 :: s) ∧ (∃ o1 c1 o2 c2, wr.heap[G9]? = some (.cells #[.slice o1 1 c1, .slice o2 (i + 1) c2] 24 (0, 0)) ∧ Wr wr (.agg #[.slice o1 1 c1, .slice o2 (i + 1) c2]) [z + 1] (rvv ++ [0])) ∧ (∃ o1 n1 c1 o2 n2 c2, wr.heap[G10]? = some (.cells #[.slice o1 n1 c1, .slice o2 n2 c2] 24 (0, 0)) ∧ Wr wr (.agg #[.slice o1 n1 c1, .slice o2 n2 c2]) m (rvv ++ s))) (fun v _ => rl - (intOf v).toNat)
          case atStart => exact ⟨0, [], Nat.zero_le _, rfl, (fun r hr => by cases hr), rfl, HB9.out, Rd9.out, HT_9.out, ⟨_, _, _, _, Rk9.out, HK_9.out⟩, ⟨_, _, _, _, _, _, Rl10.out, HW_9.out⟩⟩
          case round =>
            obtain ⟨i, rvv, hi, hrl2, hrp, rfl, hbr, hrd, htk, ⟨ko2, kp2, kq2, kr2, hrk, hka⟩, ⟨lo2, lm2, lp2, lq2, ln2, lr2, hrw, hwa⟩⟩ := hrel
            have HBr := Lib.hid hbr
            have Rd0 := Lib.hid hrd
            have HT_0 := Lib.hid htk
            have Rk0 := Lib.hid hrk
            have HK_0 := Lib.hid hka
            have Rl0 := Lib.hid hrw
            have HW_0 := Lib.hid hwa
            have HRP := Lib.hid hrp
            have HRV := Lib.hid hrl2
            clear hbr hrd htk hrk hka hrw hwa hrp hrl2
            obtain ⟨cd0, dd0, yd0, zd0⟩ := rowp2 Rd0.out
            obtain ⟨ck0, dk0, yk0, zk0⟩ := rowp2 Rk0.out
            obtain ⟨cl0, dl0, yl0, zl0⟩ := rowp2 Rl0.out
            have hlens : rvv.length ≤ 20 := by have := HRV.out; have := HLN.out; omega
            have HL20 := Lib.hid hlens
            clear hlens
            by_cases hlt : i < rl
            · have hlti : ((i : Nat) : Int) < ((rl : Nat) : Int) := by omega
              obtain ⟨bb, bf, bc, hbe, _, hbc⟩ := (HR.out.below HBr.out).at' (i := i) (by have := HRL.out; omega)
              injection hbe with e1 e2 e3
              subst e1 e3
              obtain ⟨xx, hxx⟩ : ∃ k, k = limb xs i := ⟨_, rfl⟩
              rw [← hxx] at hbc
              have hx9 : xx < 256 := by rw [hxx]; exact HBY.out i
              clear hxx e2
              have hx8 : ((xx : Nat) : Int) < 256 := by omega
              go_wp2_with fail
              refine (rib_any (((xx : Nat) : Int) + 1) wr).mono ?_
              rintro e wP ⟨⟨x12, rfl, hx12⟩, hbx⟩
              rw [ribA_yes (show 0 < ((xx : Nat) : Int) + 1 by omega)] at hx12
              have HB1 := Lib.hid (HBr.out.trans (hbx.mono HBr.out.size))
              have Rd1 := Lib.hid ((hbx.block _ (Array.getElem?_eq_some_iff.1 Rd0.out).1).trans Rd0.out)
              have Rk1 := Lib.hid ((hbx.block _ (Array.getElem?_eq_some_iff.1 Rk0.out).1).trans Rk0.out)
              have Rl1 := Lib.hid ((hbx.block _ (Array.getElem?_eq_some_iff.1 Rl0.out).1).trans Rl0.out)
              have HT_1 := Lib.hid (HT_0.out.below hbx)
              have HK_1 := Lib.hid (HK_0.out.below hbx)
              have HW_1 := Lib.hid (HW_0.out.below hbx)
              clear HBr Rd0 Rk0 Rl0 HT_0 HK_0 HW_0
              clear hbx
              clear cd0 dd0 yd0 zd0 ck0 dk0 yk0 zk0 cl0 dl0 yl0 zl0
              obtain ⟨cd1, dd1, yd1, zd1⟩ := rowp2 Rd1.out
              obtain ⟨ck1, dk1, yk1, zk1⟩ := rowp2 Rk1.out
              obtain ⟨cl1, dl1, yl1, zl1⟩ := rowp2 Rl1.out
              clear hbc
              have HP_1 := Lib.hid hx12
              clear hx12
              have HPG := Lib.hid (And.intro (Array.getElem?_eq_some_iff.1 Rd1.out).1 (And.intro (Array.getElem?_eq_some_iff.1 Rk1.out).1 (Array.getElem?_eq_some_iff.1 Rl1.out).1))
              obtain ⟨_, _, rfl, hp1, hp2⟩ := HP_1.out.cells
              obtain ⟨-, po, pp, rfl, -, -⟩ := hp1.cases
              obtain ⟨-, pq, pr, rfl, -, -⟩ := hp2.cases
              clear hp1 hp2
              simp only [List.length_cons, List.length_nil, Nat.zero_add] at HP_1 ⊢
              have hbx := below1 wP (.cells #[.slice po 0 pp, .slice pq 1 pr] 24)
              have hnx := heap_alloc_new wP (.cells #[.slice po 0 pp, .slice pq 1 pr] 24)
              have HB2 := Lib.hid (HB1.out.trans (hbx.mono HB1.out.size))
              have Rd2 := Lib.hid ((hbx.block _ (Array.getElem?_eq_some_iff.1 Rd1.out).1).trans Rd1.out)
              have Rk2 := Lib.hid ((hbx.block _ (Array.getElem?_eq_some_iff.1 Rk1.out).1).trans Rk1.out)
              have Rl2 := Lib.hid ((hbx.block _ (Array.getElem?_eq_some_iff.1 Rl1.out).1).trans Rl1.out)
              have HT_2 := Lib.hid (HT_1.out.below hbx)
              have HK_2 := Lib.hid (HK_1.out.below hbx)
              have HW_2 := Lib.hid (HW_1.out.below hbx)
              have HP_2 := Lib.hid (HP_1.out.below hbx)
              clear HB1 Rd1 Rk1 Rl1 HT_1 HK_1 HW_1 HP_1
              have Rp3 := Lib.hid hnx
              clear hbx hnx
              go_upto_region 10 with fail
              clear cd1 dd1 yd1 zd1 ck1 dk1 yk1 zk1 cl1 dl1 yl1 zl1
              generalize wP.alloc (.cells #[.slice po 0 pp, .slice pq 1 pr] 24) = wPa at *
              obtain ⟨cd2, dd2, yd2, zd2⟩ := rowp2 Rd2.out
              obtain ⟨ck2, dk2, yk2, zk2⟩ := rowp2 Rk2.out
              obtain ⟨cl2, dl2, yl2, zl2⟩ := rowp2 Rl2.out
              obtain ⟨cp2, dp2, yp2, zp2⟩ := rowp2 Rp3.out
              have hpg : d_g < wP.heap.size ∧ G9 < wP.heap.size ∧ G10 < wP.heap.size := HPG.out
              have HPN := Lib.hid hpg
              clear hpg HPG
              have hj := join_rib (m := [z + 1]) (s := rvv ++ [0]) (r := ((xx : Nat) : Int) + 1) (by omega) (sndS_ribs HRP.out (sndS_mark (by omega))) (by simp) (by have := HL20.out; simp; omega)
              have HJ1 := Lib.hid hj
              clear hj
              go_wp2_with fail
              refine (wjoin_any _ _ _ _ _ _ _ HP_2.out HK_2.out).mono ?_
              rintro e wQ ⟨⟨z1, rfl, hz1⟩, hbx⟩
              simp only [HJ1.out] at hz1 ⊢
              have HB4 := Lib.hid (HB2.out.trans (hbx.mono HB2.out.size))
              have Rd4 := Lib.hid ((hbx.block _ (Array.getElem?_eq_some_iff.1 Rd2.out).1).trans Rd2.out)
              have Rk4 := Lib.hid ((hbx.block _ (Array.getElem?_eq_some_iff.1 Rk2.out).1).trans Rk2.out)
              have Rl4 := Lib.hid ((hbx.block _ (Array.getElem?_eq_some_iff.1 Rl2.out).1).trans Rl2.out)
              have Rp4 := Lib.hid ((hbx.block _ (Array.getElem?_eq_some_iff.1 Rp3.out).1).trans Rp3.out)
              have HT_4 := Lib.hid (HT_2.out.below hbx)
              have HK_4 := Lib.hid (HK_2.out.below hbx)
              have HW_4 := Lib.hid (HW_2.out.below hbx)
              have HP_4 := Lib.hid (HP_2.out.below hbx)
              clear HB2 Rd2 Rk2 Rl2 Rp3 HT_2 HK_2 HW_2 HP_2
              clear hbx
              clear cd2 dd2 yd2 zd2 ck2 dk2 yk2 zk2 cl2 dl2 yl2 zl2 cp2 dp2 yp2 zp2
              obtain ⟨cd3, dd3, yd3, zd3⟩ := rowp2 Rd4.out
              obtain ⟨ck3, dk3, yk3, zk3⟩ := rowp2 Rk4.out
              obtain ⟨cl3, dl3, yl3, zl3⟩ := rowp2 Rl4.out
              obtain ⟨cp3, dp3, yp3, zp3⟩ := rowp2 Rp4.out
              have HA_4 := Lib.hid hz1
              clear hz1
              obtain ⟨_, _, rfl, hp1, hp2⟩ := HA_4.out.cells
              obtain ⟨-, so, sp, rfl, -, -⟩ := hp1.cases
              obtain ⟨-, sq, sr, hse, -, -⟩ := hp2.cases
              clear hp1 hp2
              have hl1 : ((((xx : Nat) : Int) + 1) :: (rvv ++ [0])).length = i + 1 + 1 := by have := HRV.out; simp; omega
              rw [hl1] at hse
              subst hse
              clear hl1
              simp only [List.length_cons, List.length_nil, Nat.zero_add] at HA_4 ⊢
              have Rd5 := Lib.hid ((far2 ((show d_g ≠ G9 by have := HG.out; omega)) (.slice so 1 sp) (.slice sq (i + 1 + 1) sr)).trans Rd4.out)
              have Rk5 := Lib.hid (putp2 Rk4.out (.slice so 1 sp) (.slice sq (i + 1 + 1) sr))
              have Rl5 := Lib.hid ((far2 ((show G10 ≠ G9 by have := HG.out; omega)) (.slice so 1 sp) (.slice sq (i + 1 + 1) sr)).trans Rl4.out)
              have Rp5 := Lib.hid ((far2 ((show wP.heap.size ≠ G9 by have := HPN.out; omega)) (.slice so 1 sp) (.slice sq (i + 1 + 1) sr)).trans Rp4.out)
              have HT_5 := Lib.hid (HT_4.out.fill Rk4.out (.slice so 1 sp) (.slice sq (i + 1 + 1) sr))
              have HK_5 := Lib.hid (HK_4.out.fill Rk4.out (.slice so 1 sp) (.slice sq (i + 1 + 1) sr))
              have HW_5 := Lib.hid (HW_4.out.fill Rk4.out (.slice so 1 sp) (.slice sq (i + 1 + 1) sr))
              have HP_5 := Lib.hid (HP_4.out.fill Rk4.out (.slice so 1 sp) (.slice sq (i + 1 + 1) sr))
              have HA_5 := Lib.hid (HA_4.out.fill Rk4.out (.slice so 1 sp) (.slice sq (i + 1 + 1) sr))
              have HB5 := Lib.hid (below_fill2 HB4.out ((show w.heap.size ≤ G9 by have := HG.out; omega)) (.slice so 1 sp) (.slice sq (i + 1 + 1) sr))
              go_upto_region 12 with fail
              clear cd3 dd3 yd3 zd3 ck3 dk3 yk3 zk3 cl3 dl3 yl3 zl3 cp3 dp3 yp3 zp3
              clear HB4 Rd4 Rk4 Rl4 Rp4 HT_4 HK_4 HW_4 HP_4 HA_4
              generalize (wQ.setCell ⟨G9, 0, none⟩ (.slice so 1 sp)).setCell ⟨G9, 1, none⟩ (.slice sq (i + 1 + 1) sr) = wR at *
              obtain ⟨cd4, dd4, yd4, zd4⟩ := rowp2 Rd5.out
              obtain ⟨ck4, dk4, yk4, zk4⟩ := rowp2 Rk5.out
              obtain ⟨cl4, dl4, yl4, zl4⟩ := rowp2 Rl5.out
              obtain ⟨cp4, dp4, yp4, zp4⟩ := rowp2 Rp5.out
              have hj := join_rib (m := m) (s := rvv ++ s) (r := ((xx : Nat) : Int) + 1) (by omega) (sndS_ribs HRP.out HSD.out) (by have := HLN.out; omega) (by have := HL20.out; have := HLN.out; simp; omega)
              have HJ2 := Lib.hid hj
              clear hj
              go_wp2_with fail
              refine (wjoin_any _ _ _ _ _ _ _ HP_5.out HW_5.out).mono ?_
              rintro e wS ⟨⟨z2, rfl, hz2⟩, hbx⟩
              simp only [HJ2.out] at hz2 ⊢
              have HB6 := Lib.hid (HB5.out.trans (hbx.mono HB5.out.size))
              have Rd6 := Lib.hid ((hbx.block _ (Array.getElem?_eq_some_iff.1 Rd5.out).1).trans Rd5.out)
              have Rk6 := Lib.hid ((hbx.block _ (Array.getElem?_eq_some_iff.1 Rk5.out).1).trans Rk5.out)
              have Rl6 := Lib.hid ((hbx.block _ (Array.getElem?_eq_some_iff.1 Rl5.out).1).trans Rl5.out)
              have Rp6 := Lib.hid ((hbx.block _ (Array.getElem?_eq_some_iff.1 Rp5.out).1).trans Rp5.out)
              have HT_6 := Lib.hid (HT_5.out.below hbx)
              have HW_6 := Lib.hid (HW_5.out.below hbx)
              have HP_6 := Lib.hid (HP_5.out.below hbx)
              have HA_6 := Lib.hid (HA_5.out.below hbx)
              clear HB5 Rd5 Rk5 Rl5 Rp5 HT_5 HW_5 HP_5 HA_5
              clear hbx
              clear cd4 dd4 yd4 zd4 ck4 dk4 yk4 zk4 cl4 dl4 yl4 zl4 cp4 dp4 yp4 zp4
              obtain ⟨cd5, dd5, yd5, zd5⟩ := rowp2 Rd6.out
              obtain ⟨ck5, dk5, yk5, zk5⟩ := rowp2 Rk6.out
              obtain ⟨cl5, dl5, yl5, zl5⟩ := rowp2 Rl6.out
              obtain ⟨cp5, dp5, yp5, zp5⟩ := rowp2 Rp6.out
              have HC_6 := Lib.hid hz2
              clear hz2
              obtain ⟨_, _, rfl, hp1, hp2⟩ := HC_6.out.cells
              obtain ⟨-, to_, tp, hp3, -, -⟩ := hp1.cases
              obtain ⟨-, tq, tr, hp4, -, -⟩ := hp2.cases
              generalize m.length = tm at hp3
              generalize List.length (_ :: _) = tn at hp4
              subst hp3 hp4
              clear hp1 hp2
              have Rd7 := Lib.hid ((far2 ((show d_g ≠ G10 by have := HG.out; omega)) (.slice to_ tm tp) (.slice tq tn tr)).trans Rd6.out)
              have Rk7 := Lib.hid ((far2 ((show G9 ≠ G10 by have := HG.out; omega)) (.slice to_ tm tp) (.slice tq tn tr)).trans Rk6.out)
              have Rl7 := Lib.hid (putp2 Rl6.out (.slice to_ tm tp) (.slice tq tn tr))
              have Rp7 := Lib.hid ((far2 ((show wP.heap.size ≠ G10 by have := HPN.out; omega)) (.slice to_ tm tp) (.slice tq tn tr)).trans Rp6.out)
              have HT_7 := Lib.hid (HT_6.out.fill Rl6.out (.slice to_ tm tp) (.slice tq tn tr))
              have HW_7 := Lib.hid (HW_6.out.fill Rl6.out (.slice to_ tm tp) (.slice tq tn tr))
              have HP_7 := Lib.hid (HP_6.out.fill Rl6.out (.slice to_ tm tp) (.slice tq tn tr))
              have HA_7 := Lib.hid (HA_6.out.fill Rl6.out (.slice to_ tm tp) (.slice tq tn tr))
              have HC_7 := Lib.hid (HC_6.out.fill Rl6.out (.slice to_ tm tp) (.slice tq tn tr))
              have HB7 := Lib.hid (below_fill2 HB6.out ((show w.heap.size ≤ G10 by have := HG.out; omega)) (.slice to_ tm tp) (.slice tq tn tr))
              go_upto_region 13 with fail
              clear cd5 dd5 yd5 zd5 ck5 dk5 yk5 zk5 cl5 dl5 yl5 zl5 cp5 dp5 yp5 zp5
              clear HB6 Rd6 Rk6 Rl6 Rp6 HT_6 HW_6 HP_6 HA_6 HC_6
              generalize (wS.setCell ⟨G10, 0, none⟩ (.slice to_ tm tp)).setCell ⟨G10, 1, none⟩ (.slice tq tn tr) = wT at *
              obtain ⟨cd6, dd6, yd6, zd6⟩ := rowp2 Rd7.out
              obtain ⟨ck6, dk6, yk6, zk6⟩ := rowp2 Rk7.out
              obtain ⟨cl6, dl6, yl6, zl6⟩ := rowp2 Rl7.out
              obtain ⟨cp6, dp6, yp6, zp6⟩ := rowp2 Rp7.out
              clear cd6 dd6 yd6 zd6 ck6 dk6 yk6 zk6 cl6 dl6 yl6 zl6 cp6 dp6 yp6 zp6
              go_wp2_with fail
              have hrp2 : ∀ r ∈ (((xx : Nat) : Int) + 1) :: rvv, 0 < r := by
                intro r hr
                rcases List.mem_cons.1 hr with rfl | hr
                · omega
                · exact HRP.out r hr
              go_roundw
              case rel => exact ⟨i + 1, (((xx : Nat) : Int) + 1) :: rvv, by omega, by have := HRV.out; simp; omega, hrp2, by go_num, HB7.out, Rd7.out, HT_7.out, ⟨_, _, _, _, Rk7.out, HA_7.out⟩, ⟨_, _, _, _, _, _, Rl7.out, HC_7.out⟩⟩
              case measure => simp only [intOf]; omega
            · have hlti : ¬ ((i : Nat) : Int) < ((rl : Nat) : Int) := by omega
              obtain ⟨cd0, dd0, yd0, zd0⟩ := rowp2 Rd0.out
              obtain ⟨ck0, dk0, yk0, zk0⟩ := rowp2 Rk0.out
              obtain ⟨cl0, dl0, yl0, zl0⟩ := rowp2 Rl0.out
              have hj := join_taken (m := m) (s := s) (rv := rvv) (n := z + 1) (by omega) HRP.out HSD.out HP.out HLN.out.1 HLN.out.2.1 HL20.out
              have HJ3 := Lib.hid hj
              clear hj
              go_wp2_with fail
              refine (wjoin_any _ _ _ _ _ _ _ HK_0.out HT_0.out).mono ?_
              rintro e wU ⟨⟨z3, rfl, hz3⟩, hbx⟩
              simp only [HJ3.out] at hz3 ⊢
              have HB1 := Lib.hid (HBr.out.trans (hbx.mono HBr.out.size))
              have Rd1 := Lib.hid ((hbx.block _ (Array.getElem?_eq_some_iff.1 Rd0.out).1).trans Rd0.out)
              have Rk1 := Lib.hid ((hbx.block _ (Array.getElem?_eq_some_iff.1 Rk0.out).1).trans Rk0.out)
              have Rl1 := Lib.hid ((hbx.block _ (Array.getElem?_eq_some_iff.1 Rl0.out).1).trans Rl0.out)
              have HT_1 := Lib.hid (HT_0.out.below hbx)
              have HK_1 := Lib.hid (HK_0.out.below hbx)
              have HW_1 := Lib.hid (HW_0.out.below hbx)
              clear HBr Rd0 Rk0 Rl0 HT_0 HK_0 HW_0
              clear hbx
              clear cd0 dd0 yd0 zd0 ck0 dk0 yk0 zk0 cl0 dl0 yl0 zl0
              obtain ⟨cd1, dd1, yd1, zd1⟩ := rowp2 Rd1.out
              obtain ⟨ck1, dk1, yk1, zk1⟩ := rowp2 Rk1.out
              obtain ⟨cl1, dl1, yl1, zl1⟩ := rowp2 Rl1.out
              have HC_1 := Lib.hid hz3
              clear hz3
              obtain ⟨_, _, rfl, hp1, hp2⟩ := HC_1.out.cells
              obtain ⟨-, to_, tp, hp3, -, -⟩ := hp1.cases
              obtain ⟨-, tq, tr, hp4, -, -⟩ := hp2.cases
              generalize m.length = tm at hp3
              generalize List.length (_ ++ _) = tn at hp4
              subst hp3 hp4
              clear hp1 hp2
              have hbx := below1 wU (.cells #[.slice to_ tm tp, .slice tq tn tr] 24)
              have hnx := heap_alloc_new wU (.cells #[.slice to_ tm tp, .slice tq tn tr] 24)
              have HB2 := Lib.hid (HB1.out.trans (hbx.mono HB1.out.size))
              have Rd2 := Lib.hid ((hbx.block _ (Array.getElem?_eq_some_iff.1 Rd1.out).1).trans Rd1.out)
              have Rk2 := Lib.hid ((hbx.block _ (Array.getElem?_eq_some_iff.1 Rk1.out).1).trans Rk1.out)
              have Rl2 := Lib.hid ((hbx.block _ (Array.getElem?_eq_some_iff.1 Rl1.out).1).trans Rl1.out)
              have HT_2 := Lib.hid (HT_1.out.below hbx)
              have HK_2 := Lib.hid (HK_1.out.below hbx)
              have HW_2 := Lib.hid (HW_1.out.below hbx)
              have HC_2 := Lib.hid (HC_1.out.below hbx)
              clear HB1 Rd1 Rk1 Rl1 HT_1 HK_1 HW_1 HC_1
              have Re3 := Lib.hid hnx
              clear hbx hnx
              go_upto_region 16 with fail
              clear cd1 dd1 yd1 zd1 ck1 dk1 yk1 zk1 cl1 dl1 yl1 zl1
              generalize wU.alloc (.cells #[.slice to_ tm tp, .slice tq tn tr] 24) = wUa at *
              obtain ⟨cd2, dd2, yd2, zd2⟩ := rowp2 Rd2.out
              obtain ⟨ck2, dk2, yk2, zk2⟩ := rowp2 Rk2.out
              obtain ⟨cl2, dl2, yl2, zl2⟩ := rowp2 Rl2.out
              obtain ⟨ce2, de2, ye2, ze2⟩ := rowp2 Re3.out
              go_wp2_with fail
              refine (lsame_wr _ _ _ _ _ _ _ HC_2.out HW_2.out).mono ?_
              rintro e wV ⟨rfl, hbx⟩
              rw [sameZ_true rfl, sameZ_true rfl]
              have HB4 := Lib.hid (HB2.out.trans (hbx.mono HB2.out.size))
              have Rd4 := Lib.hid ((hbx.block _ (Array.getElem?_eq_some_iff.1 Rd2.out).1).trans Rd2.out)
              have Rk4 := Lib.hid ((hbx.block _ (Array.getElem?_eq_some_iff.1 Rk2.out).1).trans Rk2.out)
              have Rl4 := Lib.hid ((hbx.block _ (Array.getElem?_eq_some_iff.1 Rl2.out).1).trans Rl2.out)
              have Re4 := Lib.hid ((hbx.block _ (Array.getElem?_eq_some_iff.1 Re3.out).1).trans Re3.out)
              have HT_4 := Lib.hid (HT_2.out.below hbx)
              have HK_4 := Lib.hid (HK_2.out.below hbx)
              have HW_4 := Lib.hid (HW_2.out.below hbx)
              have HC_4 := Lib.hid (HC_2.out.below hbx)
              clear HB2 Rd2 Rk2 Rl2 Re3 HT_2 HK_2 HW_2 HC_2
              clear hbx
              clear cd2 dd2 yd2 zd2 ck2 dk2 yk2 zk2 cl2 dl2 yl2 zl2 ce2 de2 ye2 ze2
              obtain ⟨cd3, dd3, yd3, zd3⟩ := rowp2 Rd4.out
              obtain ⟨ck3, dk3, yk3, zk3⟩ := rowp2 Rk4.out
              obtain ⟨cl3, dl3, yl3, zl3⟩ := rowp2 Rl4.out
              obtain ⟨ce3, de3, ye3, ze3⟩ := rowp2 Re4.out
              go_wp2_with fail
              go_ret
              exact ⟨rfl, HB4.out⟩
      · obtain ⟨hb0, ho0, rfl, hcl⟩ := HCL.out hm1
        go_wp2_with fail
        clear ca3 da3 ya3 za3
        refine (answers9_any _).mono ?_
        rintro e wz ⟨rfl, hbx⟩
        have HBz := Lib.hid (HB3.out.trans (hbx.mono HB3.out.size))
        clear hbx
        go_wp2_with fail
        go_ret
        exact ⟨rfl, HBz.out⟩
      · obtain ⟨hb0, ho0, rfl, hcl⟩ := HCL.out hm1
        have HP := Lib.hid (HPOS.out (.inr hm2))
        clear HPOS
        by_cases hc3 : 20 < rl
        · go_wp2_with fail
          clear ca3 da3 ya3 za3
          refine (answers9_any _).mono ?_
          rintro e wz ⟨rfl, hbx⟩
          have HBz := Lib.hid (HB3.out.trans (hbx.mono HB3.out.size))
          clear hbx
          go_wp2_with fail
          go_ret
          exact ⟨rfl, HBz.out⟩
        have HLN : Hid (m.length ≤ 200 ∧ s.length ≤ 200 ∧ rl ≤ 20) := Lib.hid (by have := HLa.out; omega)
        go_upto_region 3 with fail
        clear HCL
        try clear h00
        clear ca3 da3 ya3 za3
        refine wp_region_late 8 7 5 7 68 (psi [isWr ((mrkA (-1)).1) ((mrkA (-1)).2), isV (.agg #[.slice (some ⟨hb0, ho0, none⟩) am ap, .slice aq an ar]), isWr (m) (s), isJ (joinA ((mrkA (-1)).1) ((mrkA (-1)).2) (m) (s)), isJ (joinA ((mrkA (-1)).1) ((mrkA (-1)).2) (m) (s)), isWr (joinA ((mrkA (-1)).1) ((mrkA (-1)).2) (m) (s)).1 (joinA ((mrkA (-1)).1) ((mrkA (-1)).2) (m) (s)).2.1, isV (.int .i64 (joinA ((mrkA (-1)).1) ((mrkA (-1)).2) (m) (s)).2.2), isBox w3.heap.size, nothing, isV (.int .i64 (joinA ((mrkA (-1)).1) ((mrkA (-1)).2) (m) (s)).2.2)]) (fun W => Below w3.heap.size w3 W) (FillsP) (by kernel_rfl) (Below.refl _ _).drew (psi_mono ?_) (by kernel_rfl) (by kernel_rfl) (by kernel_rfl) ?_ ?_
        · intro p hp
          simp only [List.mem_cons, List.not_mem_nil, or_false] at hp
          (repeat' rcases hp with rfl | hp) <;> first | exact isV_stays _ | exact nothing_stays | (subst hp; first | exact isV_stays _ | exact nothing_stays) | exact isBox_stays _ | exact isJ_stays _ | exact isWr_stays _ _ | (subst hp; exact isBox_stays _) | (subst hp; exact isJ_stays _) | (subst hp; exact isWr_stays _ _)
        · refine AllOps.cons ?_ ?_
          · refine OpL.early (by kernel_rfl) (by kernel_rfl) fun ab W hC hB hdep => ?_
            refine .inl ⟨rfl, ?_⟩
            clear hB hdep
            refine goes_call (f := 18) (args := #[.int .i64 (-1)]) ?_ ?_
            · simp only [execOp]
              go_simp
            · exact (mark_any (-1) W).mono fun e w7 ⟨⟨v7, he, hi⟩, hb⟩ => ⟨v7, he, hC.trans (hb.mono hC.size), hb, hi⟩
          refine AllOps.cons ?_ ?_
          · refine OpL.early (by kernel_rfl) (by kernel_rfl) fun ab W hC hB hdep => ?_
            refine .inl ⟨rfl, ?_⟩
            have b0 : ab.tmps.getD 3 undef = .pointer (some ⟨w.heap.size, 0, none⟩) := hB.off 3 (by kernel_rfl)
            obtain ⟨c0, c1, _, _⟩ := rowp2 ((hC.block _ (Array.getElem?_eq_some_iff.1 Ra3.out).1).trans Ra3.out)
            clear hB hdep
            refine goes_value (v := .agg #[.slice (some ⟨hb0, ho0, none⟩) am ap, .slice aq an ar]) ?_ hC rfl
            simp only [execOp, Act.eval, b0]
            go_simp
          refine AllOps.cons ?_ ?_
          · refine OpL.early (by kernel_rfl) (by kernel_rfl) fun ab W hC hB hdep => ?_
            refine .inl ⟨rfl, ?_⟩
            obtain ⟨x0, (q0 : (isV (.agg #[.slice (some ⟨hb0, ho0, none⟩) am ap, .slice aq an ar])) x0 W), e0⟩ := hdep 1 65 (by kernel_rfl)
            obtain rfl : x0 = .agg #[.slice (some ⟨hb0, ho0, none⟩) am ap, .slice aq an ar] := q0
            clear hB hdep
            refine goes_call (f := 12) (args := #[.agg #[.slice (some ⟨hb0, ho0, none⟩) am ap, .slice aq an ar]]) ?_ ?_
            · simp only [execOp]
              go_simp
            · exact (lown_any _ (m) (s) W (HX_3.out.below hC) (by have := HLN.out; omega) (by have := HLN.out; omega)).mono fun e w7 ⟨⟨v7, he, hi⟩, hb⟩ => ⟨v7, he, hC.trans (hb.mono hC.size), hb, hi⟩
          refine AllOps.cons ?_ ?_
          · refine OpL.early (by kernel_rfl) (by kernel_rfl) fun ab W hC hB hdep => ?_
            refine .inl ⟨rfl, ?_⟩
            obtain ⟨x0, (q0 : (isWr ((mrkA (-1)).1) ((mrkA (-1)).2)) x0 W), e0⟩ := hdep 0 64 (by kernel_rfl)
            skip
            obtain ⟨x1, (q1 : (isWr (m) (s)) x1 W), e1⟩ := hdep 2 66 (by kernel_rfl)
            skip
            clear hB hdep
            refine goes_call (f := 11) (args := #[x0, x1]) ?_ ?_
            · simp only [execOp]
              go_simp
            · exact (wjoin_any x0 x1 ((mrkA (-1)).1) ((mrkA (-1)).2) (m) (s) W (q0) (q1)).mono fun e w7 ⟨⟨v7, he, hi⟩, hb⟩ => ⟨_, he, hC.trans (hb.mono hC.size), hb, ⟨v7, rfl, hi⟩⟩
          refine AllOps.cons ?_ ?_
          · refine OpL.early (by kernel_rfl) (by kernel_rfl) fun ab W hC hB hdep => ?_
            refine .inl ⟨rfl, ?_⟩
            obtain ⟨x0, (q0 : (isJ (joinA ((mrkA (-1)).1) ((mrkA (-1)).2) (m) (s))) x0 W), e0⟩ := hdep 3 67 (by kernel_rfl)
            obtain ⟨jx0, rfl, hj0⟩ := q0
            clear hB hdep
            refine goes_value (v := .tuple #[jx0, .int .i64 (joinA ((mrkA (-1)).1) ((mrkA (-1)).2) (m) (s)).2.2]) ?_ hC ⟨jx0, rfl, hj0⟩
            simp only [execOp, Act.eval, e0]
            go_simp
          refine AllOps.cons ?_ ?_
          · refine OpL.early (by kernel_rfl) (by kernel_rfl) fun ab W hC hB hdep => ?_
            refine .inl ⟨rfl, ?_⟩
            obtain ⟨x0, (q0 : (isJ (joinA ((mrkA (-1)).1) ((mrkA (-1)).2) (m) (s))) x0 W), e0⟩ := hdep 4 63 (by kernel_rfl)
            obtain ⟨jx0, rfl, hj0⟩ := q0
            clear hB hdep
            refine goes_value (v := jx0) ?_ hC hj0
            simp only [execOp, Act.eval, e0]
            go_simp
          refine AllOps.cons ?_ ?_
          · refine OpL.pure (by kernel_rfl) (by kernel_rfl) fun ab W W1 hC hB hdep => .inl ⟨rfl, ?_⟩
            obtain ⟨x0, (q0 : (isJ (joinA ((mrkA (-1)).1) ((mrkA (-1)).2) (m) (s))) x0 W), e0⟩ := hdep 4 63 (by kernel_rfl)
            obtain ⟨jx0, rfl, hj0⟩ := q0
            clear hB hdep
            refine ⟨.int .i64 (joinA ((mrkA (-1)).1) ((mrkA (-1)).2) (m) (s)).2.2, ?_, rfl⟩
            simp only [execOp, Act.eval, e0]
            go_simp
          refine AllOps.cons ?_ ?_
          · refine OpL.early (by kernel_rfl) (by kernel_rfl) fun ab W hC hB hdep => ?_
            refine .inl ⟨rfl, ?_⟩
            clear hB hdep
            refine goes_world (v := .pointer (some ⟨W.heap.size, 0, none⟩)) (w1 := W.alloc (.cells #[.slice none 0 0, .slice none 0 0] 24)) ?_ (hC.trans ((below1 W _).mono hC.size)) (below1 W _) ⟨_, rfl, hC.size, heap_alloc_new W _⟩
            simp only [execOp]
            go_simp
          refine AllOps.cons ?_ ?_
          · refine OpL.write (by kernel_rfl) fun vals ab W hC hB hdep => ⟨rfl, ?_⟩
            obtain ⟨(q0 : (isBox w3.heap.size) (vals 7) W), e0⟩ := hdep 7 7 (by kernel_rfl)
            generalize vals 7 = x0 at *
            obtain ⟨g0, rfl, hge0, hg0⟩ := q0
            obtain ⟨(q1 : (isWr (joinA ((mrkA (-1)).1) ((mrkA (-1)).2) (m) (s)).1 (joinA ((mrkA (-1)).1) ((mrkA (-1)).2) (m) (s)).2.1) (vals 5) W), e1⟩ := hdep 5 68 (by kernel_rfl)
            generalize vals 5 = x1 at *
            obtain ⟨u1, v1, rfl, hu1, hv1⟩ := Wr.cells q1
            obtain ⟨_, uo1, uc1, rfl, _, _⟩ := hu1.cases
            obtain ⟨_, vo1, vc1, rfl, _, _⟩ := hv1.cases
            clear hB hdep
            obtain ⟨_, _, z1, z2⟩ := rowp2 hg0
            refine writes_skip (w1 := (W.setCell ⟨g0, 0, none⟩ _).setCell ⟨g0, 1, none⟩ _) ?_ ⟨_, _, _, rfl, rfl, rfl⟩
            simp only [execOp, Act.eval, e0, e1]
            go_simp
          refine AllOps.cons ?_ ?_
          · refine OpL.pure (by kernel_rfl) (by kernel_rfl) fun ab W W1 hC hB hdep => .inl ⟨rfl, ?_⟩
            obtain ⟨x0, (q0 : (isV (.int .i64 (joinA ((mrkA (-1)).1) ((mrkA (-1)).2) (m) (s)).2.2)) x0 W), e0⟩ := hdep 6 69 (by kernel_rfl)
            obtain rfl : x0 = .int .i64 (joinA ((mrkA (-1)).1) ((mrkA (-1)).2) (m) (s)).2.2 := q0
            clear hB hdep
            refine ⟨.int .i64 (joinA ((mrkA (-1)).1) ((mrkA (-1)).2) (m) (s)).2.2, ?_, rfl⟩
            simp only [execOp, Act.eval, e0]
            go_simp
          exact trivial
        · intro vals aa W0 wA hC hFin hB hall
          obtain ⟨(k0 : (isWr ((mrkA (-1)).1) ((mrkA (-1)).2)) (vals 0) W0), e0⟩ := hall 0 _ rfl (by decide)
          obtain ⟨(k1 : (isV (.agg #[.slice (some ⟨hb0, ho0, none⟩) am ap, .slice aq an ar])) (vals 1) W0), e1⟩ := hall 1 _ rfl (by decide)
          obtain ⟨(k2 : (isWr (m) (s)) (vals 2) W0), e2⟩ := hall 2 _ rfl (by decide)
          obtain ⟨(k3 : (isJ (joinA ((mrkA (-1)).1) ((mrkA (-1)).2) (m) (s))) (vals 3) W0), e3⟩ := hall 3 _ rfl (by decide)
          obtain ⟨(k4 : (isJ (joinA ((mrkA (-1)).1) ((mrkA (-1)).2) (m) (s))) (vals 4) W0), e4⟩ := hall 4 _ rfl (by decide)
          obtain ⟨(k5 : (isWr (joinA ((mrkA (-1)).1) ((mrkA (-1)).2) (m) (s)).1 (joinA ((mrkA (-1)).1) ((mrkA (-1)).2) (m) (s)).2.1) (vals 5) W0), e5⟩ := hall 5 _ rfl (by decide)
          obtain ⟨(k6 : (isV (.int .i64 (joinA ((mrkA (-1)).1) ((mrkA (-1)).2) (m) (s)).2.2)) (vals 6) W0), e6⟩ := hall 6 _ rfl (by decide)
          obtain ⟨(k7 : (isBox w3.heap.size) (vals 7) W0), e7⟩ := hall 7 _ rfl (by decide)
          obtain ⟨(k9 : (isV (.int .i64 (joinA ((mrkA (-1)).1) ((mrkA (-1)).2) (m) (s)).2.2)) (vals 9) W0), e9⟩ := hall 9 _ rfl (by decide)
          have hv : ∀ p ∈ [((64 : Nat), (vals 0 : Value)), ((65 : Nat), (.agg #[.slice (some ⟨hb0, ho0, none⟩) am ap, .slice aq an ar] : Value)), ((66 : Nat), (vals 2 : Value)), ((67 : Nat), (vals 3 : Value)), ((63 : Nat), (vals 4 : Value)), ((68 : Nat), (vals 5 : Value)), ((69 : Nat), (.int .i64 (joinA ((mrkA (-1)).1) ((mrkA (-1)).2) (m) (s)).2.2 : Value)), ((7 : Nat), (vals 7 : Value)), ((8 : Nat), (.int .i64 (joinA ((mrkA (-1)).1) ((mrkA (-1)).2) (m) (s)).2.2 : Value))], aa.tmps.getD p.1 undef = p.2 := by
            intro p hp
            simp only [List.mem_cons, List.not_mem_nil, or_false] at hp
            rcases hp with rfl | rfl | rfl | rfl | rfl | rfl | rfl | rfl | rfl
            · exact e0 _ rfl
            · exact (e1 _ rfl).trans k1
            · exact e2 _ rfl
            · exact e3 _ rfl
            · exact e4 _ rfl
            · exact e5 _ rfl
            · exact (e6 _ rfl).trans k6
            · exact e7 _ rfl
            · exact (e9 _ rfl).trans k9
          have hact := act_fold _ hB hv (by kernel_rfl)
          subst hact
          obtain ⟨d_g, d_o1, d_n1, d_c1, d_o2, d_n2, d_c2, hpg, hpv, hrow, hwr, hbx⟩ := fills_end hC hFin k7 k5
          generalize vals 0 = d_v0 at *
          generalize vals 2 = d_v2 at *
          generalize vals 3 = d_v3 at *
          generalize vals 4 = d_v4 at *
          rw [hpg, hpv]
          clear hv hall hB hC hFin k0 e0 k1 e1 k2 e2 k3 e3 k4 e4 k5 e5 k6 e6 k7 e7 k9 e9 hpg hpv
          refine (‹∀ (a : Act) (w : World), Code.wp Try.prog _ _ a w → _›) _ wA ?_
          simp only [List.foldl, List.setIfInBounds_toArray, List.set_cons_succ, List.set_cons_zero]
          have hja := join_anti HSD.out HP.out HLN.out.1 HLN.out.2.1
          rw [hja]
          rw [hja] at hwr
          have hwr2 : Wr wA (.agg #[.slice d_o1 d_n1 d_c1, .slice d_o2 d_n2 d_c2]) (-1 :: m) (0 :: s) := hwr
          clear hja hwr
          have HB4 := Lib.hid (HB3.out.trans (hbx.mono HB3.out.size))
          have Ra4 := Lib.hid ((hbx.block _ (Array.getElem?_eq_some_iff.1 Ra3.out).1).trans Ra3.out)
          have HX_4 := Lib.hid (HX_3.out.below hbx)
          clear HB3 Ra3 HX_3
          have Rd4 := Lib.hid hrow
          have HT_4 := Lib.hid hwr2
          clear hbx hrow hwr2
          obtain ⟨ca4, da4, ya4, za4⟩ := rowp2 Ra4.out
          obtain ⟨cd4, dd4, yd4, zd4⟩ := rowp2 Rd4.out
          have hzw : z + 1 ≤ 256 := by omega
          go_wp2_with fail
          refine (mark_any (z + 1) wA).mono ?_
          rintro e wB ⟨⟨x9, rfl, hx9⟩, hbx⟩
          rw [mrkA_yes (by unfold markB; rw [decide_eq_true (show 0 < z + 1 by omega)]; rfl)] at hx9
          have HB5 := Lib.hid (HB4.out.trans (hbx.mono HB4.out.size))
          have Ra5 := Lib.hid ((hbx.block _ (Array.getElem?_eq_some_iff.1 Ra4.out).1).trans Ra4.out)
          have Rd5 := Lib.hid ((hbx.block _ (Array.getElem?_eq_some_iff.1 Rd4.out).1).trans Rd4.out)
          have HX_5 := Lib.hid (HX_4.out.below hbx)
          have HT_5 := Lib.hid (HT_4.out.below hbx)
          clear HB4 Ra4 Rd4 HX_4 HT_4
          clear hbx
          clear ca4 da4 ya4 za4 cd4 dd4 yd4 zd4
          obtain ⟨ca5, da5, ya5, za5⟩ := rowp2 Ra5.out
          obtain ⟨cd5, dd5, yd5, zd5⟩ := rowp2 Rd5.out
          have HK_5 := Lib.hid hx9
          clear hx9
          have HG1 := Lib.hid (And.intro (Array.getElem?_eq_some_iff.1 Rd5.out).1 (Array.getElem?_eq_some_iff.1 Ra5.out).1)
          obtain ⟨_, _, rfl, hp1, hp2⟩ := HK_5.out.cells
          obtain ⟨-, ko, kp, rfl, -, -⟩ := hp1.cases
          obtain ⟨-, kq, kr, rfl, -, -⟩ := hp2.cases
          clear hp1 hp2
          simp only [List.length_cons, List.length_nil, Nat.zero_add] at HK_5 ⊢
          have hbx := below1 wB (.cells #[.slice ko 1 kp, .slice kq 1 kr] 24)
          have hnx := heap_alloc_new wB (.cells #[.slice ko 1 kp, .slice kq 1 kr] 24)
          have HB6 := Lib.hid (HB5.out.trans (hbx.mono HB5.out.size))
          have Ra6 := Lib.hid ((hbx.block _ (Array.getElem?_eq_some_iff.1 Ra5.out).1).trans Ra5.out)
          have Rd6 := Lib.hid ((hbx.block _ (Array.getElem?_eq_some_iff.1 Rd5.out).1).trans Rd5.out)
          have HX_6 := Lib.hid (HX_5.out.below hbx)
          have HT_6 := Lib.hid (HT_5.out.below hbx)
          have HK_6 := Lib.hid (HK_5.out.below hbx)
          clear HB5 Ra5 Rd5 HX_5 HT_5 HK_5
          have Rk7 := Lib.hid hnx
          clear hbx hnx
          go_upto_region 5 with fail
          clear ca5 da5 ya5 za5 cd5 dd5 yd5 zd5
          generalize wB.alloc (.cells #[.slice ko 1 kp, .slice kq 1 kr] 24) = wBa at *
          obtain ⟨ca6, da6, ya6, za6⟩ := rowp2 Ra6.out
          obtain ⟨cd6, dd6, yd6, zd6⟩ := rowp2 Rd6.out
          obtain ⟨ck6, dk6, yk6, zk6⟩ := rowp2 Rk7.out
          go_wp2_with fail
          refine (lown_any _ m s _ HX_6.out (by have := HLN.out; omega) (by have := HLN.out; omega)).mono ?_
          rintro e wC ⟨⟨x10, rfl, hx10⟩, hbx⟩
          have HB8 := Lib.hid (HB6.out.trans (hbx.mono HB6.out.size))
          have Ra8 := Lib.hid ((hbx.block _ (Array.getElem?_eq_some_iff.1 Ra6.out).1).trans Ra6.out)
          have Rd8 := Lib.hid ((hbx.block _ (Array.getElem?_eq_some_iff.1 Rd6.out).1).trans Rd6.out)
          have Rk8 := Lib.hid ((hbx.block _ (Array.getElem?_eq_some_iff.1 Rk7.out).1).trans Rk7.out)
          have HX_8 := Lib.hid (HX_6.out.below hbx)
          have HT_8 := Lib.hid (HT_6.out.below hbx)
          have HK_8 := Lib.hid (HK_6.out.below hbx)
          clear HB6 Ra6 Rd6 Rk7 HX_6 HT_6 HK_6
          clear hbx
          clear ca6 da6 ya6 za6 cd6 dd6 yd6 zd6 ck6 dk6 yk6 zk6
          obtain ⟨ca7, da7, ya7, za7⟩ := rowp2 Ra8.out
          obtain ⟨cd7, dd7, yd7, zd7⟩ := rowp2 Rd8.out
          obtain ⟨ck7, dk7, yk7, zk7⟩ := rowp2 Rk8.out
          have HW_8 := Lib.hid hx10
          clear hx10
          have HG3 := Lib.hid (Array.getElem?_eq_some_iff.1 Rk8.out).1
          obtain ⟨_, _, rfl, hp1, hp2⟩ := HW_8.out.cells
          obtain ⟨-, lo, lp, hp3, -, -⟩ := hp1.cases
          obtain ⟨-, lq, lr, hp4, -, -⟩ := hp2.cases
          generalize m.length = lm at hp3
          rw [HLa.out.2] at hp4
          subst hp3 hp4
          clear hp1 hp2
          have hbx := below1 wC (.cells #[.slice lo lm lp, .slice lq an lr] 24)
          have hnx := heap_alloc_new wC (.cells #[.slice lo lm lp, .slice lq an lr] 24)
          have HB9 := Lib.hid (HB8.out.trans (hbx.mono HB8.out.size))
          have Ra9 := Lib.hid ((hbx.block _ (Array.getElem?_eq_some_iff.1 Ra8.out).1).trans Ra8.out)
          have Rd9 := Lib.hid ((hbx.block _ (Array.getElem?_eq_some_iff.1 Rd8.out).1).trans Rd8.out)
          have Rk9 := Lib.hid ((hbx.block _ (Array.getElem?_eq_some_iff.1 Rk8.out).1).trans Rk8.out)
          have HX_9 := Lib.hid (HX_8.out.below hbx)
          have HT_9 := Lib.hid (HT_8.out.below hbx)
          have HK_9 := Lib.hid (HK_8.out.below hbx)
          have HW_9 := Lib.hid (HW_8.out.below hbx)
          clear HB8 Ra8 Rd8 Rk8 HX_8 HT_8 HK_8 HW_8
          have Rl10 := Lib.hid hnx
          clear hbx hnx
          go_upto_region 7 with fail
          clear ca7 da7 ya7 za7 cd7 dd7 yd7 zd7 ck7 dk7 yk7 zk7
          generalize wC.alloc (.cells #[.slice lo lm lp, .slice lq an lr] 24) = wCa at *
          obtain ⟨ca8, da8, ya8, za8⟩ := rowp2 Ra9.out
          obtain ⟨cd8, dd8, yd8, zd8⟩ := rowp2 Rd9.out
          obtain ⟨ck8, dk8, yk8, zk8⟩ := rowp2 Rk9.out
          obtain ⟨cl8, dl8, yl8, zl8⟩ := rowp2 Rl10.out
          clear ca8 da8 ya8 za8 cd8 dd8 yd8 zd8 ck8 dk8 yk8 zk8 cl8 dl8 yl8 zl8
          obtain ⟨G9, hG9⟩ : ∃ G, G = wB.heap.size := ⟨_, rfl⟩
          obtain ⟨G10, hG10⟩ : ∃ G, G = wC.heap.size := ⟨_, rfl⟩
          have HG : Hid (d_g < G9 ∧ G9 < G10 ∧ w.heap.size < G9) := Lib.hid (by rw [hG9, hG10]; exact ⟨HG1.out.1, HG3.out, HG1.out.2⟩)
          rw [← hG9] at Rk9 ⊢
          rw [← hG10] at Rl10 ⊢
          clear hG9 hG10 HG1 HG3
          go_loopw [11] (fun v wr => ∃ (i : Nat) (rvv : List Int), i ≤ rl ∧ rvv.length = i ∧ (∀ r ∈ rvv, 0 < r) ∧ v = .int .i64 (i : Nat) ∧ Below w.heap.size w wr ∧ wr.heap[d_g]? = some (.cells #[.slice d_o1 d_n1 d_c1, .slice d_o2 d_n2 d_c2] 24 (0, 0)) ∧ Wr wr (.agg #[.slice d_o1 d_n1 d_c1, .slice d_o2 d_n2 d_c2]) (-1 :: m) (0 :: s) ∧ (∃ o1 c1 o2 c2, wr.heap[G9]? = some (.cells #[.slice o1 1 c1, .slice o2 (i + 1) c2] 24 (0, 0)) ∧ Wr wr (.agg #[.slice o1 1 c1, .slice o2 (i + 1) c2]) [z + 1] (rvv ++ [0])) ∧ (∃ o1 n1 c1 o2 n2 c2, wr.heap[G10]? = some (.cells #[.slice o1 n1 c1, .slice o2 n2 c2] 24 (0, 0)) ∧ Wr wr (.agg #[.slice o1 n1 c1, .slice o2 n2 c2]) m (rvv ++ s))) (fun v _ => rl - (intOf v).toNat)
          case atStart => exact ⟨0, [], Nat.zero_le _, rfl, (fun r hr => by cases hr), rfl, HB9.out, Rd9.out, HT_9.out, ⟨_, _, _, _, Rk9.out, HK_9.out⟩, ⟨_, _, _, _, _, _, Rl10.out, HW_9.out⟩⟩
          case round =>
            obtain ⟨i, rvv, hi, hrl2, hrp, rfl, hbr, hrd, htk, ⟨ko2, kp2, kq2, kr2, hrk, hka⟩, ⟨lo2, lm2, lp2, lq2, ln2, lr2, hrw, hwa⟩⟩ := hrel
            have HBr := Lib.hid hbr
            have Rd0 := Lib.hid hrd
            have HT_0 := Lib.hid htk
            have Rk0 := Lib.hid hrk
            have HK_0 := Lib.hid hka
            have Rl0 := Lib.hid hrw
            have HW_0 := Lib.hid hwa
            have HRP := Lib.hid hrp
            have HRV := Lib.hid hrl2
            clear hbr hrd htk hrk hka hrw hwa hrp hrl2
            obtain ⟨cd0, dd0, yd0, zd0⟩ := rowp2 Rd0.out
            obtain ⟨ck0, dk0, yk0, zk0⟩ := rowp2 Rk0.out
            obtain ⟨cl0, dl0, yl0, zl0⟩ := rowp2 Rl0.out
            have hlens : rvv.length ≤ 20 := by have := HRV.out; have := HLN.out; omega
            have HL20 := Lib.hid hlens
            clear hlens
            by_cases hlt : i < rl
            · have hlti : ((i : Nat) : Int) < ((rl : Nat) : Int) := by omega
              obtain ⟨bb, bf, bc, hbe, _, hbc⟩ := (HR.out.below HBr.out).at' (i := i) (by have := HRL.out; omega)
              injection hbe with e1 e2 e3
              subst e1 e3
              obtain ⟨xx, hxx⟩ : ∃ k, k = limb xs i := ⟨_, rfl⟩
              rw [← hxx] at hbc
              have hx9 : xx < 256 := by rw [hxx]; exact HBY.out i
              clear hxx e2
              have hx8 : ((xx : Nat) : Int) < 256 := by omega
              go_wp2_with fail
              refine (rib_any (((xx : Nat) : Int) + 1) wr).mono ?_
              rintro e wP ⟨⟨x12, rfl, hx12⟩, hbx⟩
              rw [ribA_yes (show 0 < ((xx : Nat) : Int) + 1 by omega)] at hx12
              have HB1 := Lib.hid (HBr.out.trans (hbx.mono HBr.out.size))
              have Rd1 := Lib.hid ((hbx.block _ (Array.getElem?_eq_some_iff.1 Rd0.out).1).trans Rd0.out)
              have Rk1 := Lib.hid ((hbx.block _ (Array.getElem?_eq_some_iff.1 Rk0.out).1).trans Rk0.out)
              have Rl1 := Lib.hid ((hbx.block _ (Array.getElem?_eq_some_iff.1 Rl0.out).1).trans Rl0.out)
              have HT_1 := Lib.hid (HT_0.out.below hbx)
              have HK_1 := Lib.hid (HK_0.out.below hbx)
              have HW_1 := Lib.hid (HW_0.out.below hbx)
              clear HBr Rd0 Rk0 Rl0 HT_0 HK_0 HW_0
              clear hbx
              clear cd0 dd0 yd0 zd0 ck0 dk0 yk0 zk0 cl0 dl0 yl0 zl0
              obtain ⟨cd1, dd1, yd1, zd1⟩ := rowp2 Rd1.out
              obtain ⟨ck1, dk1, yk1, zk1⟩ := rowp2 Rk1.out
              obtain ⟨cl1, dl1, yl1, zl1⟩ := rowp2 Rl1.out
              clear hbc
              have HP_1 := Lib.hid hx12
              clear hx12
              have HPG := Lib.hid (And.intro (Array.getElem?_eq_some_iff.1 Rd1.out).1 (And.intro (Array.getElem?_eq_some_iff.1 Rk1.out).1 (Array.getElem?_eq_some_iff.1 Rl1.out).1))
              obtain ⟨_, _, rfl, hp1, hp2⟩ := HP_1.out.cells
              obtain ⟨-, po, pp, rfl, -, -⟩ := hp1.cases
              obtain ⟨-, pq, pr, rfl, -, -⟩ := hp2.cases
              clear hp1 hp2
              simp only [List.length_cons, List.length_nil, Nat.zero_add] at HP_1 ⊢
              have hbx := below1 wP (.cells #[.slice po 0 pp, .slice pq 1 pr] 24)
              have hnx := heap_alloc_new wP (.cells #[.slice po 0 pp, .slice pq 1 pr] 24)
              have HB2 := Lib.hid (HB1.out.trans (hbx.mono HB1.out.size))
              have Rd2 := Lib.hid ((hbx.block _ (Array.getElem?_eq_some_iff.1 Rd1.out).1).trans Rd1.out)
              have Rk2 := Lib.hid ((hbx.block _ (Array.getElem?_eq_some_iff.1 Rk1.out).1).trans Rk1.out)
              have Rl2 := Lib.hid ((hbx.block _ (Array.getElem?_eq_some_iff.1 Rl1.out).1).trans Rl1.out)
              have HT_2 := Lib.hid (HT_1.out.below hbx)
              have HK_2 := Lib.hid (HK_1.out.below hbx)
              have HW_2 := Lib.hid (HW_1.out.below hbx)
              have HP_2 := Lib.hid (HP_1.out.below hbx)
              clear HB1 Rd1 Rk1 Rl1 HT_1 HK_1 HW_1 HP_1
              have Rp3 := Lib.hid hnx
              clear hbx hnx
              go_upto_region 10 with fail
              clear cd1 dd1 yd1 zd1 ck1 dk1 yk1 zk1 cl1 dl1 yl1 zl1
              generalize wP.alloc (.cells #[.slice po 0 pp, .slice pq 1 pr] 24) = wPa at *
              obtain ⟨cd2, dd2, yd2, zd2⟩ := rowp2 Rd2.out
              obtain ⟨ck2, dk2, yk2, zk2⟩ := rowp2 Rk2.out
              obtain ⟨cl2, dl2, yl2, zl2⟩ := rowp2 Rl2.out
              obtain ⟨cp2, dp2, yp2, zp2⟩ := rowp2 Rp3.out
              have hpg : d_g < wP.heap.size ∧ G9 < wP.heap.size ∧ G10 < wP.heap.size := HPG.out
              have HPN := Lib.hid hpg
              clear hpg HPG
              have hj := join_rib (m := [z + 1]) (s := rvv ++ [0]) (r := ((xx : Nat) : Int) + 1) (by omega) (sndS_ribs HRP.out (sndS_mark (by omega))) (by simp) (by have := HL20.out; simp; omega)
              have HJ1 := Lib.hid hj
              clear hj
              go_wp2_with fail
              refine (wjoin_any _ _ _ _ _ _ _ HP_2.out HK_2.out).mono ?_
              rintro e wQ ⟨⟨z1, rfl, hz1⟩, hbx⟩
              simp only [HJ1.out] at hz1 ⊢
              have HB4 := Lib.hid (HB2.out.trans (hbx.mono HB2.out.size))
              have Rd4 := Lib.hid ((hbx.block _ (Array.getElem?_eq_some_iff.1 Rd2.out).1).trans Rd2.out)
              have Rk4 := Lib.hid ((hbx.block _ (Array.getElem?_eq_some_iff.1 Rk2.out).1).trans Rk2.out)
              have Rl4 := Lib.hid ((hbx.block _ (Array.getElem?_eq_some_iff.1 Rl2.out).1).trans Rl2.out)
              have Rp4 := Lib.hid ((hbx.block _ (Array.getElem?_eq_some_iff.1 Rp3.out).1).trans Rp3.out)
              have HT_4 := Lib.hid (HT_2.out.below hbx)
              have HK_4 := Lib.hid (HK_2.out.below hbx)
              have HW_4 := Lib.hid (HW_2.out.below hbx)
              have HP_4 := Lib.hid (HP_2.out.below hbx)
              clear HB2 Rd2 Rk2 Rl2 Rp3 HT_2 HK_2 HW_2 HP_2
              clear hbx
              clear cd2 dd2 yd2 zd2 ck2 dk2 yk2 zk2 cl2 dl2 yl2 zl2 cp2 dp2 yp2 zp2
              obtain ⟨cd3, dd3, yd3, zd3⟩ := rowp2 Rd4.out
              obtain ⟨ck3, dk3, yk3, zk3⟩ := rowp2 Rk4.out
              obtain ⟨cl3, dl3, yl3, zl3⟩ := rowp2 Rl4.out
              obtain ⟨cp3, dp3, yp3, zp3⟩ := rowp2 Rp4.out
              have HA_4 := Lib.hid hz1
              clear hz1
              obtain ⟨_, _, rfl, hp1, hp2⟩ := HA_4.out.cells
              obtain ⟨-, so, sp, rfl, -, -⟩ := hp1.cases
              obtain ⟨-, sq, sr, hse, -, -⟩ := hp2.cases
              clear hp1 hp2
              have hl1 : ((((xx : Nat) : Int) + 1) :: (rvv ++ [0])).length = i + 1 + 1 := by have := HRV.out; simp; omega
              rw [hl1] at hse
              subst hse
              clear hl1
              simp only [List.length_cons, List.length_nil, Nat.zero_add] at HA_4 ⊢
              have Rd5 := Lib.hid ((far2 ((show d_g ≠ G9 by have := HG.out; omega)) (.slice so 1 sp) (.slice sq (i + 1 + 1) sr)).trans Rd4.out)
              have Rk5 := Lib.hid (putp2 Rk4.out (.slice so 1 sp) (.slice sq (i + 1 + 1) sr))
              have Rl5 := Lib.hid ((far2 ((show G10 ≠ G9 by have := HG.out; omega)) (.slice so 1 sp) (.slice sq (i + 1 + 1) sr)).trans Rl4.out)
              have Rp5 := Lib.hid ((far2 ((show wP.heap.size ≠ G9 by have := HPN.out; omega)) (.slice so 1 sp) (.slice sq (i + 1 + 1) sr)).trans Rp4.out)
              have HT_5 := Lib.hid (HT_4.out.fill Rk4.out (.slice so 1 sp) (.slice sq (i + 1 + 1) sr))
              have HK_5 := Lib.hid (HK_4.out.fill Rk4.out (.slice so 1 sp) (.slice sq (i + 1 + 1) sr))
              have HW_5 := Lib.hid (HW_4.out.fill Rk4.out (.slice so 1 sp) (.slice sq (i + 1 + 1) sr))
              have HP_5 := Lib.hid (HP_4.out.fill Rk4.out (.slice so 1 sp) (.slice sq (i + 1 + 1) sr))
              have HA_5 := Lib.hid (HA_4.out.fill Rk4.out (.slice so 1 sp) (.slice sq (i + 1 + 1) sr))
              have HB5 := Lib.hid (below_fill2 HB4.out ((show w.heap.size ≤ G9 by have := HG.out; omega)) (.slice so 1 sp) (.slice sq (i + 1 + 1) sr))
              go_upto_region 12 with fail
              clear cd3 dd3 yd3 zd3 ck3 dk3 yk3 zk3 cl3 dl3 yl3 zl3 cp3 dp3 yp3 zp3
              clear HB4 Rd4 Rk4 Rl4 Rp4 HT_4 HK_4 HW_4 HP_4 HA_4
              generalize (wQ.setCell ⟨G9, 0, none⟩ (.slice so 1 sp)).setCell ⟨G9, 1, none⟩ (.slice sq (i + 1 + 1) sr) = wR at *
              obtain ⟨cd4, dd4, yd4, zd4⟩ := rowp2 Rd5.out
              obtain ⟨ck4, dk4, yk4, zk4⟩ := rowp2 Rk5.out
              obtain ⟨cl4, dl4, yl4, zl4⟩ := rowp2 Rl5.out
              obtain ⟨cp4, dp4, yp4, zp4⟩ := rowp2 Rp5.out
              have hj := join_rib (m := m) (s := rvv ++ s) (r := ((xx : Nat) : Int) + 1) (by omega) (sndS_ribs HRP.out HSD.out) (by have := HLN.out; omega) (by have := HL20.out; have := HLN.out; simp; omega)
              have HJ2 := Lib.hid hj
              clear hj
              go_wp2_with fail
              refine (wjoin_any _ _ _ _ _ _ _ HP_5.out HW_5.out).mono ?_
              rintro e wS ⟨⟨z2, rfl, hz2⟩, hbx⟩
              simp only [HJ2.out] at hz2 ⊢
              have HB6 := Lib.hid (HB5.out.trans (hbx.mono HB5.out.size))
              have Rd6 := Lib.hid ((hbx.block _ (Array.getElem?_eq_some_iff.1 Rd5.out).1).trans Rd5.out)
              have Rk6 := Lib.hid ((hbx.block _ (Array.getElem?_eq_some_iff.1 Rk5.out).1).trans Rk5.out)
              have Rl6 := Lib.hid ((hbx.block _ (Array.getElem?_eq_some_iff.1 Rl5.out).1).trans Rl5.out)
              have Rp6 := Lib.hid ((hbx.block _ (Array.getElem?_eq_some_iff.1 Rp5.out).1).trans Rp5.out)
              have HT_6 := Lib.hid (HT_5.out.below hbx)
              have HW_6 := Lib.hid (HW_5.out.below hbx)
              have HP_6 := Lib.hid (HP_5.out.below hbx)
              have HA_6 := Lib.hid (HA_5.out.below hbx)
              clear HB5 Rd5 Rk5 Rl5 Rp5 HT_5 HW_5 HP_5 HA_5
              clear hbx
              clear cd4 dd4 yd4 zd4 ck4 dk4 yk4 zk4 cl4 dl4 yl4 zl4 cp4 dp4 yp4 zp4
              obtain ⟨cd5, dd5, yd5, zd5⟩ := rowp2 Rd6.out
              obtain ⟨ck5, dk5, yk5, zk5⟩ := rowp2 Rk6.out
              obtain ⟨cl5, dl5, yl5, zl5⟩ := rowp2 Rl6.out
              obtain ⟨cp5, dp5, yp5, zp5⟩ := rowp2 Rp6.out
              have HC_6 := Lib.hid hz2
              clear hz2
              obtain ⟨_, _, rfl, hp1, hp2⟩ := HC_6.out.cells
              obtain ⟨-, to_, tp, hp3, -, -⟩ := hp1.cases
              obtain ⟨-, tq, tr, hp4, -, -⟩ := hp2.cases
              generalize m.length = tm at hp3
              generalize List.length (_ :: _) = tn at hp4
              subst hp3 hp4
              clear hp1 hp2
              have Rd7 := Lib.hid ((far2 ((show d_g ≠ G10 by have := HG.out; omega)) (.slice to_ tm tp) (.slice tq tn tr)).trans Rd6.out)
              have Rk7 := Lib.hid ((far2 ((show G9 ≠ G10 by have := HG.out; omega)) (.slice to_ tm tp) (.slice tq tn tr)).trans Rk6.out)
              have Rl7 := Lib.hid (putp2 Rl6.out (.slice to_ tm tp) (.slice tq tn tr))
              have Rp7 := Lib.hid ((far2 ((show wP.heap.size ≠ G10 by have := HPN.out; omega)) (.slice to_ tm tp) (.slice tq tn tr)).trans Rp6.out)
              have HT_7 := Lib.hid (HT_6.out.fill Rl6.out (.slice to_ tm tp) (.slice tq tn tr))
              have HW_7 := Lib.hid (HW_6.out.fill Rl6.out (.slice to_ tm tp) (.slice tq tn tr))
              have HP_7 := Lib.hid (HP_6.out.fill Rl6.out (.slice to_ tm tp) (.slice tq tn tr))
              have HA_7 := Lib.hid (HA_6.out.fill Rl6.out (.slice to_ tm tp) (.slice tq tn tr))
              have HC_7 := Lib.hid (HC_6.out.fill Rl6.out (.slice to_ tm tp) (.slice tq tn tr))
              have HB7 := Lib.hid (below_fill2 HB6.out ((show w.heap.size ≤ G10 by have := HG.out; omega)) (.slice to_ tm tp) (.slice tq tn tr))
              go_upto_region 13 with fail
              clear cd5 dd5 yd5 zd5 ck5 dk5 yk5 zk5 cl5 dl5 yl5 zl5 cp5 dp5 yp5 zp5
              clear HB6 Rd6 Rk6 Rl6 Rp6 HT_6 HW_6 HP_6 HA_6 HC_6
              generalize (wS.setCell ⟨G10, 0, none⟩ (.slice to_ tm tp)).setCell ⟨G10, 1, none⟩ (.slice tq tn tr) = wT at *
              obtain ⟨cd6, dd6, yd6, zd6⟩ := rowp2 Rd7.out
              obtain ⟨ck6, dk6, yk6, zk6⟩ := rowp2 Rk7.out
              obtain ⟨cl6, dl6, yl6, zl6⟩ := rowp2 Rl7.out
              obtain ⟨cp6, dp6, yp6, zp6⟩ := rowp2 Rp7.out
              clear cd6 dd6 yd6 zd6 ck6 dk6 yk6 zk6 cl6 dl6 yl6 zl6 cp6 dp6 yp6 zp6
              go_wp2_with fail
              have hrp2 : ∀ r ∈ (((xx : Nat) : Int) + 1) :: rvv, 0 < r := by
                intro r hr
                rcases List.mem_cons.1 hr with rfl | hr
                · omega
                · exact HRP.out r hr
              go_roundw
              case rel => exact ⟨i + 1, (((xx : Nat) : Int) + 1) :: rvv, by omega, by have := HRV.out; simp; omega, hrp2, by go_num, HB7.out, Rd7.out, HT_7.out, ⟨_, _, _, _, Rk7.out, HA_7.out⟩, ⟨_, _, _, _, _, _, Rl7.out, HC_7.out⟩⟩
              case measure => simp only [intOf]; omega
            · have hlti : ¬ ((i : Nat) : Int) < ((rl : Nat) : Int) := by omega
              obtain ⟨cd0, dd0, yd0, zd0⟩ := rowp2 Rd0.out
              obtain ⟨ck0, dk0, yk0, zk0⟩ := rowp2 Rk0.out
              obtain ⟨cl0, dl0, yl0, zl0⟩ := rowp2 Rl0.out
              have hj := join_taken (m := m) (s := s) (rv := rvv) (n := z + 1) (by omega) HRP.out HSD.out HP.out HLN.out.1 HLN.out.2.1 HL20.out
              have HJ3 := Lib.hid hj
              clear hj
              go_wp2_with fail
              refine (wjoin_any _ _ _ _ _ _ _ HK_0.out HT_0.out).mono ?_
              rintro e wU ⟨⟨z3, rfl, hz3⟩, hbx⟩
              simp only [HJ3.out] at hz3 ⊢
              have HB1 := Lib.hid (HBr.out.trans (hbx.mono HBr.out.size))
              have Rd1 := Lib.hid ((hbx.block _ (Array.getElem?_eq_some_iff.1 Rd0.out).1).trans Rd0.out)
              have Rk1 := Lib.hid ((hbx.block _ (Array.getElem?_eq_some_iff.1 Rk0.out).1).trans Rk0.out)
              have Rl1 := Lib.hid ((hbx.block _ (Array.getElem?_eq_some_iff.1 Rl0.out).1).trans Rl0.out)
              have HT_1 := Lib.hid (HT_0.out.below hbx)
              have HK_1 := Lib.hid (HK_0.out.below hbx)
              have HW_1 := Lib.hid (HW_0.out.below hbx)
              clear HBr Rd0 Rk0 Rl0 HT_0 HK_0 HW_0
              clear hbx
              clear cd0 dd0 yd0 zd0 ck0 dk0 yk0 zk0 cl0 dl0 yl0 zl0
              obtain ⟨cd1, dd1, yd1, zd1⟩ := rowp2 Rd1.out
              obtain ⟨ck1, dk1, yk1, zk1⟩ := rowp2 Rk1.out
              obtain ⟨cl1, dl1, yl1, zl1⟩ := rowp2 Rl1.out
              have HC_1 := Lib.hid hz3
              clear hz3
              obtain ⟨_, _, rfl, hp1, hp2⟩ := HC_1.out.cells
              obtain ⟨-, to_, tp, hp3, -, -⟩ := hp1.cases
              obtain ⟨-, tq, tr, hp4, -, -⟩ := hp2.cases
              generalize m.length = tm at hp3
              generalize List.length (_ ++ _) = tn at hp4
              subst hp3 hp4
              clear hp1 hp2
              have hbx := below1 wU (.cells #[.slice to_ tm tp, .slice tq tn tr] 24)
              have hnx := heap_alloc_new wU (.cells #[.slice to_ tm tp, .slice tq tn tr] 24)
              have HB2 := Lib.hid (HB1.out.trans (hbx.mono HB1.out.size))
              have Rd2 := Lib.hid ((hbx.block _ (Array.getElem?_eq_some_iff.1 Rd1.out).1).trans Rd1.out)
              have Rk2 := Lib.hid ((hbx.block _ (Array.getElem?_eq_some_iff.1 Rk1.out).1).trans Rk1.out)
              have Rl2 := Lib.hid ((hbx.block _ (Array.getElem?_eq_some_iff.1 Rl1.out).1).trans Rl1.out)
              have HT_2 := Lib.hid (HT_1.out.below hbx)
              have HK_2 := Lib.hid (HK_1.out.below hbx)
              have HW_2 := Lib.hid (HW_1.out.below hbx)
              have HC_2 := Lib.hid (HC_1.out.below hbx)
              clear HB1 Rd1 Rk1 Rl1 HT_1 HK_1 HW_1 HC_1
              have Re3 := Lib.hid hnx
              clear hbx hnx
              go_upto_region 16 with fail
              clear cd1 dd1 yd1 zd1 ck1 dk1 yk1 zk1 cl1 dl1 yl1 zl1
              generalize wU.alloc (.cells #[.slice to_ tm tp, .slice tq tn tr] 24) = wUa at *
              obtain ⟨cd2, dd2, yd2, zd2⟩ := rowp2 Rd2.out
              obtain ⟨ck2, dk2, yk2, zk2⟩ := rowp2 Rk2.out
              obtain ⟨cl2, dl2, yl2, zl2⟩ := rowp2 Rl2.out
              obtain ⟨ce2, de2, ye2, ze2⟩ := rowp2 Re3.out
              go_wp2_with fail
              refine (lsame_wr _ _ _ _ _ _ _ HC_2.out HW_2.out).mono ?_
              rintro e wV ⟨rfl, hbx⟩
              rw [sameZ_true rfl, sameZ_true rfl]
              have HB4 := Lib.hid (HB2.out.trans (hbx.mono HB2.out.size))
              have Rd4 := Lib.hid ((hbx.block _ (Array.getElem?_eq_some_iff.1 Rd2.out).1).trans Rd2.out)
              have Rk4 := Lib.hid ((hbx.block _ (Array.getElem?_eq_some_iff.1 Rk2.out).1).trans Rk2.out)
              have Rl4 := Lib.hid ((hbx.block _ (Array.getElem?_eq_some_iff.1 Rl2.out).1).trans Rl2.out)
              have Re4 := Lib.hid ((hbx.block _ (Array.getElem?_eq_some_iff.1 Re3.out).1).trans Re3.out)
              have HT_4 := Lib.hid (HT_2.out.below hbx)
              have HK_4 := Lib.hid (HK_2.out.below hbx)
              have HW_4 := Lib.hid (HW_2.out.below hbx)
              have HC_4 := Lib.hid (HC_2.out.below hbx)
              clear HB2 Rd2 Rk2 Rl2 Re3 HT_2 HK_2 HW_2 HC_2
              clear hbx
              clear cd2 dd2 yd2 zd2 ck2 dk2 yk2 zk2 cl2 dl2 yl2 zl2 ce2 de2 ye2 ze2
              obtain ⟨cd3, dd3, yd3, zd3⟩ := rowp2 Rd4.out
              obtain ⟨ck3, dk3, yk3, zk3⟩ := rowp2 Rk4.out
              obtain ⟨cl3, dl3, yl3, zl3⟩ := rowp2 Rl4.out
              obtain ⟨ce3, de3, ye3, ze3⟩ := rowp2 Re4.out
              go_wp2_with fail
              go_ret
              exact ⟨rfl, HB4.out⟩
end Go.Proofs.Ytoefkhpgabmieaa
