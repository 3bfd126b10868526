/- answers of the law of token; ref.Same of leaves | The statements' own chars: a text's characters. -/
import Derived.Test.YtpahfhjgcflifaaGreatDoorTkRows
import Derived.Test.YtpahfhjgcflifaaGreatDoorRSound
import Derived.Test.YtpahfhjgcflifaaGreatDoorUOne
import Derived.Test.YtpahfhjgcflifaaGreatDoorTkLit
namespace Go.Proofs.YtpahfhjgcflifaaGreatDoor
open Go.RowKit

/-- The j-th word's cells. -/
theorem TkSl.at' {w : World} {B : Nat} {v : Value} {ps : List (Wd × Value)} (h : TkSl w B v ps) {j : Nat} (hj : j < ps.length) : ∃ g cap, v = .slice (some ⟨g, 0, none⟩) ps.length cap ∧ ps.length ≤ cap ∧ g < w.heap.size ∧
    ∀ i u, (wdL (ps[j]).1 (ps[j]).2)[i]? = some u → w.cell? ⟨g, j * 9 + i, none⟩ = some u := by
  rcases h.own.2 with ⟨_, h0⟩ | ⟨g, cap, cur, rfl, _, hh, hc, _, _, ht, _⟩
  · omega
  · refine ⟨g, cap, rfl, hc, (Array.getElem?_eq_some_iff.1 hh).1, fun i u hu => ?_⟩
    rw [cell_of_row w g _ cur _ (0, 0) hh]
    have hi : i < 9 := by
      have := (List.getElem?_eq_some_iff.1 hu).1
      simpa [wdL] using this
    have key : ∀ (qs : List (Wd × Value)) (j : Nat) (hj : j < qs.length), (wcells qs)[j * 9 + i]? = (wdL (qs[j]).1 (qs[j]).2)[i]? := by
      intro qs
      induction qs with
      | nil => intro j hj; simp at hj
      | cons q qs ih =>
        intro j hj
        have e : wcells (q :: qs) = wdL q.1 q.2 ++ wcells qs := by simp [wcells]
        have hl : (wdL q.1 q.2).length = 9 := rfl
        rw [e]
        cases j with
        | zero => rw [List.getElem?_append_left (by omega)]; simp
        | succ j =>
          rw [List.getElem?_append_right (by omega), hl]
          rw [show (j + 1) * 9 + i - 9 = j * 9 + i by omega]
          rw [ih j (by simpa using hj)]
          rfl
    have := key ps j hj
    rw [hu, ← ht] at this
    rw [List.getElem?_take] at this
    split at this
    · simpa using this
    · cases this

theorem bt_mk {bs : List Nat} (hby : By bs) (j : Nat) : bt (mkB bs) j = limb bs j := by rw [← bt_byt, byt_mk hby]
theorem by_of {u : List Nat} (h : u.all (fun x => decide (x < 128)) = true) : By u := by
  intro i
  rcases Nat.lt_or_ge i u.length with hi | hi
  · have e : limb u i = u[i] := by unfold limb; rw [List.getD_eq_getElem?_getD, List.getElem?_eq_getElem hi]; rfl
    rw [e]
    have := List.all_eq_true.1 h _ (List.getElem_mem hi)
    simp at this
    omega
  · rw [limb_out hi]; omega
theorem sc_of {u : List Nat} (h : u.all (fun x => decide (x < 128)) = true) : ∀ c ∈ u, scN c := by
  intro c hc
  have := List.all_eq_true.1 h c hc
  simp at this
  unfold scN
  omega
theorem mText_no34 : ∀ k : Fin 12, (mText k.val).length ≠ 0 ∧ limb (mText k.val) 0 ≠ 34 := by decide
/-- A symbol's text is that symbol. -/
theorem atmA_symb {bs : List Nat} (hby : By bs) (h : symA bs = true) : atmA bs = some ⟨4, bs, false, []⟩ := by
  have hs := h
  unfold symA at hs
  simp only [Bool.and_eq_true, decide_eq_true_iff, Bool.not_eq_true'] at hs
  obtain ⟨⟨⟨⟨h1, _, _, h4⟩, h5⟩, _⟩, _⟩ := hs
  have hp : (parA (mkB bs)).2.2 = false := by
    cases hp : (parA (mkB bs)).2.2 with
    | false => rfl
    | true =>
      exfalso
      obtain ⟨k1, k2⟩ := parA_ok hp
      rw [mkB_size] at k1 k2
      unfold numeA at h5
      simp only [Bool.or_eq_false_iff, Bool.and_eq_false_iff] at h5
      unfold fromA at k1 k2
      rw [mkB_size] at k1 k2
      split at k1
      · rename_i hc
        rw [if_pos hc] at k2
        have d1 := k2 1 (by omega) k1
        rw [bt_mk hby] at d1
        have hsg := hc.2
        rw [bt_mk hby] at hsg
        rcases h5.2 with h6 | h6
        · unfold sgnN at h6; simp at h6; omega
        · unfold digN at h6; simp at h6; omega
      · rename_i hc
        rw [if_neg hc] at k2
        have d0 := k2 0 (by omega) k1
        rw [bt_mk hby] at d0
        have h6 := h5.1
        unfold digN at h6; simp at h6; omega
  have n1 : ¬ (bs = tTrue ∨ bs = tTrue') := by rintro (rfl | rfl) <;> exact h4 rfl
  have n2 : ¬ (bs = tFalse ∨ bs = tFalse') := by rintro (rfl | rfl) <;> exact h4 rfl
  unfold atmA
  rw [if_neg n1, if_neg n2, hp, if_neg (by simp), if_pos h]

theorem ans_scan : ∃ d, scanA [40, 97, 41] = ([⟨1, [], zD, 0, 0⟩, leafW d 1, ⟨2, [], zD, 0, 2⟩], 0, 0) ∧ d.t = [97] := by
  have hz : idxZ (fun c => !scB c) [40, 97, 41] < 0 := by decide
  have s0 : skp [40, 97, 41] 0 = 0 := skp_stop (by decide) (by decide) (by decide)
  have s1 : skp [40, 97, 41] 1 = 1 := skp_stop (by decide) (by decide) (by decide)
  have s2 : skp [40, 97, 41] 2 = 2 := skp_stop (by decide) (by decide) (by decide)
  have s3 : skp [40, 97, 41] 3 = 3 := skp_end (by decide)
  have m0 : markA [40, 97, 41] 0 = some 0 := by decide
  have m1 : markA [40, 97, 41] 1 = none := by decide
  have m2 : markA [40, 97, 41] 2 = some 1 := by decide
  have t1 : til enN [40, 97, 41] 1 = 2 := til_is _ 1 2 rfl (by decide) (by decide) (fun j h1 h2 => by have e : j = 1 := (by omega); subst e; decide) (fun _ => by decide)
  have c1 : encL (cutN [40, 97, 41] 1 2) = [97] := by decide
  have hch : chars [97] 0 = ([97], none) := chars_enc [97] (by intro c hc; rw [List.mem_singleton] at hc; subst hc; decide)
  have hsy : symA [97] = true := symA_yes (by decide) (by decide) (by decide) (by decide) (by decide) (by rw [hch]) (by rw [hch]; decide)
  have hat : atmA [97] = some ⟨4, [97], false, []⟩ := atmA_symb (fun i => by match i with | 0 => decide | i + 1 => simp [limb]) hsy
  have w1 : wrdA [40, 97, 41] 1 = some (leafW ⟨4, [97], false, []⟩ 1, 2) := by
    rw [wrdA_atm m1 (by decide) (by decide)]
    unfold atmW
    rw [t1, c1, if_neg (by decide), hat]
    rfl
  have k0 : wdsA [40, 97, 41] 0 [] = wdsA [40, 97, 41] 1 [⟨1, [], zD, 0, 0⟩] := wdsA_step (x := ⟨1, [], zD, 0, 0⟩) (by rw [s0]; decide) (by rw [s0]; exact wrdA_mark m0)
  have k1 : wdsA [40, 97, 41] 1 [⟨1, [], zD, 0, 0⟩] = wdsA [40, 97, 41] 2 [⟨1, [], zD, 0, 0⟩, leafW ⟨4, [97], false, []⟩ 1] := wdsA_step (by rw [s1]; decide) (by rw [s1]; exact w1)
  have k2 : wdsA [40, 97, 41] 2 [⟨1, [], zD, 0, 0⟩, leafW ⟨4, [97], false, []⟩ 1] = wdsA [40, 97, 41] 3 [⟨1, [], zD, 0, 0⟩, leafW ⟨4, [97], false, []⟩ 1, ⟨2, [], zD, 0, 2⟩] := wdsA_step (x := ⟨2, [], zD, 0, 2⟩) (by rw [s2]; decide) (by rw [s2]; exact wrdA_mark m2)
  have k3 := wdsA_end (cs := [40, 97, 41]) (i := 3) (acc := [⟨1, [], zD, 0, 0⟩, leafW ⟨4, [97], false, []⟩ 1, ⟨2, [], zD, 0, 2⟩]) (by rw [s3]; decide)
  have hw : scanW [40, 97, 41] = ([⟨1, [], zD, 0, 0⟩, leafW ⟨4, [97], false, []⟩ 1, ⟨2, [], zD, 0, 2⟩], 0, 0) := by
    unfold scanW
    rw [k0, k1, k2, k3]
  refine ⟨⟨4, [97], false, []⟩, ?_, rfl⟩
  unfold scanA
  rw [if_pos hz]
  have hm : ([40, 97, 41] : List Int).map Int.toNat = [40, 97, 41] := by decide
  rw [hm, hw]
  rfl

set_option maxRecDepth 100000 in
set_option maxHeartbeats 2000000 in
/-- Two leaves that are one. -/
theorem rsame_leaf (k : Nat) (t : List Nat) (n : Bool) (r : List Nat) (a1 c1 a2 c2 : Nat) (o1 o2 : Option Addr) (w : World) (h1 : Sl .u32 w (.slice o1 r.length c1) r) (h2 : Sl .u32 w (.slice o2 r.length c2) r) :
    Calls Tryz.prog 16 #[.agg #[.int .i64 (k : Nat), .string (mkB t), .bool n, .slice o1 r.length c1, .slice none 0 0, .int .i64 (a1 : Nat)],
      .agg #[.int .i64 (k : Nat), .string (mkB t), .bool n, .slice o2 r.length c2, .slice none 0 0, .int .i64 (a2 : Nat)]] w fun e w' => e = .returned (.bool true) ∧ Below w.heap.size w w' := by
  have H1 := Lib.hid h1
  have H2 := Lib.hid h2
  clear h1 h2
  have hk : (((k : Nat) : Int) != ((k : Nat) : Int)) = false := by simp
  have hT : ((mkB t).toList != (mkB t).toList) = false := by simp
  have hb2 := below2 w (.cells #[.int .i64 (k : Nat), .string (mkB t), .bool n, .slice o1 r.length c1, .slice none 0 0, .int .i64 (a1 : Nat)] 27) (.cells #[.int .i64 (k : Nat), .string (mkB t), .bool n, .slice o2 r.length c2, .slice none 0 0, .int .i64 (a2 : Nat)] 27)
  have H1b := Lib.hid (H1.out.below hb2)
  have H2b := Lib.hid (H2.out.below hb2)
  have HB := Lib.hid hb2
  have r0 : ((w.alloc (.cells #[.int .i64 (k : Nat), .string (mkB t), .bool n, .slice o1 r.length c1, .slice none 0 0, .int .i64 (a1 : Nat)] 27)).alloc (.cells #[.int .i64 (k : Nat), .string (mkB t), .bool n, .slice o2 r.length c2, .slice none 0 0, .int .i64 (a2 : Nat)] 27)).heap[w.heap.size]? = some (.cells #[.int .i64 (k : Nat), .string (mkB t), .bool n, .slice o1 r.length c1, .slice none 0 0, .int .i64 (a1 : Nat)] 27 (0, 0)) := by
    rw [Below.heap_alloc _ _ _ (by simp)]; exact heap_alloc_new w _
  have r1 : ((w.alloc (.cells #[.int .i64 (k : Nat), .string (mkB t), .bool n, .slice o1 r.length c1, .slice none 0 0, .int .i64 (a1 : Nat)] 27)).alloc (.cells #[.int .i64 (k : Nat), .string (mkB t), .bool n, .slice o2 r.length c2, .slice none 0 0, .int .i64 (a2 : Nat)] 27)).heap[w.heap.size + 1]? = some (.cells #[.int .i64 (k : Nat), .string (mkB t), .bool n, .slice o2 r.length c2, .slice none 0 0, .int .i64 (a2 : Nat)] 27 (0, 0)) := by
    have := heap_alloc_new (w.alloc (.cells #[.int .i64 (k : Nat), .string (mkB t), .bool n, .slice o1 r.length c1, .slice none 0 0, .int .i64 (a1 : Nat)] 27)) (.cells #[.int .i64 (k : Nat), .string (mkB t), .bool n, .slice o2 r.length c2, .slice none 0 0, .int .i64 (a2 : Nat)] 27)
    simpa using this
  have HR0 := Lib.hid r0
  have HR1 := Lib.hid r1
  clear hb2 r0 r1
  go_enter Tryz.func16, Tryz.ntmps16
  go_wp2_with fail
  refine (same_any n n _ _ r r _ H1b.out H2b.out).mono ?_
  rintro e w1 ⟨rfl, hb⟩
  rw [sameB_true ⟨rfl, rfl⟩]
  have q0 := (hb.block w.heap.size (by simp; omega)).trans HR0.out
  have q1 := (hb.block (w.heap.size + 1) (by simp)).trans HR1.out
  have g0 := (row6 q0).2.2.2.2.1
  have g1 := (row6 q1).2.2.2.2.1
  have HBF := Lib.hid (HB.out.trans (hb.mono HB.out.size))
  clear q0 q1 hb
  go_wp2_with fail
  go_loopw [5] (fun i wr => i = .int .i64 0 ∧ wr = w1) (fun i _ => 0)
  case atStart => exact ⟨rfl, rfl⟩
  case round =>
    obtain ⟨rfl, rfl⟩ := hrel
    go_wp2_with fail
    go_ret
    exact ⟨rfl, HBF.out⟩
end Go.Proofs.YtpahfhjgcflifaaGreatDoor
namespace Go.Proofs.YtpahfhjgcflifaaGreatDoor
open Go.RowKit

end Go.Proofs.YtpahfhjgcflifaaGreatDoor
