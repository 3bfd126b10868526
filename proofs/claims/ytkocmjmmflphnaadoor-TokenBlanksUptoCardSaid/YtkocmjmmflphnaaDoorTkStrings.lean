/- The law TokenStrings. -/
import Derived.Test.YtkocmjmmflphnaaDoorTkRQuo
import Derived.Test.YtkocmjmmflphnaaDoorTkAns
import Derived.Deep.RegionHeldLaw
namespace Go.Proofs.YtkocmjmmflphnaaDoor
open Go.RowKit

theorem chA_neg {bs : List Nat} (h : (chA bs).2 < 0) : chars bs 0 = ((chA bs).1, none) := by
  cases hc : (chars bs 0).2 with
  | none =>
    have e : chars bs 0 = ((chars bs 0).1, none) := by rw [← hc]
    rw [chA_ok e, ← e]
  | some k =>
    rw [chA_bad hc] at h
    simp at h
    omega
theorem quoT_len (l : List Nat) : (quoT l).length ≤ 5 * l.length + 2 := by
  have := esc_len l
  unfold quoT
  simp only [List.length_cons, List.length_append, List.length_nil]
  omega
theorem quoT_by {l : List Nat} (h : By l) : By (quoT l) := by
  have key : ∀ l : List Nat, (∀ a ∈ l, a < 256) → By l := by
    intro l hl i
    by_cases hi : i < l.length
    · rw [limb_lt hi]; exact hl _ (List.getElem_mem hi)
    · rw [limb_out (by omega)]; omega
  refine key _ fun a ha => ?_
  unfold quoT at ha
  rcases List.mem_cons.1 ha with rfl | ha
  · omega
  rcases List.mem_append.1 ha with ha | ha
  · obtain ⟨d, hd, ha⟩ := List.mem_flatMap.1 ha
    rcases Nat.lt_or_ge d 128 with h1 | h1
    · have := List.all_eq_true.1 (escL_low ⟨d, h1⟩).1 a ha
      simp at this
      omega
    · rw [escL_high h1, List.mem_singleton] at ha
      subst ha
      obtain ⟨i, hi, rfl⟩ := List.getElem_of_mem hd
      have := h i
      rw [limb_lt hi] at this
      exact this
  · rw [List.mem_singleton] at ha; omega
theorem nameA_by {c : Nat} (hc : c ≤ 1114111) : By (nameA c) := by
  rcases Nat.lt_or_ge c 128 with h | h
  · refine by_of ?_
    exact (nm_low ⟨c, h⟩).1
  · have e : nameA c = encN c := by
      unfold nameA
      rw [if_neg (by omega), if_neg (by omega), if_neg (by omega), if_neg (by omega), if_neg (by omega), if_neg (by omega), if_neg (by omega), if_neg (by omega)]
    rw [e]
    exact encN_by hc
theorem nameA_len (c : Nat) : (nameA c).length ≤ 7 := by
  rcases Nat.lt_or_ge c 128 with h | h
  · have : ∀ c : Fin 128, (nameA c.val).length ≤ 7 := by decide +kernel
    exact this ⟨c, h⟩
  · have e : nameA c = encN c := by
      unfold nameA
      rw [if_neg (by omega), if_neg (by omega), if_neg (by omega), if_neg (by omega), if_neg (by omega), if_neg (by omega), if_neg (by omega), if_neg (by omega)]
    rw [e, encN_len]
    have := (blen_le c).2
    omega
theorem enc_ge (l : List Nat) : l.length ≤ (encL l).length := by
  induction l with
  | nil => simp
  | cons c l ih =>
    have e : encL (c :: l) = encN c ++ encL l := by simp [encL]
    have := (blen_le c).1
    rw [e, List.length_append, encN_len, List.length_cons]
    omega
theorem nmL_len (c : Nat) : (nmL c).length ≤ 7 := by
  have h1 := nameA_len c
  have h2 := enc_ge (nmL c)
  rw [nm_enc] at h2
  omega
/-- What Scan answers where one leaf is all. -/
def OneLeaf (k : Nat) (t : List Nat) (w : World) (e : Ending) (w' : World) : Prop :=
  Below w.heap.size w w' ∧ ∃ g cap, 1 ≤ cap ∧ g < w'.heap.size ∧ w'.cell? ⟨g, 0, none⟩ = some (.int .i64 7) ∧ w'.cell? ⟨g, 2, none⟩ = some (.int .i64 (k : Nat)) ∧ w'.cell? ⟨g, 3, none⟩ = some (.string (mkB t)) ∧ e = .returned (.tuple #[.slice (some ⟨g, 0, none⟩) 1 cap, .int .i64 0, .int .i64 0])
theorem oneleaf_any {k : Nat} {t cs : List Nat} (v : Value) (w : World) (hs : SlV w v (intCells (cs.map fun (c : Nat) => (c : Int)))) (hl : cs.length ≤ 100000) (hsc : scanA (cs.map fun (c : Nat) => (c : Int)) = ([leafW ⟨k, t, false, []⟩ 0], 0, 0)) (ht : Tabs2 w) (hwd : Words w) (hmk : Marks w) :
    Calls Tryd.prog 6 #[v] w (OneLeaf k t w) := by
  refine (scan_any v _ w hs (by rw [List.length_map]; omega) ht hwd hmk).mono ?_
  rintro e w' ⟨v', ps, rfl, hps, htk, _, hb⟩
  rw [hsc] at hps ⊢
  refine ⟨hb, ?_⟩
  have hl : ps.length = 1 := by have := congrArg List.length hps; simpa using this
  obtain ⟨g, cap, hv, hcap, hg, hcells⟩ := htk.at' (j := 0) (by omega)
  have hp1 : (ps[0]'(by omega)).1 = leafW ⟨k, t, false, []⟩ 0 := by
    have h : (ps.map (·.1))[0]? = some (leafW ⟨k, t, false, []⟩ 0) := by rw [hps]; rfl
    rw [List.getElem?_map, List.getElem?_eq_getElem (by omega)] at h
    exact Option.some.inj h
  have hc0 := hcells 0 (.int .i64 7) (by rw [hp1]; rfl)
  have hc2 := hcells 2 (.int .i64 (k : Nat)) (by rw [hp1]; rfl)
  have hc3 := hcells 3 (.string (mkB t)) (by rw [hp1]; rfl)
  rw [hl] at hcap hv
  subst hv
  exact ⟨g, cap, hcap, hg, hc0, hc2, hc3, rfl⟩

/-- A character's bytes as a text, where they have just been made. -/
theorem conv_new (n : Nat) (X : World) (k : Nat) : (convert 41 9 (.slice (some ⟨X.heap.size, 0, none⟩) (encN n).length (encN n).length)).run Tryd.prog ((X.alloc (.cells ((encN n).map fun (x : Nat) => Value.int .u8 (x : Int)).toArray 5)).drewN k) = .ok (.string (mkB (encN n))) ((X.alloc (.cells ((encN n).map fun (x : Nat) => Value.int .u8 (x : Int)).toArray 5)).drewN k) := by
  have hrow : Row .u8 5 ((X.alloc (.cells ((encN n).map fun (x : Nat) => Value.int .u8 (x : Int)).toArray 5)).drewN k) X.heap.size (encN n) := heap_alloc_new X _
  have hsl := hrow.sl_all (n := (encN n).length) (cap := (encN n).length) rfl (Nat.le_refl _) (by rw [encN_len]; have := (blen_le n).2; unfold maxLen; omega)
  have hconv := conv_sl (P := Tryd.prog) (src := 41) (e := 5) (dst := 9) Tryd.underlying41 Tryd.underlying5 Tryd.underlying9 hsl
  rw [strOf_mkB] at hconv
  exact hconv

set_option maxRecDepth 100000 in
set_option maxHeartbeats 4000000 in
theorem strings_any (s : ByteArray) (c : Int) (w : World) (hs : s.size ≤ 1048576) (ht : Tabs2 w) (hwd : Words w) (hmk : Marks w) :
    Calls Tryd.prog 4 #[.string s, .int .i64 c] w (TruePost w) := by
  obtain ⟨i0, hi, hz0, hz1, hz2⟩ := info_parts infoInt
  have HT := Lib.hid ht; clear ht
  have HW := Lib.hid hwd; clear hwd
  have HM := Lib.hid hmk; clear hmk
  have hconv := run_bytes_of_string (P := Tryd.prog) w 9 41 5 s Tryd.underlying9 Tryd.underlying41 Tryd.underlying5
  have hcap := grownCap_ge w s.size 0 5
  go_enter Tryd.func4, Tryd.ntmps4
  go_wp2_with fail
  generalize hG : grownCap w s.size 0 5 = cap at *
  have hsl := row_slS (w := w) (e := 5) (W := (w.alloc (Obj.cells (bytesRow s cap) 5 ((bytesRow s cap).size, (bytesRow s cap).size + 1))).drew) (heap_alloc_new w _) hcap (by omega)
  have hbq : Below w.heap.size w ((w.alloc (Obj.cells (bytesRow s cap) 5 ((bytesRow s cap).size, (bytesRow s cap).size + 1))).drew) := (below1 w _).drew
  refine (rchars_any _ (byt s) _ hsl (byt_by s) (by rw [byt_len]; omega)).mono ?_
  rintro e w1 ⟨v, rfl, hv, hb⟩
  have HB1 := Lib.hid (hbq.trans (hb.mono hbq.size))
  have HCH : Hid ((chA (byt s)).2 < 0 → chars (byt s) 0 = ((chA (byt s)).1, none)) := Lib.hid chA_neg
  generalize hcs : (chA (byt s)).1 = cs at *
  generalize hz : (chA (byt s)).2 = z at *
  obtain ⟨_, av, cv, rfl, _, _⟩ := hv
  clear hconv hcap hG hsl hbq hb hcs hz
  go_wp2_with fail
  refine (tanswers_any _ (HT.out.below HB1.out) (HW.out.below HB1.out) (HM.out.below HB1.out)).mono ?_
  rintro e w2 ⟨rfl, hb⟩
  have HB2 := Lib.hid (HB1.out.trans (hb.mono HB1.out.size))
  clear hb
  have hcase : (0 ≤ z ∨ (¬ 0 ≤ z ∧ (3000 : Int) < (cs.length : Int))) ∨ (¬ 0 ≤ z ∧ ¬ (3000 : Int) < (cs.length : Int)) := by omega
  rcases hcase with hcase | ⟨q1, q2⟩
  · rcases hcase with q1 | ⟨q1, q2⟩
    all_goals
      go_wp2_with fail
      refine (tanswers_any _ (HT.out.below HB2.out) (HW.out.below HB2.out) (HM.out.below HB2.out)).mono ?_
      rintro e w3 ⟨rfl, hb⟩
      have HB3 := Lib.hid (HB2.out.trans (hb.mono HB2.out.size))
      clear hb
      go_wp2_with fail
      go_ret
      exact ⟨rfl, HB3.out⟩
  have HCS := Lib.hid (HCH.out (by omega))
  obtain ⟨k1, k2, k3⟩ := chars_quo (byt_by s) HCS.out
  have HQC := Lib.hid k1
  have HEN := Lib.hid k2
  have HSC := Lib.hid k3
  clear k1 k2 k3 HCH
  go_wp2_with fail
  refine (rquoted_any s _ (by omega)).mono ?_
  rintro e w3 ⟨rfl, hb⟩
  have HB3 := Lib.hid (HB2.out.trans (hb.mono HB2.out.size))
  clear hb
  go_wp2_with fail
  refine (lchars_any (mkB (quoT (byt s))) _ (by rw [mkB_size]; have := quoT_len (byt s); rw [byt_len] at this; omega)).mono ?_
  rintro e w4 ⟨v4, rfl, hv4, hb⟩
  rw [byt_mk (quoT_by (byt_by s)), HQC.out] at hv4
  have HB4 := Lib.hid (HB3.out.trans (hb.mono HB3.out.size))
  have hsv := slv_nat hv4
  clear hb hv4
  have hscan := scan_quo HSC.out (by omega)
  rw [HEN.out] at hscan
  have hcall := oneleaf_any v4 w4 hsv (by have := quoT_len cs; omega) hscan (HT.out.below HB4.out) (HW.out.below HB4.out) (HM.out.below HB4.out)
  clear hsv hscan
  go_wp2_with fail
  refine hcall.mono ?_
  rintro e w5 ⟨hb, g, cap5, hcap5, hg, c0, c2, c3, rfl⟩
  have HB5 := Lib.hid (HB4.out.trans (hb.mono HB4.out.size))
  clear hb hcall
  have hT : (s.toList != s.toList) = false := by simp
  have hE : mkB (byt s) = s := byt_mkB s
  rw [hE] at c3
  clear hE
  go_wp2_with fail
  refine (rscalar_any c _).mono ?_
  rintro e w6 ⟨rfl, rfl⟩
  clear c0 c2 c3 hT
  cases hsc : scB c with
  | false =>
    clear hsc
    go_wp2_with fail
    go_ret
    exact ⟨rfl, HB5.out⟩
  | true =>
    obtain ⟨r0, r1⟩ := scB_range hsc
    obtain ⟨n, rfl⟩ : ∃ n : Nat, c = (n : Int) := ⟨c.toNat, by omega⟩
    have HOK : ScOk2 n := ⟨hsc⟩
    have HN := Lib.hid (show n ≤ 1114111 by omega)
    have HSN : Hid (scN n) := Lib.hid (by rw [scB_nat] at hsc; exact of_decide_eq_true hsc)
    clear hsc r0 r1
    go_wp2_with fail
    refine (rname_any _ _).mono ?_
    rintro e w6 ⟨h6, hb⟩
    have he : e = .returned (.tuple #[.string (mkB (nameA n)), .int .i64 0]) := by
      rcases h6 with ⟨_, h⟩ | ⟨h, _⟩
      · exact h
      · rw [HOK.ok] at h; cases h
    subst he
    clear h6
    have HB6 := Lib.hid (HB5.out.trans (hb.mono HB5.out.size))
    have hsz6 := HB6.out.size
    clear hb
    go_wp2_with fail
    have hown0 : (w6.alloc (.cells #[.int .i64 35, .int .i64 92] 3)).ownsRow w.heap.size 3 1 (.slice (some ⟨w6.heap.size, 0, none⟩) 2 2) 2 [.int .i64 35, .int .i64 92] := World.ownsRow_lit w6 #[.int .i64 35, .int .i64 92] 2 hsz6 (by decide) rfl
    have hb7 := below1 w6 (.cells #[.int .i64 35, .int .i64 92] 3)
    have HB7 := Lib.hid (HB6.out.trans (hb7.mono hsz6))
    clear hb7
    refine (lchars_any (mkB (nameA n)) _ (by rw [mkB_size]; have := nameA_len n; omega)).mono ?_
    rintro e w8 ⟨v8, rfl, hv8, hb⟩
    rw [byt_mk (nameA_by HN.out), chars_nm HSN.out] at hv8
    have HO8 := Lib.hid (owns_below hown0 hb)
    have HB8 := Lib.hid (HB7.out.trans (hb.mono HB7.out.size))
    have hsz8 := HB8.out.size
    have HSV8 := Lib.hid (slv_nat hv8)
    have HNL : Hid ((nmL n).length ≤ 7) := Lib.hid (nmL_len n)
    have HIL : Hid ((intCells ((nmL n).map fun (c : Nat) => (c : Int))).length = (nmL n).length) := Lib.hid (by simp [intCells])
    clear hown0 hb hv8
    go_wp2_with (at_builtin; go_loud (refine wpList_append_slv rfl _ _ 22 rfl w.heap.size 3 i0 (.int .i64 0) 8 Tryd.underlying22 hi hz0 hz1 hz2 rfl _ 2 [.int .i64 35, .int .i64 92] rfl HO8.out _ (intCells ((nmL n).map fun (c : Nat) => (c : Int))) (intCells_one _) rfl HSV8.out (by rw [HIL.out]; have := HNL.out; unfold maxLen; omega) (by rw [HIL.out]; have := HNL.out; omega) hsz8 ?_); intro v' w9 hown1 hgrow)
    have e1 : [Value.int .i64 35, Value.int .i64 92] ++ intCells ((nmL n).map fun (c : Nat) => (c : Int)) = intCells ((35 :: 92 :: nmL n).map fun (c : Nat) => (c : Int)) := rfl
    rw [e1] at hown1
    have hlo := HO8.out.lt
    have HB9 := Lib.hid (HB8.out.grown hgrow hsz8 (fun k hk => (hlo k hk).1))
    have hsv9 := owns_slv hown1
    have hcall := oneleaf_any v' w9 hsv9 (by have := HNL.out; simp only [List.length_cons]; omega) (scan_chr HSN.out) (HT.out.below HB9.out) (HW.out.below HB9.out) (HM.out.below HB9.out)
    clear hlo hgrow hown1 hsv9 e1
    go_wp2_with fail
    refine hcall.mono ?_
    rintro e w10 ⟨hb, g2, cap2, hcap2, hg2, c0, c2, c3, rfl⟩
    have HB10 := Lib.hid (HB9.out.trans (hb.mono HB9.out.size))
    clear hb hcall
    go_wp2_with fail
    have hcv : (convert 41 9 (.slice (some ⟨w10.heap.size, 0, none⟩) (encN n).length (encN n).length)).run Tryd.prog (w10.alloc (.cells ((encN n).map fun (x : Nat) => Value.int .u8 (x : Int)).toArray 5)).drew = .ok (.string (mkB (encN n))) (w10.alloc (.cells ((encN n).map fun (x : Nat) => Value.int .u8 (x : Int)).toArray 5)).drew := conv_new n w10 1
    have hT : ((mkB (encN n)).toList == (mkB (encN n)).toList) = true := by simp
    have HB11 := Lib.hid HB10.out.drew
    have hb12 := below1 w10 (.cells ((encN n).map fun (x : Nat) => Value.int .u8 (x : Int)).toArray 5)
    have d2 := (hb12.cell (p := ⟨g2, 2, none⟩) hg2).trans c2
    have d3 := (hb12.cell (p := ⟨g2, 3, none⟩) hg2).trans c3
    have HB12 := Lib.hid (HB10.out.trans (hb12.mono HB10.out.size))
    clear hb12
    go_region_held_law (fun W' => W'.cell? ⟨g2, 2, none⟩ = some (.int .i64 (6 : Nat)) ∧ W'.cell? ⟨g2, 3, none⟩ = some (.string (mkB (encN n)))) (first | exact ⟨c2, c3⟩ | exact ⟨d2, d3⟩)
      (first
        | (go_simp; go_at_call 13; refine (rbytes_any n _ HN.out).mono ?_; rintro e w12 ⟨rfl, rfl⟩))
    all_goals
      go_wp2_with fail
      go_ret
      exact ⟨rfl, HB12.out.drew⟩
end Go.Proofs.YtkocmjmmflphnaaDoor
