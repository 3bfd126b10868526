/- num.Parse | num.Parse | num.Parse | num.Parse -/
import Derived.Test.YtbfcbicbeagjkaaDoorTkMath
import Derived.Test.YtbfcbicbeagjkaaDoorShelf
import Derived.Deep.RegionHeld3
import Derived.Lib.IndexBytes
import Derived.WalkSpells
namespace Go.Proofs.YtbfcbicbeagjkaaDoor
open Go.RowKit

theorem list_nil {T : ByteArray} (h : T.size = 0) : T.toList = [] ∧ T.toList.isEmpty = true := by
  have : T.toList = [] := by rw [Lib.toList_data]; exact List.eq_nil_of_length_eq_zero (by simpa using h)
  exact ⟨this, by rw [this]; rfl⟩
theorem list_cons {T : ByteArray} (h : 0 < T.size) : ¬ T.toList = [] ∧ T.toList.isEmpty = false := by
  have : ¬ T.toList = [] := by
    rw [Lib.toList_data]
    intro e
    have : T.data.toList.length = T.size := by simp
    rw [e] at this
    simp at this
    omega
  exact ⟨this, by simpa using this⟩
/-- A struct's box, as it is laid. -/
def ZB (W : World) (g : Nat) : Prop := W.heap[g]? = some (.cells #[.bool false, .slice none 0 0] 24 (0, 0))
theorem ZB.lt {W : World} {g : Nat} (h : ZB W g) : g < W.heap.size := (Array.getElem?_eq_some_iff.1 h).1
theorem ZB.step {W W' : World} {g : Nat} (h : ZB W g) (hb : Below W.heap.size W W') : ZB W' g := (hb.block g h.lt).trans h
theorem ZB.alloc {W : World} {g : Nat} (h : ZB W g) (o : Obj) : ZB (W.alloc o) g := (Below.heap_alloc _ _ _ h.lt).trans h
theorem ZB.set {W : World} {g h : Nat} (hz : ZB W g) (hne : ¬ (g = h)) (x y : Value) : ZB ((W.setCell ⟨h, 0, none⟩ x).setCell ⟨h, 1, none⟩ y) g := by
  unfold ZB at *; rw [Below.heap_setCell _ _ _ _ hne, Below.heap_setCell _ _ _ _ hne]; exact hz
theorem ZB.new (W : World) : ZB (W.alloc (.cells #[.bool false, .slice none 0 0] 24)) W.heap.size := heap_alloc_new W _
theorem ZB.facts {W : World} {g : Nat} (h : ZB W g) : W.cell? ⟨g, 0, none⟩ = some (.bool false) ∧ W.cell? ⟨g, 1, none⟩ = some (.slice none 0 0) ∧ W.frozen? ⟨g, 0, none⟩ = false ∧ W.frozen? ⟨g, 1, none⟩ = false :=
  ⟨cell_heap h 0, cell_heap h 1, frozen_heap h 0, frozen_heap h 1⟩

theorem made_parse {s : ByteArray} {c : Int} {neg' : Bool} {rs : List Nat} {N : Nat} (hok : okA s) (hN : N = dval (bodyA s)) (hlt : N < 1000000000 ^ 64) (h : (c = 0 ∧ Snd neg' rs ∧ val rs = N ∧ (rs ≠ [] → neg' = negA s)) ∨ (c = 6 ∧ neg' = false ∧ rs = [] ∧ 1000000000 ^ 64 ≤ N)) :
    (okA s ∧ true = true ∧ Snd neg' rs ∧ val rs = dval (bodyA s) ∧ (rs ≠ [] → neg' = negA s)) ∨ (true = false ∧ neg' = false ∧ rs = [] ∧ (okA s → 1000000000 ^ 64 ≤ dval (bodyA s))) := by
  rcases h with ⟨_, b, c, d⟩ | ⟨_, _, _, d⟩
  · exact .inl ⟨hok, rfl, b, by rw [c, hN], d⟩
  · omega

set_option maxRecDepth 100000 in
set_option maxHeartbeats 2000000 in
theorem parse_minus (s : ByteArray) (w : World) (hs : s.size ≤ 100000000) (h0 : 0 < s.size) (h1 : bt s 0 = 45) :
    Calls Tryd.prog 70 #[.string s] w (PPost s w) := by
  have HF := Lib.hid (show fromA s = 1 from by unfold fromA; rw [if_pos ⟨h0, by omega⟩])
  have k1 := list_cons h0
  obtain ⟨k1, k2⟩ := k1
  have hq0 := bt_at h0
  have hn1 : (((s[0].toNat : Nat) : Int) == 45) = true := by rw [beq_iff_eq]; omega
  have hn2 : (((s[0].toNat : Nat) : Int) == 43) = false := by rw [beq_eq_false_iff_ne]; omega
  have HNG : Hid (negA s = true) := Lib.hid (by unfold negA; simp [h1])
  clear hq0
  have hb0 := below1 w (.cells #[.bool false, .slice none 0 0] 24)
  have hr0 : (w.alloc (.cells #[.bool false, .slice none 0 0] 24)).heap[w.heap.size]? = some (.cells #[.bool false, .slice none 0 0] 24 (0, 0)) := heap_alloc_new w _
  have HTL : Hid ((s.extract 1 s.size).data.toList = s.data.toList.drop (fromA s)) := Lib.hid (by rw [HF.out]; exact Lib.extract_to_end s 1)
  obtain ⟨z1, z2, z3⟩ := body_ext HTL.out
  have Z1 := Lib.hid z1
  have Z2 := Lib.hid z2
  clear z1 z3
  rcases Nat.eq_zero_or_pos (s.extract 1 s.size).size with hT0 | hT0
  · have HNO := Lib.hid (not_okA HTL.out (.inl hT0))
    obtain ⟨l1, l2⟩ := list_nil hT0
    clear hT0 hr0 z2
    go_enter Tryd.func70, Tryd.ntmps70
    go_wp2
    refine bodyPost_ret (v := .tuple #[.agg #[.bool false, .slice none 0 0], .bool false]) (by simp [results, Tryd.results70, go_sem]) rfl ?_
    first
      | exact PPost.no ⟨_, rfl, Sl.nil _ _⟩ ((hb0.setCell (Nat.le_refl _) _).setCell (Nat.le_refl _) _) HNO.out
      | exact PPost.no ⟨_, rfl, Sl.nil _ _⟩ hb0 HNO.out
  have l1 := list_cons hT0
  obtain ⟨l1, l2⟩ := l1
  have hTs : (s.extract 1 s.size).size ≤ 100000000 := by omega
  go_enter Tryd.func70, Tryd.ntmps70
  go_wp2_with fail
  generalize s.extract 1 s.size = T at *
  refine (decimal_any T _ (by unfold maxLen; omega)).mono ?_
  rintro e w' ⟨rfl, rfl⟩
  cases hal : allD T
  · have HNO := Lib.hid (not_okA HTL.out (.inr hal))
    clear hal hr0
    go_wp2
    refine bodyPost_ret (v := .tuple #[.agg #[.bool false, .slice none 0 0], .bool false]) (by simp [results, Tryd.results70, go_sem]) rfl ?_
    first
      | exact PPost.no ⟨_, rfl, Sl.nil _ _⟩ ((hb0.setCell (Nat.le_refl _) _).setCell (Nat.le_refl _) _) HNO.out
      | exact PPost.no ⟨_, rfl, Sl.nil _ _⟩ hb0 HNO.out
  · have HOK := Lib.hid (okA_iff HTL.out hT0 hal)
    have HDL := Lib.hid (allD_digL hal)
    have HTB := Lib.hid (trimT_bt hal)
    clear hal
    go_wp2_with fail
    refine (Tryd.strings_TrimLeft_one T 48 (by decide) _).mono ?_
    rintro e w' ⟨rfl, rfl⟩
    have hU : (⟨(Lib.trimLeftB T.data.toList 48).toArray⟩ : ByteArray) = trimT T := rfl
    rw [hU]
    clear hU
    have HUT := Lib.hid (show Top (digs (trimT T)) from by rw [trimT_digs]; exact trim_top HDL.out)
    have HUD := Lib.hid (show Db (digs (trimT T)) from digs_db HTB.out)
    have HUV := Lib.hid (show dval (digs (trimT T)) = dval (bodyA s) from by rw [trimT_digs, trim_val, ← digs_list, Z1.out])
    have HUL := Lib.hid (trimT_len T)
    obtain ⟨U, hUdef⟩ : ∃ U, U = trimT T := ⟨_, rfl⟩
    rw [← hUdef] at HUT HUD HUV HUL HTB ⊢
    clear hUdef
    rcases (by omega : 576 < U.size ∨ U.size ≤ 576) with hlong | hle
    · have HBG := Lib.hid (big576 HUT.out (by rw [← HUL.out]; exact hlong))
      have hd : decide ((576 : Int) < (U.size : Int)) = true := by rw [decide_eq_true_iff]; omega
      clear hr0
      go_wp2
      refine bodyPost_ret (v := .tuple #[.agg #[.bool false, .slice none 0 0], .bool false]) (by simp [results, Tryd.results70, go_sem]) rfl ?_
      first
        | exact ⟨_, false, [], false, rfl, ⟨_, rfl, Sl.nil _ _⟩, (hb0.setCell (Nat.le_refl _) _).setCell (Nat.le_refl _) _, .inr ⟨rfl, rfl, rfl, fun _ => by rw [← HUV.out]; exact HBG.out⟩⟩
        | exact ⟨_, false, [], false, rfl, ⟨_, rfl, Sl.nil _ _⟩, hb0, .inr ⟨rfl, rfl, rfl, fun _ => by rw [← HUV.out]; exact HBG.out⟩⟩
    · have hd : decide ((576 : Int) < (U.size : Int)) = false := by rw [decide_eq_false_iff_not]; omega
      have HSM := Lib.hid (small576 HUD.out (by rw [← HUL.out]; exact hle))
      go_wp2_with fail
      generalize (w.alloc (.cells #[.bool false, .slice none 0 0] 24)) = w0 at *
      have HR0 : Hid (ZB w0.drew w.heap.size) := Lib.hid hr0
      have HB0 := Lib.hid hb0.drew
      clear hr0 hb0
      go_region_held3 (fun _ => True) (exact trivial)
        (first
        | (go_at_call 76; (with_reducible refine (cut_any U _ hle HTB.out).mono ?_); rintro e w3 ⟨v3, rs3, rfl, hsl3, hlb3, hval3, hb3⟩; have HB3 := Lib.hid (HB0.out.trans (hb3.mono HB0.out.size)); have HR3 := Lib.hid (HR0.out.step hb3); have HV3 := Lib.hid (hval3.trans HUV.out); clear hval3 hb3)
        | (go_at_call 76; (with_reducible refine (cut_any U _ hle HTB.out).mono ?_); rintro e w3 ⟨v3, rs3, rfl, hsl3, hlb3, hval3, hb3⟩; have HB3 := Lib.hid ((HB0.out.alloc HB0.out.size _).trans (hb3.mono (Nat.le_trans HB0.out.size (by simp)))); have HR3 := Lib.hid ((HR0.out.alloc _).step hb3); have HZ3 : Hid (ZB w3 w0.heap.size) := Lib.hid ((ZB.new w0.drew).step hb3); have HV3 := Lib.hid (hval3.trans HUV.out); clear hval3 hb3)
        | (go_at_call 75; (with_reducible refine (made_any true _ rs3 _ ?_ hlb3).mono ?_); (with_reducible exact hsl3); rintro e w4 ⟨v4, neg4, rs4, c4, rfl, ⟨sv4, rfl, hsl4⟩, hb4, hres4⟩; have HZ4 := Lib.hid (HZ3.out.step hb4); obtain ⟨y0, y1, fy0, fy1⟩ := HZ4.out.facts; have HB4 := Lib.hid (HB3.out.trans (hb4.mono HB3.out.size)); have HR4 := Lib.hid (HR3.out.step hb4); obtain ⟨r0, r1, f0, f1⟩ := HR4.out.facts; have hg4 := HR4.out.lt; have hg3 := HR3.out.lt; have hg0 : w.heap.size < w0.heap.size := HR0.out.lt; have hn3 : ¬ (w.heap.size = w3.heap.size) := (by omega); have hn0 : ¬ (w.heap.size = w0.heap.size) := (by omega); have hm3 : ¬ (w3.heap.size = w.heap.size) := (by omega); have hm0 : ¬ (w0.heap.size = w.heap.size) := (by omega); have HRES := Lib.hid (made_parse HOK.out HV3.out (by rw [HV3.out, ← HUV.out]; exact HSM.out) (by rw [HNG.out]; exact hres4)); clear hres4 hb4; have HS4 := Lib.hid hsl4; obtain ⟨q1, ao4, cap4, rfl, q2, q3⟩ := hsl4; clear q1 q2 q3)
        | (go_at_call 75; (with_reducible refine (made_any true _ rs3 _ ?_ hlb3).mono ?_); (with_reducible exact hsl3); rintro e w4 ⟨v4, neg4, rs4, c4, rfl, ⟨sv4, rfl, hsl4⟩, hb4, hres4⟩; have HB4 := Lib.hid (HB3.out.trans (hb4.mono HB3.out.size)); have HR4 := Lib.hid (HR3.out.step hb4); obtain ⟨r0, r1, f0, f1⟩ := HR4.out.facts; have hg4 := HR4.out.lt; have hg3 := HR3.out.lt; have hg0 : w.heap.size < w0.heap.size := HR0.out.lt; have hn3 : ¬ (w.heap.size = w3.heap.size) := (by omega); have hn0 : ¬ (w.heap.size = w0.heap.size) := (by omega); have hm3 : ¬ (w3.heap.size = w.heap.size) := (by omega); have hm0 : ¬ (w0.heap.size = w.heap.size) := (by omega); have HRES := Lib.hid (made_parse HOK.out HV3.out (by rw [HV3.out, ← HUV.out]; exact HSM.out) (by rw [HNG.out]; exact hres4)); clear hres4 hb4; have HS4 := Lib.hid hsl4; obtain ⟨q1, ao4, cap4, rfl, q2, q3⟩ := hsl4; clear q1 q2 q3)
        | (go_at_call 75; (with_reducible refine (made_any true _ rs3 _ ?_ hlb3).mono ?_); (exact hsl3.below (below1 _ _)); rintro e w4 ⟨v4, neg4, rs4, c4, rfl, ⟨sv4, rfl, hsl4⟩, hb4, hres4⟩; have HZ4 := Lib.hid ((ZB.new w3).step hb4); obtain ⟨y0, y1, fy0, fy1⟩ := HZ4.out.facts; have HB4 := Lib.hid ((HB3.out.alloc HB3.out.size _).trans (hb4.mono (Nat.le_trans HB3.out.size (by simp)))); have HR4 := Lib.hid ((HR3.out.alloc _).step hb4); obtain ⟨r0, r1, f0, f1⟩ := HR4.out.facts; have hg4 := HR4.out.lt; have hg3 := HR3.out.lt; have hg0 : w.heap.size < w0.heap.size := HR0.out.lt; have hn3 : ¬ (w.heap.size = w3.heap.size) := (by omega); have hn0 : ¬ (w.heap.size = w0.heap.size) := (by omega); have hm3 : ¬ (w3.heap.size = w.heap.size) := (by omega); have hm0 : ¬ (w0.heap.size = w.heap.size) := (by omega); have HRES := Lib.hid (made_parse HOK.out HV3.out (by rw [HV3.out, ← HUV.out]; exact HSM.out) (by rw [HNG.out]; exact hres4)); clear hres4 hb4; have HS4 := Lib.hid hsl4; obtain ⟨q1, ao4, cap4, rfl, q2, q3⟩ := hsl4; clear q1 q2 q3))
      all_goals go_wp2
      all_goals
        refine bodyPost_ret (v := .tuple #[.agg #[.bool neg4, .slice ao4 rs4.length cap4], .bool true]) (by simp [results, Tryd.results70, go_sem, r0, r1, hg4]) rfl ?_
        refine ⟨_, neg4, rs4, true, rfl, ⟨_, rfl, ?_⟩, ?_, by
          rcases HRES.out with ⟨a, _, b⟩ | ⟨h, _⟩
          · exact .inl ⟨a, rfl, b⟩
          · cases h⟩
      all_goals first
        | exact (HS4.out.box HR4.out _ _).below (below1 _ _)
        | exact (HS4.out.box HZ4.out _ _).box (HR4.out.set hn3 _ _) _ _
        | exact (HS4.out.box HZ4.out _ _).box (HR4.out.set hn0 _ _) _ _
        | exact ((HB4.out.setCell (Nat.le_refl _) _).setCell (Nat.le_refl _) _).alloc (by simp; omega) _
        | exact (((HB4.out.setCell (by simp; omega) _).setCell (by simp; omega) _).setCell (Nat.le_refl _) _).setCell (Nat.le_refl _) _

end Go.Proofs.YtbfcbicbeagjkaaDoor
namespace Go.Proofs.YtbfcbicbeagjkaaDoor
open Go.RowKit

set_option maxRecDepth 100000 in
set_option maxHeartbeats 2000000 in
theorem parse_plus (s : ByteArray) (w : World) (hs : s.size ≤ 100000000) (h0 : 0 < s.size) (h1 : bt s 0 = 43) :
    Calls Tryd.prog 70 #[.string s] w (PPost s w) := by
  have HF := Lib.hid (show fromA s = 1 from by unfold fromA; rw [if_pos ⟨h0, by omega⟩])
  have k1 := list_cons h0
  obtain ⟨k1, k2⟩ := k1
  have hq0 := bt_at h0
  have hn1 : (((s[0].toNat : Nat) : Int) == 45) = false := by rw [beq_eq_false_iff_ne]; omega
  have hn2 : (((s[0].toNat : Nat) : Int) == 43) = true := by rw [beq_iff_eq]; omega
  have HNG : Hid (negA s = false) := Lib.hid (by unfold negA; simp [h1])
  clear hq0
  have hb0 := below1 w (.cells #[.bool false, .slice none 0 0] 24)
  have hr0 : (w.alloc (.cells #[.bool false, .slice none 0 0] 24)).heap[w.heap.size]? = some (.cells #[.bool false, .slice none 0 0] 24 (0, 0)) := heap_alloc_new w _
  have HTL : Hid ((s.extract 1 s.size).data.toList = s.data.toList.drop (fromA s)) := Lib.hid (by rw [HF.out]; exact Lib.extract_to_end s 1)
  obtain ⟨z1, z2, z3⟩ := body_ext HTL.out
  have Z1 := Lib.hid z1
  have Z2 := Lib.hid z2
  clear z1 z3
  rcases Nat.eq_zero_or_pos (s.extract 1 s.size).size with hT0 | hT0
  · have HNO := Lib.hid (not_okA HTL.out (.inl hT0))
    obtain ⟨l1, l2⟩ := list_nil hT0
    clear hT0 hr0 z2
    go_enter Tryd.func70, Tryd.ntmps70
    go_wp2
    refine bodyPost_ret (v := .tuple #[.agg #[.bool false, .slice none 0 0], .bool false]) (by simp [results, Tryd.results70, go_sem]) rfl ?_
    first
      | exact PPost.no ⟨_, rfl, Sl.nil _ _⟩ ((hb0.setCell (Nat.le_refl _) _).setCell (Nat.le_refl _) _) HNO.out
      | exact PPost.no ⟨_, rfl, Sl.nil _ _⟩ hb0 HNO.out
  have l1 := list_cons hT0
  obtain ⟨l1, l2⟩ := l1
  have hTs : (s.extract 1 s.size).size ≤ 100000000 := by omega
  go_enter Tryd.func70, Tryd.ntmps70
  go_wp2_with fail
  generalize s.extract 1 s.size = T at *
  refine (decimal_any T _ (by unfold maxLen; omega)).mono ?_
  rintro e w' ⟨rfl, rfl⟩
  cases hal : allD T
  · have HNO := Lib.hid (not_okA HTL.out (.inr hal))
    clear hal hr0
    go_wp2
    refine bodyPost_ret (v := .tuple #[.agg #[.bool false, .slice none 0 0], .bool false]) (by simp [results, Tryd.results70, go_sem]) rfl ?_
    first
      | exact PPost.no ⟨_, rfl, Sl.nil _ _⟩ ((hb0.setCell (Nat.le_refl _) _).setCell (Nat.le_refl _) _) HNO.out
      | exact PPost.no ⟨_, rfl, Sl.nil _ _⟩ hb0 HNO.out
  · have HOK := Lib.hid (okA_iff HTL.out hT0 hal)
    have HDL := Lib.hid (allD_digL hal)
    have HTB := Lib.hid (trimT_bt hal)
    clear hal
    go_wp2_with fail
    refine (Tryd.strings_TrimLeft_one T 48 (by decide) _).mono ?_
    rintro e w' ⟨rfl, rfl⟩
    have hU : (⟨(Lib.trimLeftB T.data.toList 48).toArray⟩ : ByteArray) = trimT T := rfl
    rw [hU]
    clear hU
    have HUT := Lib.hid (show Top (digs (trimT T)) from by rw [trimT_digs]; exact trim_top HDL.out)
    have HUD := Lib.hid (show Db (digs (trimT T)) from digs_db HTB.out)
    have HUV := Lib.hid (show dval (digs (trimT T)) = dval (bodyA s) from by rw [trimT_digs, trim_val, ← digs_list, Z1.out])
    have HUL := Lib.hid (trimT_len T)
    obtain ⟨U, hUdef⟩ : ∃ U, U = trimT T := ⟨_, rfl⟩
    rw [← hUdef] at HUT HUD HUV HUL HTB ⊢
    clear hUdef
    rcases (by omega : 576 < U.size ∨ U.size ≤ 576) with hlong | hle
    · have HBG := Lib.hid (big576 HUT.out (by rw [← HUL.out]; exact hlong))
      have hd : decide ((576 : Int) < (U.size : Int)) = true := by rw [decide_eq_true_iff]; omega
      clear hr0
      go_wp2
      refine bodyPost_ret (v := .tuple #[.agg #[.bool false, .slice none 0 0], .bool false]) (by simp [results, Tryd.results70, go_sem]) rfl ?_
      first
        | exact ⟨_, false, [], false, rfl, ⟨_, rfl, Sl.nil _ _⟩, (hb0.setCell (Nat.le_refl _) _).setCell (Nat.le_refl _) _, .inr ⟨rfl, rfl, rfl, fun _ => by rw [← HUV.out]; exact HBG.out⟩⟩
        | exact ⟨_, false, [], false, rfl, ⟨_, rfl, Sl.nil _ _⟩, hb0, .inr ⟨rfl, rfl, rfl, fun _ => by rw [← HUV.out]; exact HBG.out⟩⟩
    · have hd : decide ((576 : Int) < (U.size : Int)) = false := by rw [decide_eq_false_iff_not]; omega
      have HSM := Lib.hid (small576 HUD.out (by rw [← HUL.out]; exact hle))
      go_wp2_with fail
      generalize (w.alloc (.cells #[.bool false, .slice none 0 0] 24)) = w0 at *
      have HR0 : Hid (ZB w0.drew w.heap.size) := Lib.hid hr0
      have HB0 := Lib.hid hb0.drew
      clear hr0 hb0
      go_region_held3 (fun _ => True) (exact trivial)
        (first
        | (go_at_call 76; (with_reducible refine (cut_any U _ hle HTB.out).mono ?_); rintro e w3 ⟨v3, rs3, rfl, hsl3, hlb3, hval3, hb3⟩; have HB3 := Lib.hid (HB0.out.trans (hb3.mono HB0.out.size)); have HR3 := Lib.hid (HR0.out.step hb3); have HV3 := Lib.hid (hval3.trans HUV.out); clear hval3 hb3)
        | (go_at_call 76; (with_reducible refine (cut_any U _ hle HTB.out).mono ?_); rintro e w3 ⟨v3, rs3, rfl, hsl3, hlb3, hval3, hb3⟩; have HB3 := Lib.hid ((HB0.out.alloc HB0.out.size _).trans (hb3.mono (Nat.le_trans HB0.out.size (by simp)))); have HR3 := Lib.hid ((HR0.out.alloc _).step hb3); have HZ3 : Hid (ZB w3 w0.heap.size) := Lib.hid ((ZB.new w0.drew).step hb3); have HV3 := Lib.hid (hval3.trans HUV.out); clear hval3 hb3)
        | (go_at_call 75; (with_reducible refine (made_any false _ rs3 _ ?_ hlb3).mono ?_); (with_reducible exact hsl3); rintro e w4 ⟨v4, neg4, rs4, c4, rfl, ⟨sv4, rfl, hsl4⟩, hb4, hres4⟩; have HZ4 := Lib.hid (HZ3.out.step hb4); obtain ⟨y0, y1, fy0, fy1⟩ := HZ4.out.facts; have HB4 := Lib.hid (HB3.out.trans (hb4.mono HB3.out.size)); have HR4 := Lib.hid (HR3.out.step hb4); obtain ⟨r0, r1, f0, f1⟩ := HR4.out.facts; have hg4 := HR4.out.lt; have hg3 := HR3.out.lt; have hg0 : w.heap.size < w0.heap.size := HR0.out.lt; have hn3 : ¬ (w.heap.size = w3.heap.size) := (by omega); have hn0 : ¬ (w.heap.size = w0.heap.size) := (by omega); have hm3 : ¬ (w3.heap.size = w.heap.size) := (by omega); have hm0 : ¬ (w0.heap.size = w.heap.size) := (by omega); have HRES := Lib.hid (made_parse HOK.out HV3.out (by rw [HV3.out, ← HUV.out]; exact HSM.out) (by rw [HNG.out]; exact hres4)); clear hres4 hb4; have HS4 := Lib.hid hsl4; obtain ⟨q1, ao4, cap4, rfl, q2, q3⟩ := hsl4; clear q1 q2 q3)
        | (go_at_call 75; (with_reducible refine (made_any false _ rs3 _ ?_ hlb3).mono ?_); (with_reducible exact hsl3); rintro e w4 ⟨v4, neg4, rs4, c4, rfl, ⟨sv4, rfl, hsl4⟩, hb4, hres4⟩; have HB4 := Lib.hid (HB3.out.trans (hb4.mono HB3.out.size)); have HR4 := Lib.hid (HR3.out.step hb4); obtain ⟨r0, r1, f0, f1⟩ := HR4.out.facts; have hg4 := HR4.out.lt; have hg3 := HR3.out.lt; have hg0 : w.heap.size < w0.heap.size := HR0.out.lt; have hn3 : ¬ (w.heap.size = w3.heap.size) := (by omega); have hn0 : ¬ (w.heap.size = w0.heap.size) := (by omega); have hm3 : ¬ (w3.heap.size = w.heap.size) := (by omega); have hm0 : ¬ (w0.heap.size = w.heap.size) := (by omega); have HRES := Lib.hid (made_parse HOK.out HV3.out (by rw [HV3.out, ← HUV.out]; exact HSM.out) (by rw [HNG.out]; exact hres4)); clear hres4 hb4; have HS4 := Lib.hid hsl4; obtain ⟨q1, ao4, cap4, rfl, q2, q3⟩ := hsl4; clear q1 q2 q3)
        | (go_at_call 75; (with_reducible refine (made_any false _ rs3 _ ?_ hlb3).mono ?_); (exact hsl3.below (below1 _ _)); rintro e w4 ⟨v4, neg4, rs4, c4, rfl, ⟨sv4, rfl, hsl4⟩, hb4, hres4⟩; have HZ4 := Lib.hid ((ZB.new w3).step hb4); obtain ⟨y0, y1, fy0, fy1⟩ := HZ4.out.facts; have HB4 := Lib.hid ((HB3.out.alloc HB3.out.size _).trans (hb4.mono (Nat.le_trans HB3.out.size (by simp)))); have HR4 := Lib.hid ((HR3.out.alloc _).step hb4); obtain ⟨r0, r1, f0, f1⟩ := HR4.out.facts; have hg4 := HR4.out.lt; have hg3 := HR3.out.lt; have hg0 : w.heap.size < w0.heap.size := HR0.out.lt; have hn3 : ¬ (w.heap.size = w3.heap.size) := (by omega); have hn0 : ¬ (w.heap.size = w0.heap.size) := (by omega); have hm3 : ¬ (w3.heap.size = w.heap.size) := (by omega); have hm0 : ¬ (w0.heap.size = w.heap.size) := (by omega); have HRES := Lib.hid (made_parse HOK.out HV3.out (by rw [HV3.out, ← HUV.out]; exact HSM.out) (by rw [HNG.out]; exact hres4)); clear hres4 hb4; have HS4 := Lib.hid hsl4; obtain ⟨q1, ao4, cap4, rfl, q2, q3⟩ := hsl4; clear q1 q2 q3))
      all_goals go_wp2
      all_goals
        refine bodyPost_ret (v := .tuple #[.agg #[.bool neg4, .slice ao4 rs4.length cap4], .bool true]) (by simp [results, Tryd.results70, go_sem, r0, r1, hg4]) rfl ?_
        refine ⟨_, neg4, rs4, true, rfl, ⟨_, rfl, ?_⟩, ?_, by
          rcases HRES.out with ⟨a, _, b⟩ | ⟨h, _⟩
          · exact .inl ⟨a, rfl, b⟩
          · cases h⟩
      all_goals first
        | exact (HS4.out.box HR4.out _ _).below (below1 _ _)
        | exact (HS4.out.box HZ4.out _ _).box (HR4.out.set hn3 _ _) _ _
        | exact (HS4.out.box HZ4.out _ _).box (HR4.out.set hn0 _ _) _ _
        | exact ((HB4.out.setCell (Nat.le_refl _) _).setCell (Nat.le_refl _) _).alloc (by simp; omega) _
        | exact (((HB4.out.setCell (by simp; omega) _).setCell (by simp; omega) _).setCell (Nat.le_refl _) _).setCell (Nat.le_refl _) _

end Go.Proofs.YtbfcbicbeagjkaaDoor
namespace Go.Proofs.YtbfcbicbeagjkaaDoor
open Go.RowKit

set_option maxRecDepth 100000 in
set_option maxHeartbeats 2000000 in
theorem parse_bare (s : ByteArray) (w : World) (hs : s.size ≤ 100000000) (h0 : 0 < s.size) (h1 : bt s 0 ≠ 43) (h2 : bt s 0 ≠ 45) :
    Calls Tryd.prog 70 #[.string s] w (PPost s w) := by
  have HF := Lib.hid (show fromA s = 0 from by unfold fromA; rw [if_neg (by omega)])
  have k1 := list_cons h0
  obtain ⟨k1, k2⟩ := k1
  have hq0 := bt_at h0
  have hn1 : (((s[0].toNat : Nat) : Int) == 45) = false := by rw [beq_eq_false_iff_ne]; omega
  have hn2 : (((s[0].toNat : Nat) : Int) == 43) = false := by rw [beq_eq_false_iff_ne]; omega
  have HNG : Hid (negA s = false) := Lib.hid (by unfold negA; simp [h2])
  clear hq0
  have hb0 := below1 w (.cells #[.bool false, .slice none 0 0] 24)
  have hr0 : (w.alloc (.cells #[.bool false, .slice none 0 0] 24)).heap[w.heap.size]? = some (.cells #[.bool false, .slice none 0 0] 24 (0, 0)) := heap_alloc_new w _
  have HTL : Hid (s.data.toList = s.data.toList.drop (fromA s)) := Lib.hid (by rw [HF.out]; rfl)
  obtain ⟨z1, z2, z3⟩ := body_ext HTL.out
  have Z1 := Lib.hid z1
  have Z2 := Lib.hid z2
  clear z1 z3
  rcases Nat.eq_zero_or_pos s.size with hT0 | hT0
  · omega
  have hTs : s.size ≤ 100000000 := by omega
  clear z2 hT0
  go_enter Tryd.func70, Tryd.ntmps70
  go_wp2_with fail
  refine (decimal_any s _ (by unfold maxLen; omega)).mono ?_
  rintro e w' ⟨rfl, rfl⟩
  cases hal : allD s
  · have HNO := Lib.hid (not_okA HTL.out (.inr hal))
    clear hal hr0
    go_wp2
    refine bodyPost_ret (v := .tuple #[.agg #[.bool false, .slice none 0 0], .bool false]) (by simp [results, Tryd.results70, go_sem]) rfl ?_
    first
      | exact PPost.no ⟨_, rfl, Sl.nil _ _⟩ ((hb0.setCell (Nat.le_refl _) _).setCell (Nat.le_refl _) _) HNO.out
      | exact PPost.no ⟨_, rfl, Sl.nil _ _⟩ hb0 HNO.out
  · have HOK := Lib.hid (okA_iff HTL.out h0 hal)
    have HDL := Lib.hid (allD_digL hal)
    have HTB := Lib.hid (trimT_bt hal)
    clear hal
    go_wp2_with fail
    refine (Tryd.strings_TrimLeft_one s 48 (by decide) _).mono ?_
    rintro e w' ⟨rfl, rfl⟩
    have hU : (⟨(Lib.trimLeftB s.data.toList 48).toArray⟩ : ByteArray) = trimT s := rfl
    rw [hU]
    clear hU
    have HUT := Lib.hid (show Top (digs (trimT s)) from by rw [trimT_digs]; exact trim_top HDL.out)
    have HUD := Lib.hid (show Db (digs (trimT s)) from digs_db HTB.out)
    have HUV := Lib.hid (show dval (digs (trimT s)) = dval (bodyA s) from by rw [trimT_digs, trim_val, ← digs_list, Z1.out])
    have HUL := Lib.hid (trimT_len s)
    obtain ⟨U, hUdef⟩ : ∃ U, U = trimT s := ⟨_, rfl⟩
    rw [← hUdef] at HUT HUD HUV HUL HTB ⊢
    clear hUdef
    rcases (by omega : 576 < U.size ∨ U.size ≤ 576) with hlong | hle
    · have HBG := Lib.hid (big576 HUT.out (by rw [← HUL.out]; exact hlong))
      have hd : decide ((576 : Int) < (U.size : Int)) = true := by rw [decide_eq_true_iff]; omega
      clear hr0
      go_wp2
      refine bodyPost_ret (v := .tuple #[.agg #[.bool false, .slice none 0 0], .bool false]) (by simp [results, Tryd.results70, go_sem]) rfl ?_
      first
        | exact ⟨_, false, [], false, rfl, ⟨_, rfl, Sl.nil _ _⟩, (hb0.setCell (Nat.le_refl _) _).setCell (Nat.le_refl _) _, .inr ⟨rfl, rfl, rfl, fun _ => by rw [← HUV.out]; exact HBG.out⟩⟩
        | exact ⟨_, false, [], false, rfl, ⟨_, rfl, Sl.nil _ _⟩, hb0, .inr ⟨rfl, rfl, rfl, fun _ => by rw [← HUV.out]; exact HBG.out⟩⟩
    · have hd : decide ((576 : Int) < (U.size : Int)) = false := by rw [decide_eq_false_iff_not]; omega
      have HSM := Lib.hid (small576 HUD.out (by rw [← HUL.out]; exact hle))
      go_wp2_with fail
      generalize (w.alloc (.cells #[.bool false, .slice none 0 0] 24)) = w0 at *
      have HR0 : Hid (ZB w0.drew w.heap.size) := Lib.hid hr0
      have HB0 := Lib.hid hb0.drew
      clear hr0 hb0
      go_region_held3 (fun _ => True) (exact trivial)
        (first
        | (go_at_call 76; (with_reducible refine (cut_any U _ hle HTB.out).mono ?_); rintro e w3 ⟨v3, rs3, rfl, hsl3, hlb3, hval3, hb3⟩; have HB3 := Lib.hid (HB0.out.trans (hb3.mono HB0.out.size)); have HR3 := Lib.hid (HR0.out.step hb3); have HV3 := Lib.hid (hval3.trans HUV.out); clear hval3 hb3)
        | (go_at_call 76; (with_reducible refine (cut_any U _ hle HTB.out).mono ?_); rintro e w3 ⟨v3, rs3, rfl, hsl3, hlb3, hval3, hb3⟩; have HB3 := Lib.hid ((HB0.out.alloc HB0.out.size _).trans (hb3.mono (Nat.le_trans HB0.out.size (by simp)))); have HR3 := Lib.hid ((HR0.out.alloc _).step hb3); have HZ3 : Hid (ZB w3 w0.heap.size) := Lib.hid ((ZB.new w0.drew).step hb3); have HV3 := Lib.hid (hval3.trans HUV.out); clear hval3 hb3)
        | (go_at_call 75; (with_reducible refine (made_any false _ rs3 _ ?_ hlb3).mono ?_); (with_reducible exact hsl3); rintro e w4 ⟨v4, neg4, rs4, c4, rfl, ⟨sv4, rfl, hsl4⟩, hb4, hres4⟩; have HZ4 := Lib.hid (HZ3.out.step hb4); obtain ⟨y0, y1, fy0, fy1⟩ := HZ4.out.facts; have HB4 := Lib.hid (HB3.out.trans (hb4.mono HB3.out.size)); have HR4 := Lib.hid (HR3.out.step hb4); obtain ⟨r0, r1, f0, f1⟩ := HR4.out.facts; have hg4 := HR4.out.lt; have hg3 := HR3.out.lt; have hg0 : w.heap.size < w0.heap.size := HR0.out.lt; have hn3 : ¬ (w.heap.size = w3.heap.size) := (by omega); have hn0 : ¬ (w.heap.size = w0.heap.size) := (by omega); have hm3 : ¬ (w3.heap.size = w.heap.size) := (by omega); have hm0 : ¬ (w0.heap.size = w.heap.size) := (by omega); have HRES := Lib.hid (made_parse HOK.out HV3.out (by rw [HV3.out, ← HUV.out]; exact HSM.out) (by rw [HNG.out]; exact hres4)); clear hres4 hb4; have HS4 := Lib.hid hsl4; obtain ⟨q1, ao4, cap4, rfl, q2, q3⟩ := hsl4; clear q1 q2 q3)
        | (go_at_call 75; (with_reducible refine (made_any false _ rs3 _ ?_ hlb3).mono ?_); (with_reducible exact hsl3); rintro e w4 ⟨v4, neg4, rs4, c4, rfl, ⟨sv4, rfl, hsl4⟩, hb4, hres4⟩; have HB4 := Lib.hid (HB3.out.trans (hb4.mono HB3.out.size)); have HR4 := Lib.hid (HR3.out.step hb4); obtain ⟨r0, r1, f0, f1⟩ := HR4.out.facts; have hg4 := HR4.out.lt; have hg3 := HR3.out.lt; have hg0 : w.heap.size < w0.heap.size := HR0.out.lt; have hn3 : ¬ (w.heap.size = w3.heap.size) := (by omega); have hn0 : ¬ (w.heap.size = w0.heap.size) := (by omega); have hm3 : ¬ (w3.heap.size = w.heap.size) := (by omega); have hm0 : ¬ (w0.heap.size = w.heap.size) := (by omega); have HRES := Lib.hid (made_parse HOK.out HV3.out (by rw [HV3.out, ← HUV.out]; exact HSM.out) (by rw [HNG.out]; exact hres4)); clear hres4 hb4; have HS4 := Lib.hid hsl4; obtain ⟨q1, ao4, cap4, rfl, q2, q3⟩ := hsl4; clear q1 q2 q3)
        | (go_at_call 75; (with_reducible refine (made_any false _ rs3 _ ?_ hlb3).mono ?_); (exact hsl3.below (below1 _ _)); rintro e w4 ⟨v4, neg4, rs4, c4, rfl, ⟨sv4, rfl, hsl4⟩, hb4, hres4⟩; have HZ4 := Lib.hid ((ZB.new w3).step hb4); obtain ⟨y0, y1, fy0, fy1⟩ := HZ4.out.facts; have HB4 := Lib.hid ((HB3.out.alloc HB3.out.size _).trans (hb4.mono (Nat.le_trans HB3.out.size (by simp)))); have HR4 := Lib.hid ((HR3.out.alloc _).step hb4); obtain ⟨r0, r1, f0, f1⟩ := HR4.out.facts; have hg4 := HR4.out.lt; have hg3 := HR3.out.lt; have hg0 : w.heap.size < w0.heap.size := HR0.out.lt; have hn3 : ¬ (w.heap.size = w3.heap.size) := (by omega); have hn0 : ¬ (w.heap.size = w0.heap.size) := (by omega); have hm3 : ¬ (w3.heap.size = w.heap.size) := (by omega); have hm0 : ¬ (w0.heap.size = w.heap.size) := (by omega); have HRES := Lib.hid (made_parse HOK.out HV3.out (by rw [HV3.out, ← HUV.out]; exact HSM.out) (by rw [HNG.out]; exact hres4)); clear hres4 hb4; have HS4 := Lib.hid hsl4; obtain ⟨q1, ao4, cap4, rfl, q2, q3⟩ := hsl4; clear q1 q2 q3))
      all_goals go_wp2
      all_goals
        refine bodyPost_ret (v := .tuple #[.agg #[.bool neg4, .slice ao4 rs4.length cap4], .bool true]) (by simp [results, Tryd.results70, go_sem, r0, r1, hg4]) rfl ?_
        refine ⟨_, neg4, rs4, true, rfl, ⟨_, rfl, ?_⟩, ?_, by
          rcases HRES.out with ⟨a, _, b⟩ | ⟨h, _⟩
          · exact .inl ⟨a, rfl, b⟩
          · cases h⟩
      all_goals first
        | exact (HS4.out.box HR4.out _ _).below (below1 _ _)
        | exact (HS4.out.box HZ4.out _ _).box (HR4.out.set hn3 _ _) _ _
        | exact (HS4.out.box HZ4.out _ _).box (HR4.out.set hn0 _ _) _ _
        | exact ((HB4.out.setCell (Nat.le_refl _) _).setCell (Nat.le_refl _) _).alloc (by simp; omega) _
        | exact (((HB4.out.setCell (by simp; omega) _).setCell (by simp; omega) _).setCell (Nat.le_refl _) _).setCell (Nat.le_refl _) _

end Go.Proofs.YtbfcbicbeagjkaaDoor
namespace Go.Proofs.YtbfcbicbeagjkaaDoor
open Go.RowKit

set_option maxRecDepth 100000 in
set_option maxHeartbeats 2000000 in
theorem parse_any (s : ByteArray) (w : World) (hs : s.size ≤ 100000000) :
    Calls Tryd.prog 70 #[.string s] w (PPost s w) := by
  rcases Nat.eq_zero_or_pos s.size with h0 | h0
  · have hno : ¬ okA s := fun h => by have := h.1; omega
    have HNO := Lib.hid hno
    have hb0 := below1 w (.cells #[.bool false, .slice none 0 0] 24)
    have k1 := list_nil h0
    obtain ⟨k1, k2⟩ := k1
    clear hno h0
    go_enter Tryd.func70, Tryd.ntmps70
    go_wp2
    refine bodyPost_ret (v := .tuple #[.agg #[.bool false, .slice none 0 0], .bool false]) (by simp [results, Tryd.results70, go_sem]) rfl ?_
    first
      | exact PPost.no ⟨_, rfl, Sl.nil _ _⟩ ((hb0.setCell (Nat.le_refl _) _).setCell (Nat.le_refl _) _) HNO.out
      | exact PPost.no ⟨_, rfl, Sl.nil _ _⟩ hb0 HNO.out
  · by_cases h1 : bt s 0 = 45
    · exact parse_minus s w hs h0 h1
    by_cases h2 : bt s 0 = 43
    · exact parse_plus s w hs h0 h2
    · exact parse_bare s w hs h0 h2 h1
end Go.Proofs.YtbfcbicbeagjkaaDoor
