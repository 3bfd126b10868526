/- ref.digit, ref.Atom | TokenAtoms, walked -/
import Derived.Test.YtbfcbicbeagjkaaGreatDoorTkAtom
import Derived.Test.YtbfcbicbeagjkaaGreatDoorRTrim
import Derived.Test.YtbfcbicbeagjkaaGreatDoorUOne
import Derived.Test.YtbfcbicbeagjkaaGreatDoorTkAns
namespace Go.Proofs.YtbfcbicbeagjkaaGreatDoor
open Go.RowKit

set_option maxRecDepth 100000 in
theorem digit_any (s : ByteArray) (i : Nat) (w : World) (_hi : i ≤ 1000) :
    Calls Tryz.prog 136 #[.string s, .int .i64 (i : Nat)] w fun e w' => e = .returned (.bool (digN (limb (byt s) i))) ∧ w' = w := by
  rcases Nat.lt_or_ge i s.size with h | h
  · have hx : (s[i]'h).toNat = limb (byt s) i := by rw [bt_byt, bt_at h]
    have hl := UInt8.toNat_lt (s[i]'h)
    have hq : (i : Int) < ((s.size : Nat) : Int) := by omega
    generalize limb (byt s) i = x at *
    have HX := Lib.hid hx
    clear hx
    go_enter Tryz.func136, Tryz.ntmps136
    go_wp2_with fail
    all_goals
      go_ret
      refine ⟨ret_bl ?_, rfl⟩
      have e := HX.out
      rw [Bool.eq_iff_iff]
      simp [digN] <;> omega
  · have hl : limb (byt s) i = 0 := limb_out (by rw [byt_len]; exact h)
    have hq : ¬ (i : Int) < ((s.size : Nat) : Int) := by omega
    rw [hl]
    go_enter Tryz.func136, Tryz.ntmps136
    go_wp2_with fail
    go_ret
    exact ⟨ret_bl (by decide), rfl⟩

theorem atmA_none' {bs : List Nat} {n : Bool} {r : List Nat} (h : ¬ (bs = tTrue ∨ bs = tTrue')) (h1 : ¬ (bs = tFalse ∨ bs = tFalse')) (h2 : parA (mkB bs) = (n, r, false))
    (h3 : bs = [] ∨ bs = [46] ∨ 64 < bs.length ∨ limb bs 0 = 35 ∨ numeA bs = true ∨ (chars bs 0).2 ≠ none ∨ ((chars bs 0).1.any enN) = true) : atmA bs = none := atmA_none h h1 h2 (symA_not h3)

set_option maxRecDepth 100000 in
set_option maxHeartbeats 8000000 in
theorem ratom_any (s : ByteArray) (w : World) (hs : s.size ≤ 100000000) :
    Calls Tryz.prog 99 #[.string s] w (AtomPost (byt s) w) := by
  have HSZ := Lib.hid hs; clear hs
  have hb0 := below1 w (.cells #[.int .i64 0, .string ⟨#[]⟩, .bool false, .slice none 0 0, .slice none 0 0, .int .i64 0] 27)
  cases e1 : (s.toList == [35, 116]) with
  | true =>
    have HA := Lib.hid (atmA_true (bs := byt s) (.inl (by rw [lit_iff] at e1; simp at e1; exact e1)))
    go_enter Tryz.func99, Tryz.ntmps99
    go_wp2_with fail
    refine bodyPost_ret (v := .tuple #[.agg #[.int .i64 8, .string ⟨#[]⟩, .bool false, .slice none 0 0, .slice none 0 0, .int .i64 0], .bool true]) (by simp [results, Tryz.results99, go_sem]) rfl ?_
    refine AtomPost.mk (lv := .slice none 0 0) HA.out rfl (Sl.nil _ _) ?_
    repeat (first | exact Below.refl _ _ | refine Below.setCell ?_ (by simp) _ | refine Below.alloc ?_ (by simp) _ | refine Below.drew ?_ | refine below_drewN ?_ _)
  | false =>
  cases e2 : (s.toList == [35, 116, 114, 117, 101]) with
  | true =>
    have HA := Lib.hid (atmA_true (bs := byt s) (.inr (by rw [lit_iff] at e2; simp at e2; exact e2)))
    go_enter Tryz.func99, Tryz.ntmps99
    go_wp2_with fail
    refine bodyPost_ret (v := .tuple #[.agg #[.int .i64 8, .string ⟨#[]⟩, .bool false, .slice none 0 0, .slice none 0 0, .int .i64 0], .bool true]) (by simp [results, Tryz.results99, go_sem]) rfl ?_
    refine AtomPost.mk (lv := .slice none 0 0) HA.out rfl (Sl.nil _ _) ?_
    repeat (first | exact Below.refl _ _ | refine Below.setCell ?_ (by simp) _ | refine Below.alloc ?_ (by simp) _ | refine Below.drew ?_ | refine below_drewN ?_ _)
  | false =>
  have hnt : ¬ (byt s = tTrue ∨ byt s = tTrue') := by
    rw [lit_iff] at e1 e2
    simp at e1 e2
    rintro (h | h)
    · exact e1 h
    · exact e2 h
  have HNT := Lib.hid hnt; clear hnt
  cases e3 : (s.toList == [35, 102]) with
  | true =>
    have HA := Lib.hid (atmA_false (bs := byt s) HNT.out (.inl (by rw [lit_iff] at e3; simp at e3; exact e3)))
    go_enter Tryz.func99, Tryz.ntmps99
    go_wp2_with fail
    refine bodyPost_ret (v := .tuple #[.agg #[.int .i64 9, .string ⟨#[]⟩, .bool false, .slice none 0 0, .slice none 0 0, .int .i64 0], .bool true]) (by simp [results, Tryz.results99, go_sem]) rfl ?_
    refine AtomPost.mk (lv := .slice none 0 0) HA.out rfl (Sl.nil _ _) ?_
    repeat (first | exact Below.refl _ _ | refine Below.setCell ?_ (by simp) _ | refine Below.alloc ?_ (by simp) _ | refine Below.drew ?_ | refine below_drewN ?_ _)
  | false =>
  cases e4 : (s.toList == [35, 102, 97, 108, 115, 101]) with
  | true =>
    have HA := Lib.hid (atmA_false (bs := byt s) HNT.out (.inr (by rw [lit_iff] at e4; simp at e4; exact e4)))
    go_enter Tryz.func99, Tryz.ntmps99
    go_wp2_with fail
    refine bodyPost_ret (v := .tuple #[.agg #[.int .i64 9, .string ⟨#[]⟩, .bool false, .slice none 0 0, .slice none 0 0, .int .i64 0], .bool true]) (by simp [results, Tryz.results99, go_sem]) rfl ?_
    refine AtomPost.mk (lv := .slice none 0 0) HA.out rfl (Sl.nil _ _) ?_
    repeat (first | exact Below.refl _ _ | refine Below.setCell ?_ (by simp) _ | refine Below.alloc ?_ (by simp) _ | refine Below.drew ?_ | refine below_drewN ?_ _)
  | false =>
  have hnf : ¬ (byt s = tFalse ∨ byt s = tFalse') := by
    rw [lit_iff] at e3 e4
    simp at e3 e4
    rintro (h | h)
    · exact e3 h
    · exact e4 h
  have HNF := Lib.hid hnf; clear hnf
  have hd0 := DB.new w
  have HC := Lib.hid (fun w => run_bytes_of_string (P := Tryz.prog) w 9 80 5 s Tryz.underlying9 Tryz.underlying80 Tryz.underlying5)
  go_enter Tryz.func99, Tryz.ntmps99
  go_wp2_with fail
  refine (rparse_any s _ HSZ.out).mono ?_
  rintro e w2 ⟨v, n, r, ok, rfl, ⟨lv, rfl, hlv⟩, hb2, hres⟩
  have hpar : parA (mkB (byt s)) = (n, r, ok) := parA_eq (by rw [byt_mkB]; exact hres)
  have HD := Lib.hid (hd0.step hb2)
  have HB := Lib.hid (hb0.trans (hb2.mono (by simp)))
  clear hres hd0 hb0 hb2
  have HLV := Lib.hid hlv
  obtain ⟨_, av, cv, rfl, _, _⟩ := hlv
  cases ok with
  | true =>
    have HA := Lib.hid (atmA_num HNT.out HNF.out hpar)
    clear hpar
    obtain ⟨c0, c1, c2, c3, c4, c5, f0, f1, f2, f3, f4, f5⟩ := HD.out.facts
    have hlt := HD.out.lt
    go_wp2_with fail
    obtain ⟨hrow, hk⟩ := HD.out.fill (.int .i64 7) (.string ⟨#[]⟩) (.bool n) (.slice av r.length cv) (.slice none 0 0) (.int .i64 0)
    have hrow2 := (Below.heap_alloc _ (.cells #[.bool n, .slice av r.length cv] 24) w.heap.size (Array.getElem?_eq_some_iff.1 hrow).1).trans hrow
    have hk2 := hk.alloc hlt (.cells #[.bool n, .slice av r.length cv] 24)
    clear hrow hk c0 c1 c2 c3 c4 c5 f0 f1 f2 f3 f4 f5
    generalize World.alloc _ (.cells #[.bool n, .slice av r.length cv] 24) = W' at *
    obtain ⟨c0, c1, c2, c3, c4, c5⟩ := row6 hrow2
    refine bodyPost_ret (v := .tuple #[.agg #[.int .i64 7, .string ⟨#[]⟩, .bool n, .slice av r.length cv, .slice none 0 0, .int .i64 0], .bool true]) (by simp [results, Tryz.results99, go_sem, c0, c1, c2, c3, c4, c5]) rfl ?_
    exact AtomPost.mk (lv := .slice av r.length cv) HA.out rfl (HLV.out.u32s (U32S.ks hk2 HD.out.noU)) (HB.out.trans hk2.bel)
  | false =>
    have hb3 : Below w.heap.size w (w2.alloc (.cells #[.bool n, .slice av r.length cv] 24)) := HB.out.alloc (by have := HB.out.size; omega) _
    have HD3 := Lib.hid (HD.out.step (below1 w2 (.cells #[.bool n, .slice av r.length cv] 24)))
    have HB3 := Lib.hid hb3
    have HPAR := Lib.hid hpar
    have HNONE := Lib.hid (atmA_none' HNT.out HNF.out hpar)
    clear hb3 hpar
    have HLEN := Lib.hid (byt_len s)
    go_upto_region 8 with fail
    generalize hw3 : w2.alloc (.cells #[.bool n, .slice av r.length cv] 24) = w3 at *
    rcases Nat.eq_zero_or_pos s.size with h0 | h0
    · have HA := Lib.hid (HNONE.out (.inl (List.eq_nil_of_length_eq_zero (by have := HLEN.out; omega))))
      have hz : ((s.size : Nat) : Int) < 1 := by omega
      clear h0
      obtain ⟨c0, c1, c2, c3, c4, c5, f0, f1, f2, f3, f4, f5⟩ := HD3.out.facts
      go_wp2_with fail
      obtain ⟨hrow, hk⟩ := HD3.out.fill (.int .i64 0) (.string ⟨#[]⟩) (.bool false) (.slice none 0 0) (.slice none 0 0) (.int .i64 0)
      clear c0 c1 c2 c3 c4 c5 f0 f1 f2 f3 f4 f5
      generalize World.setCell _ ⟨w.heap.size, 5, none⟩ (.int .i64 0) = W' at *
      obtain ⟨c0, c1, c2, c3, c4, c5⟩ := row6 hrow
      refine bodyPost_ret (v := .tuple #[.agg #[.int .i64 0, .string ⟨#[]⟩, .bool false, .slice none 0 0, .slice none 0 0, .int .i64 0], .bool false]) (by simp [results, Tryz.results99, go_sem, c0, c1, c2, c3, c4, c5]) rfl ?_
      exact AtomPost.no HA.out rfl (HB3.out.trans hk.bel)
    have H0 := Lib.hid h0
    have hz : ¬ ((s.size : Nat) : Int) < 1 := by omega
    rcases Nat.lt_or_ge 64 s.size with h64 | h64
    · have HA := Lib.hid (HNONE.out (.inr (.inr (.inl (by have := HLEN.out; omega)))))
      have hz2 : (64 : Int) < ((s.size : Nat) : Int) := by omega
      clear h64
      obtain ⟨c0, c1, c2, c3, c4, c5, f0, f1, f2, f3, f4, f5⟩ := HD3.out.facts
      go_wp2_with fail
      obtain ⟨hrow, hk⟩ := HD3.out.fill (.int .i64 0) (.string ⟨#[]⟩) (.bool false) (.slice none 0 0) (.slice none 0 0) (.int .i64 0)
      clear c0 c1 c2 c3 c4 c5 f0 f1 f2 f3 f4 f5
      generalize World.setCell _ ⟨w.heap.size, 5, none⟩ (.int .i64 0) = W' at *
      obtain ⟨c0, c1, c2, c3, c4, c5⟩ := row6 hrow
      refine bodyPost_ret (v := .tuple #[.agg #[.int .i64 0, .string ⟨#[]⟩, .bool false, .slice none 0 0, .slice none 0 0, .int .i64 0], .bool false]) (by simp [results, Tryz.results99, go_sem, c0, c1, c2, c3, c4, c5]) rfl ?_
      exact AtomPost.no HA.out rfl (HB3.out.trans hk.bel)
    have hz2 : ¬ (64 : Int) < ((s.size : Nat) : Int) := by omega
    have H64 := Lib.hid h64
    cases hd : (s.toList == [46]) with
    | true =>
      have HA := Lib.hid (HNONE.out (.inr (.inl (by rw [lit_iff] at hd; simpa using hd))))
      clear h64
      obtain ⟨c0, c1, c2, c3, c4, c5, f0, f1, f2, f3, f4, f5⟩ := HD3.out.facts
      go_wp2_with fail
      obtain ⟨hrow, hk⟩ := HD3.out.fill (.int .i64 0) (.string ⟨#[]⟩) (.bool false) (.slice none 0 0) (.slice none 0 0) (.int .i64 0)
      clear c0 c1 c2 c3 c4 c5 f0 f1 f2 f3 f4 f5
      generalize World.setCell _ ⟨w.heap.size, 5, none⟩ (.int .i64 0) = W' at *
      obtain ⟨c0, c1, c2, c3, c4, c5⟩ := row6 hrow
      refine bodyPost_ret (v := .tuple #[.agg #[.int .i64 0, .string ⟨#[]⟩, .bool false, .slice none 0 0, .slice none 0 0, .int .i64 0], .bool false]) (by simp [results, Tryz.results99, go_sem, c0, c1, c2, c3, c4, c5]) rfl ?_
      exact AtomPost.no HA.out rfl (HB3.out.trans hk.bel)
    | false =>
    have HDT : Hid (byt s ≠ [46]) := Lib.hid (by rw [lit_iff] at hd; simpa using hd)
    have hx0 : (s[0]'h0).toNat = limb (byt s) 0 := by rw [bt_byt, bt_at h0]
    by_cases h35 : limb (byt s) 0 = 35
    · have HA := Lib.hid (HNONE.out (.inr (.inr (.inr (.inl h35)))))
      have hb : (((s[0]'h0).toNat : Nat) : Int) = 35 := by rw [hx0, h35]; rfl
      clear hx0 h35
      obtain ⟨c0, c1, c2, c3, c4, c5, f0, f1, f2, f3, f4, f5⟩ := HD3.out.facts
      go_wp2_with fail
      obtain ⟨hrow, hk⟩ := HD3.out.fill (.int .i64 0) (.string ⟨#[]⟩) (.bool false) (.slice none 0 0) (.slice none 0 0) (.int .i64 0)
      clear c0 c1 c2 c3 c4 c5 f0 f1 f2 f3 f4 f5
      generalize World.setCell _ ⟨w.heap.size, 5, none⟩ (.int .i64 0) = W' at *
      obtain ⟨c0, c1, c2, c3, c4, c5⟩ := row6 hrow
      refine bodyPost_ret (v := .tuple #[.agg #[.int .i64 0, .string ⟨#[]⟩, .bool false, .slice none 0 0, .slice none 0 0, .int .i64 0], .bool false]) (by simp [results, Tryz.results99, go_sem, c0, c1, c2, c3, c4, c5]) rfl ?_
      exact AtomPost.no HA.out rfl (HB3.out.trans hk.bel)
    have H35 := Lib.hid h35
    have hb : ((((s[0]'h0).toNat : Nat) : Int) == 35) = false := by rw [hx0, beq_eq_false_iff_ne]; omega
    clear h35
    cases hd0 : digN (limb (byt s) 0) with
    | true =>
      have HA := Lib.hid (HNONE.out (.inr (.inr (.inr (.inr (.inl (by unfold numeA; rw [hd0]; rfl)))))))
      clear hx0
      go_wp2_with fail
      refine (digit_any s 0 _ (by omega)).mono ?_
      rintro e w4 ⟨rfl, hww⟩
      rw [hww]
      clear hww w4
      rw [hd0]
      obtain ⟨c0, c1, c2, c3, c4, c5, f0, f1, f2, f3, f4, f5⟩ := HD3.out.facts
      go_wp2_with fail
      obtain ⟨hrow, hk⟩ := HD3.out.fill (.int .i64 0) (.string ⟨#[]⟩) (.bool false) (.slice none 0 0) (.slice none 0 0) (.int .i64 0)
      clear c0 c1 c2 c3 c4 c5 f0 f1 f2 f3 f4 f5
      generalize World.setCell _ ⟨w.heap.size, 5, none⟩ (.int .i64 0) = W' at *
      obtain ⟨c0, c1, c2, c3, c4, c5⟩ := row6 hrow
      refine bodyPost_ret (v := .tuple #[.agg #[.int .i64 0, .string ⟨#[]⟩, .bool false, .slice none 0 0, .slice none 0 0, .int .i64 0], .bool false]) (by simp [results, Tryz.results99, go_sem, c0, c1, c2, c3, c4, c5]) rfl ?_
      exact AtomPost.no HA.out rfl (HB3.out.trans hk.bel)
    | false =>
    cases hsg : sgnN (limb (byt s) 0) with
    | false =>
      have HNUM := Lib.hid (show numeA (byt s) = false by unfold numeA; rw [hd0, hsg]; rfl)
      have hn43 : limb (byt s) 0 ≠ 43 ∧ limb (byt s) 0 ≠ 45 := by unfold sgnN at hsg; simpa using hsg
      have hb43 : ((((s[0]'h0).toNat : Nat) : Int) == 43) = false := by rw [hx0, beq_eq_false_iff_ne]; omega
      have hb45 : ((((s[0]'h0).toNat : Nat) : Int) == 45) = false := by rw [hx0, beq_eq_false_iff_ne]; omega
      clear hx0 hn43 hsg
      go_wp2_with fail
      refine (digit_any s 0 _ (by omega)).mono ?_
      rintro e w4 ⟨rfl, hww⟩
      rw [hww]
      clear hww w4
      rw [hd0]
      clear hd0
      have hconv := HC.out w3
      have hcap := grownCap_ge w3 s.size 0 5
      go_wp2_with fail
      generalize hG : grownCap w3 s.size 0 5 = cap at *
      have hsl := row_slS (w := w3) (e := 5) (W := (w3.alloc (Obj.cells (bytesRow s cap) 5 ((bytesRow s cap).size, (bytesRow s cap).size + 1))).drew) (heap_alloc_new w3 _) hcap (by have := HSZ.out; omega)
      have hbq : Below w3.heap.size w3 ((w3.alloc (Obj.cells (bytesRow s cap) 5 ((bytesRow s cap).size, (bytesRow s cap).size + 1))).drew) := (below1 w3 _).drew
      refine (rchars_any _ (byt s) _ hsl (byt_by s) (by rw [byt_len]; have := HSZ.out; omega)).mono ?_
      rintro e w4 ⟨v, rfl, hv, hb⟩
      have hb34 : Below w3.heap.size w3 w4 := hbq.trans (hb.mono (by simp))
      have HD4 := Lib.hid (HD3.out.step hb34)
      have HB4 := Lib.hid (HB3.out.trans (hb34.mono HB3.out.size))
      clear hsl hbq hb hb34 hconv hG hcap
      cases hch : (chars (byt s) 0).2 with
      | some kk =>
        have HA := Lib.hid (HNONE.out (.inr (.inr (.inr (.inr (.inr (.inl (by rw [hch]; simp))))))))
        rw [chA_bad hch] at hv ⊢
        have hkk : (0 : Int) ≤ (kk : Int) := by omega
        obtain ⟨_, av4, cv4, rfl, _, _⟩ := hv
        clear hch
        obtain ⟨c0, c1, c2, c3, c4, c5, f0, f1, f2, f3, f4, f5⟩ := HD4.out.facts
        go_wp2_with fail
        obtain ⟨hrow, hk⟩ := HD4.out.fill (.int .i64 0) (.string ⟨#[]⟩) (.bool false) (.slice none 0 0) (.slice none 0 0) (.int .i64 0)
        clear c0 c1 c2 c3 c4 c5 f0 f1 f2 f3 f4 f5
        generalize World.setCell _ ⟨w.heap.size, 5, none⟩ (.int .i64 0) = W' at *
        obtain ⟨c0, c1, c2, c3, c4, c5⟩ := row6 hrow
        refine bodyPost_ret (v := .tuple #[.agg #[.int .i64 0, .string ⟨#[]⟩, .bool false, .slice none 0 0, .slice none 0 0, .int .i64 0], .bool false]) (by simp [results, Tryz.results99, go_sem, c0, c1, c2, c3, c4, c5]) rfl ?_
        exact AtomPost.no HA.out rfl (HB4.out.trans hk.bel)
      | none =>
        obtain ⟨cs, hcs⟩ : ∃ cs, cs = (chars (byt s) 0).1 := ⟨_, rfl⟩
        have hok : chars (byt s) 0 = (cs, none) := by rw [hcs, ← hch]
        rw [chA_ok hok] at hv ⊢
        have HCS := Lib.hid hcs
        have HCH := Lib.hid hch
        obtain ⟨hmx, av4, cv4, rfl, hcv4, hcell⟩ := hv
        have HCELL : Hid (∀ j, j < cs.length → ∃ b off, av4 = some ⟨b, off, none⟩ ∧ w4.cell? ⟨b, off + j, none⟩ = some (.int .i64 ((limb cs j : Nat) : Int))) := Lib.hid fun j hj => by
          rcases hcell with ⟨h, _⟩ | ⟨b, off, h1, _, h3⟩
          · have h' : cs = [] := h
            rw [h'] at hj; simp at hj
          · exact ⟨b, off, h1, h3 j hj⟩
        have hmx : cs.length ≤ maxLen := hmx
        unfold maxLen at hmx
        clear hch hcs hok hcell
        go_wp2_with fail
        go_loopw [8] (fun i8 wr => ∃ kk : Nat, i8 = .int .i64 (kk : Nat) ∧ kk ≤ cs.length ∧ (∀ j, j < kk → enN (limb cs j) = false) ∧ wr = w4) (fun i8 _ => cs.length - (intOf i8).toNat)
        case atStart => exact ⟨0, rfl, by omega, fun j hj => by omega, rfl⟩
        case round =>
          obtain ⟨kk, rfl, hkk, hno, rfl⟩ := hrel
          have HN := Lib.hid hno; clear hno
          rcases Nat.lt_or_eq_of_le hkk with hlt | rfl
          · obtain ⟨b, off, hao, hc⟩ := HCELL.out kk hlt
            subst hao
            have hltc : kk < cv4 := by omega
            cases hen : enN (limb cs kk) with
            | true =>
              have hany : cs.any enN = true := by rw [List.any_eq_true]; exact ⟨limb cs kk, by rw [limb_lt hlt]; exact List.getElem_mem hlt, hen⟩
              have HA := Lib.hid (HNONE.out (.inr (.inr (.inr (.inr (.inr (.inr (by rw [← HCS.out]; exact hany))))))))
              clear hany
              go_wp2_with fail
              refine (rends_any _ _).mono ?_
              rintro e w5 ⟨rfl, rfl⟩
              rw [show enB ((limb cs kk : Nat) : Int) = true from hen]
              clear hen
              obtain ⟨c0, c1, c2, c3, c4, c5, f0, f1, f2, f3, f4, f5⟩ := HD4.out.facts
              go_wp2_with fail
              obtain ⟨hrow, hk⟩ := HD4.out.fill (.int .i64 0) (.string ⟨#[]⟩) (.bool false) (.slice none 0 0) (.slice none 0 0) (.int .i64 0)
              clear c0 c1 c2 c3 c4 c5 f0 f1 f2 f3 f4 f5
              generalize World.setCell _ ⟨w.heap.size, 5, none⟩ (.int .i64 0) = W' at *
              obtain ⟨c0, c1, c2, c3, c4, c5⟩ := row6 hrow
              refine bodyPost_ret (v := .tuple #[.agg #[.int .i64 0, .string ⟨#[]⟩, .bool false, .slice none 0 0, .slice none 0 0, .int .i64 0], .bool false]) (by simp [results, Tryz.results99, go_sem, c0, c1, c2, c3, c4, c5]) rfl ?_
              exact AtomPost.no HA.out rfl (HB4.out.trans hk.bel)
            | false =>
              go_wp2_with fail
              refine (rends_any _ _).mono ?_
              rintro e w5 ⟨rfl, rfl⟩
              rw [show enB ((limb cs kk : Nat) : Int) = false from hen]
              have HEN := Lib.hid hen
              clear hen
              go_wp2_with fail
              go_roundw
              case rel =>
                refine ⟨kk + 1, by go_num, by omega, fun j hj => ?_, by trivial⟩
                by_cases e : j = kk
                · subst e; exact HEN.out
                · exact HN.out j (by omega)
              case measure => simp only [intOf]; omega
          · have hany : cs.any enN = false := by
              rw [List.any_eq_false]
              intro x hx
              obtain ⟨j, hj, rfl⟩ := List.getElem_of_mem hx
              have := HN.out j hj
              rw [limb_lt hj] at this
              rw [this]; simp
            have HA := Lib.hid (atmA_sym HNT.out HNF.out HPAR.out (symA_yes (by intro h; have := HLEN.out; rw [h] at this; have := H0.out; simp at *; omega) HDT.out (by have := HLEN.out; have := H64.out; omega) H35.out HNUM.out HCH.out (by rw [← HCS.out]; exact hany)))
            clear hany
            obtain ⟨c0, c1, c2, c3, c4, c5, f0, f1, f2, f3, f4, f5⟩ := HD4.out.facts
            go_wp2_with fail
            obtain ⟨hrow, hk⟩ := HD4.out.fill (.int .i64 4) (.string s) (.bool false) (.slice none 0 0) (.slice none 0 0) (.int .i64 0)
            clear c0 c1 c2 c3 c4 c5 f0 f1 f2 f3 f4 f5
            generalize World.setCell _ ⟨w.heap.size, 5, none⟩ (.int .i64 0) = W' at *
            obtain ⟨c0, c1, c2, c3, c4, c5⟩ := row6 hrow
            refine bodyPost_ret (v := .tuple #[.agg #[.int .i64 4, .string s, .bool false, .slice none 0 0, .slice none 0 0, .int .i64 0], .bool true]) (by simp [results, Tryz.results99, go_sem, c0, c1, c2, c3, c4, c5]) rfl ?_
            exact AtomPost.mk (lv := .slice none 0 0) HA.out (by unfold dtV; rw [byt_mkB]; rfl) (Sl.nil _ _) (HB4.out.trans hk.bel)
    | true =>
      have h43 : limb (byt s) 0 = 43 ∨ limb (byt s) 0 = 45 := by unfold sgnN at hsg; simpa using hsg
      have hbs : ((((s[0]'h0).toNat : Nat) : Int) = 43) ∨ (((((s[0]'h0).toNat : Nat) : Int) == 43) = false ∧ (((s[0]'h0).toNat : Nat) : Int) = 45) := by
        rw [hx0]
        rcases h43 with h | h <;> rw [h]
        · exact .inl rfl
        · exact .inr ⟨rfl, rfl⟩
      clear hx0 h43
      cases hd1 : digN (limb (byt s) 1) with
      | true =>
        have HA := Lib.hid (HNONE.out (.inr (.inr (.inr (.inr (.inl (by unfold numeA; rw [hsg, hd1]; simp)))))))
        rcases hbs with hq | ⟨hq1, hq⟩
        · go_wp2_with fail
          refine (digit_any s 0 _ (by omega)).mono ?_
          rintro e w4 ⟨rfl, hww⟩
          rw [hww]
          clear hww w4
          rw [hd0]
          go_wp2_with fail
          refine (digit_any s 1 _ (by omega)).mono ?_
          rintro e w5 ⟨rfl, hww⟩
          rw [hww]
          clear hww w5
          rw [hd1]
          obtain ⟨c0, c1, c2, c3, c4, c5, f0, f1, f2, f3, f4, f5⟩ := HD3.out.facts
          go_wp2_with fail
          obtain ⟨hrow, hk⟩ := HD3.out.fill (.int .i64 0) (.string ⟨#[]⟩) (.bool false) (.slice none 0 0) (.slice none 0 0) (.int .i64 0)
          clear c0 c1 c2 c3 c4 c5 f0 f1 f2 f3 f4 f5
          generalize World.setCell _ ⟨w.heap.size, 5, none⟩ (.int .i64 0) = W' at *
          obtain ⟨c0, c1, c2, c3, c4, c5⟩ := row6 hrow
          refine bodyPost_ret (v := .tuple #[.agg #[.int .i64 0, .string ⟨#[]⟩, .bool false, .slice none 0 0, .slice none 0 0, .int .i64 0], .bool false]) (by simp [results, Tryz.results99, go_sem, c0, c1, c2, c3, c4, c5]) rfl ?_
          exact AtomPost.no HA.out rfl (HB3.out.trans hk.bel)
        · go_wp2_with fail
          refine (digit_any s 0 _ (by omega)).mono ?_
          rintro e w4 ⟨rfl, hww⟩
          rw [hww]
          clear hww w4
          rw [hd0]
          go_wp2_with fail
          refine (digit_any s 1 _ (by omega)).mono ?_
          rintro e w5 ⟨rfl, hww⟩
          rw [hww]
          clear hww w5
          rw [hd1]
          obtain ⟨c0, c1, c2, c3, c4, c5, f0, f1, f2, f3, f4, f5⟩ := HD3.out.facts
          go_wp2_with fail
          obtain ⟨hrow, hk⟩ := HD3.out.fill (.int .i64 0) (.string ⟨#[]⟩) (.bool false) (.slice none 0 0) (.slice none 0 0) (.int .i64 0)
          clear c0 c1 c2 c3 c4 c5 f0 f1 f2 f3 f4 f5
          generalize World.setCell _ ⟨w.heap.size, 5, none⟩ (.int .i64 0) = W' at *
          obtain ⟨c0, c1, c2, c3, c4, c5⟩ := row6 hrow
          refine bodyPost_ret (v := .tuple #[.agg #[.int .i64 0, .string ⟨#[]⟩, .bool false, .slice none 0 0, .slice none 0 0, .int .i64 0], .bool false]) (by simp [results, Tryz.results99, go_sem, c0, c1, c2, c3, c4, c5]) rfl ?_
          exact AtomPost.no HA.out rfl (HB3.out.trans hk.bel)
      | false =>
        have HNUM := Lib.hid (show numeA (byt s) = false by unfold numeA; rw [hd0, hd1]; simp)
        rcases hbs with hq | ⟨hq1, hq⟩
        · go_wp2_with fail
          refine (digit_any s 0 _ (by omega)).mono ?_
          rintro e w4 ⟨rfl, hww⟩
          rw [hww]
          clear hww w4
          rw [hd0]
          go_wp2_with fail
          refine (digit_any s 1 _ (by omega)).mono ?_
          rintro e w5 ⟨rfl, hww⟩
          rw [hww]
          clear hww w5
          rw [hd1]
          clear hd0 hd1 hsg
          have hconv := HC.out w3
          have hcap := grownCap_ge w3 s.size 0 5
          go_wp2_with fail
          generalize hG : grownCap w3 s.size 0 5 = cap at *
          have hsl := row_slS (w := w3) (e := 5) (W := (w3.alloc (Obj.cells (bytesRow s cap) 5 ((bytesRow s cap).size, (bytesRow s cap).size + 1))).drew) (heap_alloc_new w3 _) hcap (by have := HSZ.out; omega)
          have hbq : Below w3.heap.size w3 ((w3.alloc (Obj.cells (bytesRow s cap) 5 ((bytesRow s cap).size, (bytesRow s cap).size + 1))).drew) := (below1 w3 _).drew
          refine (rchars_any _ (byt s) _ hsl (byt_by s) (by rw [byt_len]; have := HSZ.out; omega)).mono ?_
          rintro e w4 ⟨v, rfl, hv, hb⟩
          have hb34 : Below w3.heap.size w3 w4 := hbq.trans (hb.mono (by simp))
          have HD4 := Lib.hid (HD3.out.step hb34)
          have HB4 := Lib.hid (HB3.out.trans (hb34.mono HB3.out.size))
          clear hsl hbq hb hb34 hconv hG hcap
          cases hch : (chars (byt s) 0).2 with
          | some kk =>
            have HA := Lib.hid (HNONE.out (.inr (.inr (.inr (.inr (.inr (.inl (by rw [hch]; simp))))))))
            rw [chA_bad hch] at hv ⊢
            have hkk : (0 : Int) ≤ (kk : Int) := by omega
            obtain ⟨_, av4, cv4, rfl, _, _⟩ := hv
            clear hch
            obtain ⟨c0, c1, c2, c3, c4, c5, f0, f1, f2, f3, f4, f5⟩ := HD4.out.facts
            go_wp2_with fail
            obtain ⟨hrow, hk⟩ := HD4.out.fill (.int .i64 0) (.string ⟨#[]⟩) (.bool false) (.slice none 0 0) (.slice none 0 0) (.int .i64 0)
            clear c0 c1 c2 c3 c4 c5 f0 f1 f2 f3 f4 f5
            generalize World.setCell _ ⟨w.heap.size, 5, none⟩ (.int .i64 0) = W' at *
            obtain ⟨c0, c1, c2, c3, c4, c5⟩ := row6 hrow
            refine bodyPost_ret (v := .tuple #[.agg #[.int .i64 0, .string ⟨#[]⟩, .bool false, .slice none 0 0, .slice none 0 0, .int .i64 0], .bool false]) (by simp [results, Tryz.results99, go_sem, c0, c1, c2, c3, c4, c5]) rfl ?_
            exact AtomPost.no HA.out rfl (HB4.out.trans hk.bel)
          | none =>
            obtain ⟨cs, hcs⟩ : ∃ cs, cs = (chars (byt s) 0).1 := ⟨_, rfl⟩
            have hok : chars (byt s) 0 = (cs, none) := by rw [hcs, ← hch]
            rw [chA_ok hok] at hv ⊢
            have HCS := Lib.hid hcs
            have HCH := Lib.hid hch
            obtain ⟨hmx, av4, cv4, rfl, hcv4, hcell⟩ := hv
            have HCELL : Hid (∀ j, j < cs.length → ∃ b off, av4 = some ⟨b, off, none⟩ ∧ w4.cell? ⟨b, off + j, none⟩ = some (.int .i64 ((limb cs j : Nat) : Int))) := Lib.hid fun j hj => by
              rcases hcell with ⟨h, _⟩ | ⟨b, off, h1, _, h3⟩
              · have h' : cs = [] := h
                rw [h'] at hj; simp at hj
              · exact ⟨b, off, h1, h3 j hj⟩
            have hmx : cs.length ≤ maxLen := hmx
            unfold maxLen at hmx
            clear hch hcs hok hcell
            go_wp2_with fail
            go_loopw [8] (fun i8 wr => ∃ kk : Nat, i8 = .int .i64 (kk : Nat) ∧ kk ≤ cs.length ∧ (∀ j, j < kk → enN (limb cs j) = false) ∧ wr = w4) (fun i8 _ => cs.length - (intOf i8).toNat)
            case atStart => exact ⟨0, rfl, by omega, fun j hj => by omega, rfl⟩
            case round =>
              obtain ⟨kk, rfl, hkk, hno, rfl⟩ := hrel
              have HN := Lib.hid hno; clear hno
              rcases Nat.lt_or_eq_of_le hkk with hlt | rfl
              · obtain ⟨b, off, hao, hc⟩ := HCELL.out kk hlt
                subst hao
                have hltc : kk < cv4 := by omega
                cases hen : enN (limb cs kk) with
                | true =>
                  have hany : cs.any enN = true := by rw [List.any_eq_true]; exact ⟨limb cs kk, by rw [limb_lt hlt]; exact List.getElem_mem hlt, hen⟩
                  have HA := Lib.hid (HNONE.out (.inr (.inr (.inr (.inr (.inr (.inr (by rw [← HCS.out]; exact hany))))))))
                  clear hany
                  go_wp2_with fail
                  refine (rends_any _ _).mono ?_
                  rintro e w5 ⟨rfl, rfl⟩
                  rw [show enB ((limb cs kk : Nat) : Int) = true from hen]
                  clear hen
                  obtain ⟨c0, c1, c2, c3, c4, c5, f0, f1, f2, f3, f4, f5⟩ := HD4.out.facts
                  go_wp2_with fail
                  obtain ⟨hrow, hk⟩ := HD4.out.fill (.int .i64 0) (.string ⟨#[]⟩) (.bool false) (.slice none 0 0) (.slice none 0 0) (.int .i64 0)
                  clear c0 c1 c2 c3 c4 c5 f0 f1 f2 f3 f4 f5
                  generalize World.setCell _ ⟨w.heap.size, 5, none⟩ (.int .i64 0) = W' at *
                  obtain ⟨c0, c1, c2, c3, c4, c5⟩ := row6 hrow
                  refine bodyPost_ret (v := .tuple #[.agg #[.int .i64 0, .string ⟨#[]⟩, .bool false, .slice none 0 0, .slice none 0 0, .int .i64 0], .bool false]) (by simp [results, Tryz.results99, go_sem, c0, c1, c2, c3, c4, c5]) rfl ?_
                  exact AtomPost.no HA.out rfl (HB4.out.trans hk.bel)
                | false =>
                  go_wp2_with fail
                  refine (rends_any _ _).mono ?_
                  rintro e w5 ⟨rfl, rfl⟩
                  rw [show enB ((limb cs kk : Nat) : Int) = false from hen]
                  have HEN := Lib.hid hen
                  clear hen
                  go_wp2_with fail
                  go_roundw
                  case rel =>
                    refine ⟨kk + 1, by go_num, by omega, fun j hj => ?_, by trivial⟩
                    by_cases e : j = kk
                    · subst e; exact HEN.out
                    · exact HN.out j (by omega)
                  case measure => simp only [intOf]; omega
              · have hany : cs.any enN = false := by
                  rw [List.any_eq_false]
                  intro x hx
                  obtain ⟨j, hj, rfl⟩ := List.getElem_of_mem hx
                  have := HN.out j hj
                  rw [limb_lt hj] at this
                  rw [this]; simp
                have HA := Lib.hid (atmA_sym HNT.out HNF.out HPAR.out (symA_yes (by intro h; have := HLEN.out; rw [h] at this; have := H0.out; simp at *; omega) HDT.out (by have := HLEN.out; have := H64.out; omega) H35.out HNUM.out HCH.out (by rw [← HCS.out]; exact hany)))
                clear hany
                obtain ⟨c0, c1, c2, c3, c4, c5, f0, f1, f2, f3, f4, f5⟩ := HD4.out.facts
                go_wp2_with fail
                obtain ⟨hrow, hk⟩ := HD4.out.fill (.int .i64 4) (.string s) (.bool false) (.slice none 0 0) (.slice none 0 0) (.int .i64 0)
                clear c0 c1 c2 c3 c4 c5 f0 f1 f2 f3 f4 f5
                generalize World.setCell _ ⟨w.heap.size, 5, none⟩ (.int .i64 0) = W' at *
                obtain ⟨c0, c1, c2, c3, c4, c5⟩ := row6 hrow
                refine bodyPost_ret (v := .tuple #[.agg #[.int .i64 4, .string s, .bool false, .slice none 0 0, .slice none 0 0, .int .i64 0], .bool true]) (by simp [results, Tryz.results99, go_sem, c0, c1, c2, c3, c4, c5]) rfl ?_
                exact AtomPost.mk (lv := .slice none 0 0) HA.out (by unfold dtV; rw [byt_mkB]; rfl) (Sl.nil _ _) (HB4.out.trans hk.bel)
        · go_wp2_with fail
          refine (digit_any s 0 _ (by omega)).mono ?_
          rintro e w4 ⟨rfl, hww⟩
          rw [hww]
          clear hww w4
          rw [hd0]
          go_wp2_with fail
          refine (digit_any s 1 _ (by omega)).mono ?_
          rintro e w5 ⟨rfl, hww⟩
          rw [hww]
          clear hww w5
          rw [hd1]
          clear hd0 hd1 hsg
          have hconv := HC.out w3
          have hcap := grownCap_ge w3 s.size 0 5
          go_wp2_with fail
          generalize hG : grownCap w3 s.size 0 5 = cap at *
          have hsl := row_slS (w := w3) (e := 5) (W := (w3.alloc (Obj.cells (bytesRow s cap) 5 ((bytesRow s cap).size, (bytesRow s cap).size + 1))).drew) (heap_alloc_new w3 _) hcap (by have := HSZ.out; omega)
          have hbq : Below w3.heap.size w3 ((w3.alloc (Obj.cells (bytesRow s cap) 5 ((bytesRow s cap).size, (bytesRow s cap).size + 1))).drew) := (below1 w3 _).drew
          refine (rchars_any _ (byt s) _ hsl (byt_by s) (by rw [byt_len]; have := HSZ.out; omega)).mono ?_
          rintro e w4 ⟨v, rfl, hv, hb⟩
          have hb34 : Below w3.heap.size w3 w4 := hbq.trans (hb.mono (by simp))
          have HD4 := Lib.hid (HD3.out.step hb34)
          have HB4 := Lib.hid (HB3.out.trans (hb34.mono HB3.out.size))
          clear hsl hbq hb hb34 hconv hG hcap
          cases hch : (chars (byt s) 0).2 with
          | some kk =>
            have HA := Lib.hid (HNONE.out (.inr (.inr (.inr (.inr (.inr (.inl (by rw [hch]; simp))))))))
            rw [chA_bad hch] at hv ⊢
            have hkk : (0 : Int) ≤ (kk : Int) := by omega
            obtain ⟨_, av4, cv4, rfl, _, _⟩ := hv
            clear hch
            obtain ⟨c0, c1, c2, c3, c4, c5, f0, f1, f2, f3, f4, f5⟩ := HD4.out.facts
            go_wp2_with fail
            obtain ⟨hrow, hk⟩ := HD4.out.fill (.int .i64 0) (.string ⟨#[]⟩) (.bool false) (.slice none 0 0) (.slice none 0 0) (.int .i64 0)
            clear c0 c1 c2 c3 c4 c5 f0 f1 f2 f3 f4 f5
            generalize World.setCell _ ⟨w.heap.size, 5, none⟩ (.int .i64 0) = W' at *
            obtain ⟨c0, c1, c2, c3, c4, c5⟩ := row6 hrow
            refine bodyPost_ret (v := .tuple #[.agg #[.int .i64 0, .string ⟨#[]⟩, .bool false, .slice none 0 0, .slice none 0 0, .int .i64 0], .bool false]) (by simp [results, Tryz.results99, go_sem, c0, c1, c2, c3, c4, c5]) rfl ?_
            exact AtomPost.no HA.out rfl (HB4.out.trans hk.bel)
          | none =>
            obtain ⟨cs, hcs⟩ : ∃ cs, cs = (chars (byt s) 0).1 := ⟨_, rfl⟩
            have hok : chars (byt s) 0 = (cs, none) := by rw [hcs, ← hch]
            rw [chA_ok hok] at hv ⊢
            have HCS := Lib.hid hcs
            have HCH := Lib.hid hch
            obtain ⟨hmx, av4, cv4, rfl, hcv4, hcell⟩ := hv
            have HCELL : Hid (∀ j, j < cs.length → ∃ b off, av4 = some ⟨b, off, none⟩ ∧ w4.cell? ⟨b, off + j, none⟩ = some (.int .i64 ((limb cs j : Nat) : Int))) := Lib.hid fun j hj => by
              rcases hcell with ⟨h, _⟩ | ⟨b, off, h1, _, h3⟩
              · have h' : cs = [] := h
                rw [h'] at hj; simp at hj
              · exact ⟨b, off, h1, h3 j hj⟩
            have hmx : cs.length ≤ maxLen := hmx
            unfold maxLen at hmx
            clear hch hcs hok hcell
            go_wp2_with fail
            go_loopw [8] (fun i8 wr => ∃ kk : Nat, i8 = .int .i64 (kk : Nat) ∧ kk ≤ cs.length ∧ (∀ j, j < kk → enN (limb cs j) = false) ∧ wr = w4) (fun i8 _ => cs.length - (intOf i8).toNat)
            case atStart => exact ⟨0, rfl, by omega, fun j hj => by omega, rfl⟩
            case round =>
              obtain ⟨kk, rfl, hkk, hno, rfl⟩ := hrel
              have HN := Lib.hid hno; clear hno
              rcases Nat.lt_or_eq_of_le hkk with hlt | rfl
              · obtain ⟨b, off, hao, hc⟩ := HCELL.out kk hlt
                subst hao
                have hltc : kk < cv4 := by omega
                cases hen : enN (limb cs kk) with
                | true =>
                  have hany : cs.any enN = true := by rw [List.any_eq_true]; exact ⟨limb cs kk, by rw [limb_lt hlt]; exact List.getElem_mem hlt, hen⟩
                  have HA := Lib.hid (HNONE.out (.inr (.inr (.inr (.inr (.inr (.inr (by rw [← HCS.out]; exact hany))))))))
                  clear hany
                  go_wp2_with fail
                  refine (rends_any _ _).mono ?_
                  rintro e w5 ⟨rfl, rfl⟩
                  rw [show enB ((limb cs kk : Nat) : Int) = true from hen]
                  clear hen
                  obtain ⟨c0, c1, c2, c3, c4, c5, f0, f1, f2, f3, f4, f5⟩ := HD4.out.facts
                  go_wp2_with fail
                  obtain ⟨hrow, hk⟩ := HD4.out.fill (.int .i64 0) (.string ⟨#[]⟩) (.bool false) (.slice none 0 0) (.slice none 0 0) (.int .i64 0)
                  clear c0 c1 c2 c3 c4 c5 f0 f1 f2 f3 f4 f5
                  generalize World.setCell _ ⟨w.heap.size, 5, none⟩ (.int .i64 0) = W' at *
                  obtain ⟨c0, c1, c2, c3, c4, c5⟩ := row6 hrow
                  refine bodyPost_ret (v := .tuple #[.agg #[.int .i64 0, .string ⟨#[]⟩, .bool false, .slice none 0 0, .slice none 0 0, .int .i64 0], .bool false]) (by simp [results, Tryz.results99, go_sem, c0, c1, c2, c3, c4, c5]) rfl ?_
                  exact AtomPost.no HA.out rfl (HB4.out.trans hk.bel)
                | false =>
                  go_wp2_with fail
                  refine (rends_any _ _).mono ?_
                  rintro e w5 ⟨rfl, rfl⟩
                  rw [show enB ((limb cs kk : Nat) : Int) = false from hen]
                  have HEN := Lib.hid hen
                  clear hen
                  go_wp2_with fail
                  go_roundw
                  case rel =>
                    refine ⟨kk + 1, by go_num, by omega, fun j hj => ?_, by trivial⟩
                    by_cases e : j = kk
                    · subst e; exact HEN.out
                    · exact HN.out j (by omega)
                  case measure => simp only [intOf]; omega
              · have hany : cs.any enN = false := by
                  rw [List.any_eq_false]
                  intro x hx
                  obtain ⟨j, hj, rfl⟩ := List.getElem_of_mem hx
                  have := HN.out j hj
                  rw [limb_lt hj] at this
                  rw [this]; simp
                have HA := Lib.hid (atmA_sym HNT.out HNF.out HPAR.out (symA_yes (by intro h; have := HLEN.out; rw [h] at this; have := H0.out; simp at *; omega) HDT.out (by have := HLEN.out; have := H64.out; omega) H35.out HNUM.out HCH.out (by rw [← HCS.out]; exact hany)))
                clear hany
                obtain ⟨c0, c1, c2, c3, c4, c5, f0, f1, f2, f3, f4, f5⟩ := HD4.out.facts
                go_wp2_with fail
                obtain ⟨hrow, hk⟩ := HD4.out.fill (.int .i64 4) (.string s) (.bool false) (.slice none 0 0) (.slice none 0 0) (.int .i64 0)
                clear c0 c1 c2 c3 c4 c5 f0 f1 f2 f3 f4 f5
                generalize World.setCell _ ⟨w.heap.size, 5, none⟩ (.int .i64 0) = W' at *
                obtain ⟨c0, c1, c2, c3, c4, c5⟩ := row6 hrow
                refine bodyPost_ret (v := .tuple #[.agg #[.int .i64 4, .string s, .bool false, .slice none 0 0, .slice none 0 0, .int .i64 0], .bool true]) (by simp [results, Tryz.results99, go_sem, c0, c1, c2, c3, c4, c5]) rfl ?_
                exact AtomPost.mk (lv := .slice none 0 0) HA.out (by unfold dtV; rw [byt_mkB]; rfl) (Sl.nil _ _) (HB4.out.trans hk.bel)
end Go.Proofs.YtbfcbicbeagjkaaGreatDoor
namespace Go.Proofs.YtbfcbicbeagjkaaGreatDoor
open Go.RowKit

end Go.Proofs.YtbfcbicbeagjkaaGreatDoor
