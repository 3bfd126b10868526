/- utf.Named -/
import Derived.Test.YtkocmjmmflphnaaGreatDoorNumbered
namespace Go.Proofs.YtkocmjmmflphnaaGreatDoor
open Go.RowKit Go.Lib

/-- The table of words. -/
def Words (w : World) : Prop := ∃ b off cap, w.cell? ⟨1, 0, none⟩ = some (.slice (some ⟨b, off, none⟩) 6 cap) ∧
  ∀ k, k < 6 → w.cell? ⟨b, off + k * 2, none⟩ = some (.string (mkB (wName k))) ∧ w.cell? ⟨b, off + k * 2 + 1, none⟩ = some (.int .i64 ((wChar k : Nat) : Int))
theorem Words.below {w w' : World} (h : Words w) (hb : Below w.heap.size w w') : Words w' := by
  obtain ⟨b, off, cap, h1, h2⟩ := h
  exact ⟨b, off, cap, cell_keep h1 hb, fun k hk => ⟨cell_keep (h2 k hk).1 hb, cell_keep (h2 k hk).2 hb⟩⟩
theorem wName_by (k : Nat) : By (wName k) := by
  by_cases h : k < 6
  · have : k = 0 ∨ k = 1 ∨ k = 2 ∨ k = 3 ∨ k = 4 ∨ k = 5 := by omega
    rcases this with rfl | rfl | rfl | rfl | rfl | rfl <;> (intro i; rcases Nat.lt_or_ge i 8 with hi | hi; · revert i; decide
                                                            · rw [limb_out (by simp [wName, wtab]; omega)]; omega)
  · intro i
    have : wName k = [] := by unfold wName; rw [List.getD_eq_getElem?_getD, List.getElem?_eq_none (by simp [wtab]; omega)]; rfl
    rw [this, limb_out (by simp)]; omega

theorem str_eq {a b : ByteArray} (h : (a.toList == b.toList) = true) : a = b := by
  have h1 : a.toList = b.toList := by simpa using h
  have ha : a.toList = a.data.toList := toList_data a
  have hb : b.toList = b.data.toList := toList_data b
  rw [ha, hb] at h1
  cases a; cases b
  congr 1
  exact Array.toList_inj.1 h1
theorem str_ne {a b : ByteArray} (h : (a.toList == b.toList) = false) : a ≠ b := by
  rintro rfl
  simp at h
theorem byt_mk {l : List Nat} (h : By l) : byt (mkB l) = l := by
  apply List.ext_getElem (by rw [byt_len, mkB_size])
  intro i h1 h2
  have e := mkB_get h i
  have h3 : i < (mkB l).size := by rw [mkB_size]; exact h2
  rw [byt_get h3, limb_lt h1, limb_lt h2] at e
  exact e
theorem decodeGo_byt {s : ByteArray} (h : 0 < s.size) : Lib.decodeGo s = dc (byt s) 0 := by
  have := mkB_dec (byt_by s) (i := 0) (by rw [byt_len]; exact h)
  rw [List.drop_zero, byt_mkB] at this
  exact this

theorem byt_cons {s : ByteArray} (h : 0 < s.size) : ∃ (b : UInt8) (l : List UInt8), s.data.toList = b :: l ∧ limb (byt s) 0 = b.toNat ∧ (byt s).drop 1 = l.map UInt8.toNat := by
  have h1 : 0 < s.data.toList.length := by rw [Array.length_toList]; exact h
  unfold byt
  generalize s.data.toList = L at *
  cases L with
  | nil => simp at h1
  | cons b l => exact ⟨b, l, rfl, rfl, rfl⟩
theorem pfx_no {s : ByteArray} (h : 0 < s.size → ¬ limb (byt s) 0 = 120) : Lib.hasPrefix s.data.toList (ByteArray.mk #[120]).data.toList = false := by
  rcases Nat.eq_zero_or_pos s.size with h0 | h0
  · have : s.data.toList = [] := List.eq_nil_of_length_eq_zero (by rw [Array.length_toList]; exact h0)
    rw [this]; rfl
  · obtain ⟨b, l, e, e1, _⟩ := byt_cons h0
    rw [e]
    have hb : b ≠ 120 := by
      rintro rfl
      exact h h0 e1
    show ((120 : UInt8) == b && true) = false
    simp [Ne.symm hb]
theorem pfx_yes {s : ByteArray} (h0 : 0 < s.size) (h : limb (byt s) 0 = 120) : Lib.hasPrefix s.data.toList (ByteArray.mk #[120]).data.toList = true := by
  obtain ⟨b, l, e, e1, _⟩ := byt_cons h0
  rw [e]
  have hb : b = 120 := by
    rw [e1] at h
    exact UInt8.toNat_inj.1 h
  rw [hb]
  show ((120 : UInt8) == 120 && true) = true
  rfl
theorem tail_of {s : ByteArray} (h0 : 0 < s.size) : ∃ t : ByteArray, t = ⟨(Lib.trimPrefix s.data.toList (ByteArray.mk #[120]).data.toList).toArray⟩ ∧ (limb (byt s) 0 = 120 → byt t = (byt s).drop 1) := by
  refine ⟨_, rfl, fun h => ?_⟩
  have hp := pfx_yes h0 h
  obtain ⟨b, l, e, _, e2⟩ := byt_cons h0
  rw [e2]
  unfold Lib.trimPrefix
  rw [hp, if_pos rfl, e]
  rfl

set_option maxRecDepth 100000 in
set_option maxHeartbeats 2000000 in
theorem named_any (s : ByteArray) (w : World) (ht : Tabs2 w) (hw : Words w) :
    Calls Tryz.prog 48 #[.string s] w (ChPost (namedA (byt s)) w) := by
  have HT := Lib.hid ht; clear ht
  obtain ⟨b, off, cap, hc0, hc⟩ := hw
  have HC := Lib.hid hc; clear hc
  go_enter Tryz.func48, Tryz.ntmps48
  go_wp2_with fail
  go_loopw [12] (fun i wr => ∃ k : Nat, k ≤ 6 ∧ i = .int .i64 (k : Nat) ∧ (∀ j, j < k → wName j ≠ byt s) ∧ Below w.heap.size w wr) (fun i _ => 6 - (intOf i).toNat)
  case atStart => exact ⟨0, by omega, rfl, fun j hj => by omega, Below.refl _ _⟩
  case round =>
    obtain ⟨k, hk, rfl, hno, hbel⟩ := hrel
    have HNO := Lib.hid hno; clear hno
    rcases Nat.lt_or_ge k 6 with hlt | hge
    · obtain ⟨c0, c1⟩ := HC.out k hlt
      have d0 := cell_keep c0 hbel
      have d1 := cell_keep c1 hbel
      cases hE : ((mkB (wName k)).toList == s.toList) with
      | true =>
        have he := str_eq hE
        have HA := Lib.hid (namedA_word (wordA_hit hlt (by rw [← he, byt_mk (wName_by k)]) HNO.out))
        clear he
        go_wp2_with fail
        refine bodyPost_ret (v := .tuple #[.int .i64 (wChar k : Nat), .bool true]) (by simp [results, Tryz.results48, go_sem]) rfl ?_
        exact ⟨by rw [HA.out]; rfl, hbel.alloc hbel.size _⟩
      | false =>
        have HE := Lib.hid (str_ne hE)
        go_wp2_with fail
        go_roundw
        case rel =>
          refine ⟨k + 1, by omega, by go_num, fun j hj hw => ?_, hbel.alloc hbel.size _⟩
          by_cases e : j = k
          · subst e
            exact HE.out (by rw [hw, byt_mkB])
          · exact HNO.out j (by omega) hw
        case measure => simp only [intOf]; omega
    · obtain rfl : k = 6 := by omega
      have HW0 := Lib.hid (wordA_none HNO.out)
      have hT1 := (HT.out.below hbel).utf
      go_wp2_with fail
      refine (Tryz.utf8_DecodeRuneInString s wr hT1).mono ?_
      rintro e w1 ⟨rfl, hb1⟩
      have hbel1 := hbel.trans (hb1.mono hbel.size)
      -- behind the words
      rcases Nat.eq_zero_or_pos s.size with h0 | h0
      · have hd0 : Lib.decodeGo s = (65533, 0) := by unfold Lib.decodeGo; rw [if_pos h0]
        rw [hd0]
        have hz : ((s.size : Nat) : Int) = 0 := by omega
        have hq : ((0 : Int) == ((s.size : Nat) : Int)) = true := by rw [hz]; rfl
        go_wp2_with fail
        refine (broken_any 65533 0 _ (by omega) (by omega)).mono ?_
        rintro e w2 ⟨rfl, rfl⟩
        rw [show badB (65533, 0) = true from rfl]
        go_wp2_with fail
        refine (Tryz.strings_CutPrefix s ⟨#[120]⟩ _).mono ?_
        rintro e w2 ⟨rfl, rfl⟩
        rw [pfx_no (fun h => absurd h (by omega))]
        go_wp2_with fail
        refine bodyPost_ret (v := .tuple #[.int .i64 0, .bool false]) (by simp [results, Tryz.results48, go_sem]) rfl ?_
        exact ⟨by rw [namedA_not HW0.out (fun h => h.1 (List.eq_nil_of_length_eq_zero (by rw [byt_len]; exact h0))) (fun h => h.1 (List.eq_nil_of_length_eq_zero (by rw [byt_len]; exact h0)))]; rfl, hbel1⟩
      · rw [decodeGo_byt h0]
        obtain ⟨cp, hcp⟩ : ∃ cp, cp = (dc (byt s) 0).1 := ⟨_, rfl⟩
        obtain ⟨np, hnp⟩ : ∃ np, np = (dc (byt s) 0).2 := ⟨_, rfl⟩
        have hc1 := dc_char (byt s) 0
        have hn1 := (dc_size (byt s) 0).2
        rw [← hcp] at hc1
        rw [← hnp] at hn1
        rw [← hcp, ← hnp]
        have hpair : dc (byt s) 0 = (cp, np) := by rw [hcp, hnp]
        by_cases hsz : np = s.size
        · have hq : ((np : Int) == ((s.size : Nat) : Int)) = true := by rw [hsz]; simp
          cases hb : badB (cp, np) with
          | false =>
            have HA := Lib.hid (namedA_one HW0.out (by intro h; rw [← byt_len, h] at h0; simp at h0) (by rw [hpair]; exact hb) (by rw [hpair, byt_len]; exact hsz))
            rw [hpair] at HA
            clear hcp hnp hpair hsz
            go_wp2_with fail
            refine (broken_any cp np _ hc1 hn1).mono ?_
            rintro e w2 ⟨rfl, rfl⟩
            rw [hb]
            go_wp2_with fail
            refine bodyPost_ret (v := .tuple #[.int .i64 (cp : Nat), .bool true]) (by simp [results, Tryz.results48, go_sem]) rfl ?_
            exact ⟨by rw [HA.out]; rfl, hbel1⟩
          | true =>
            have HB : Hid (¬ (byt s ≠ [] ∧ badB (dc (byt s) 0) = false ∧ (dc (byt s) 0).2 = (byt s).length)) := Lib.hid (by rw [hpair, hb]; intro h; cases h.2.1)
            clear hcp hnp hpair hsz
            go_wp2_with fail
            refine (broken_any cp np _ hc1 hn1).mono ?_
            rintro e w2 ⟨rfl, rfl⟩
            rw [hb]
            go_wp2_with fail
            refine (Tryz.strings_CutPrefix s ⟨#[120]⟩ _).mono ?_
            rintro e w2 ⟨rfl, rfl⟩
            by_cases hx : limb (byt s) 0 = 120
            · obtain ⟨t, htl, htb⟩ := tail_of h0
              rw [pfx_yes h0 hx, ← htl]
              have HTB := Lib.hid (htb hx)
              have HXX := Lib.hid hx
              have H00 := Lib.hid h0
              clear htl htb hx h0
              go_wp2_with fail
              refine (numbered_any t _ (HT.out.below hbel1)).mono ?_
              rintro e w3 ⟨rfl, hb3⟩
              go_wp2_with fail
              refine bodyPost_ret (v := .tuple #[.int .i64 (((hexA (byt t)).getD 0 : Nat) : Int), .bool (hexA (byt t)).isSome]) (by simp [results, Tryz.results48, go_sem]) rfl ?_
              exact ⟨by rw [namedA_hex HW0.out HB.out (by intro h; have h0 := H00.out; rw [← byt_len, h] at h0; simp at h0) HXX.out, ← HTB.out], hbel1.trans (hb3.mono hbel1.size)⟩
            · rw [pfx_no (fun _ => hx)]
              go_wp2_with fail
              refine bodyPost_ret (v := .tuple #[.int .i64 0, .bool false]) (by simp [results, Tryz.results48, go_sem]) rfl ?_
              exact ⟨by rw [namedA_not HW0.out HB.out (fun h => hx h.2)]; rfl, hbel1⟩
        · have hq : ((np : Int) == ((s.size : Nat) : Int)) = false := by rw [beq_eq_false_iff_ne]; omega
          have HB : Hid (¬ (byt s ≠ [] ∧ badB (dc (byt s) 0) = false ∧ (dc (byt s) 0).2 = (byt s).length)) := Lib.hid (by rw [hpair, byt_len]; intro h; exact hsz h.2.2)
          clear hcp hnp hpair hsz
          go_wp2_with fail
          refine (Tryz.strings_CutPrefix s ⟨#[120]⟩ _).mono ?_
          rintro e w2 ⟨rfl, rfl⟩
          by_cases hx : limb (byt s) 0 = 120
          · obtain ⟨t, htl, htb⟩ := tail_of h0
            rw [pfx_yes h0 hx, ← htl]
            have HTB := Lib.hid (htb hx)
            have HXX := Lib.hid hx
            have H00 := Lib.hid h0
            clear htl htb hx h0
            go_wp2_with fail
            refine (numbered_any t _ (HT.out.below hbel1)).mono ?_
            rintro e w3 ⟨rfl, hb3⟩
            go_wp2_with fail
            refine bodyPost_ret (v := .tuple #[.int .i64 (((hexA (byt t)).getD 0 : Nat) : Int), .bool (hexA (byt t)).isSome]) (by simp [results, Tryz.results48, go_sem]) rfl ?_
            exact ⟨by rw [namedA_hex HW0.out HB.out (by intro h; have h0 := H00.out; rw [← byt_len, h] at h0; simp at h0) HXX.out, ← HTB.out], hbel1.trans (hb3.mono hbel1.size)⟩
          · rw [pfx_no (fun _ => hx)]
            go_wp2_with fail
            refine bodyPost_ret (v := .tuple #[.int .i64 0, .bool false]) (by simp [results, Tryz.results48, go_sem]) rfl ?_
            exact ⟨by rw [namedA_not HW0.out HB.out (fun h => hx h.2)]; rfl, hbel1⟩
end Go.Proofs.YtkocmjmmflphnaaGreatDoor
