/- utf.numbered | utf.Named -/
import Derived.Test.YtpahfhjgcflifaaGreatDoorUEncMath
import Derived.Test.YtpahfhjgcflifaaGreatDoorShelf
import Derived.Test.YtpahfhjgcflifaaGreatDoorUDec
namespace Go.Proofs.YtpahfhjgcflifaaGreatDoor
open Go.RowKit Go.Lib

theorem cell_keep {w w' : World} {a : Addr} {v : Value} (h : w.cell? a = some v) (hb : Below w.heap.size w w') : w'.cell? a = some v := by
  have hlt : a.block < w.heap.size := by
    apply Classical.byContradiction
    intro hn
    have : w.heap[a.block]? = none := Array.getElem?_eq_none (by omega)
    simp [World.cell?, this] at h
  rw [hb.cell (p := a) hlt]; exact h

/-- The tables that names need: of UTF-8, of cases, and a number of the library's. -/
structure Tabs2 (w : World) : Prop where
  utf : Tabs w
  case : CaseVar 8 Lib.caseA w
  max : ∃ m, w.cell? ⟨7, 0, none⟩ = some (.int .i64 m)

theorem Tabs2.below {w w' : World} (h : Tabs2 w) (hb : Below w.heap.size w w') : Tabs2 w' := by
  obtain ⟨h1, ⟨R, oR, cap, h2, h3⟩, m, h4⟩ := h
  refine ⟨h1.below hb (Nat.le_refl _), ⟨R, oR, cap, cell_keep h2 hb, fun i hi => ?_⟩, m, cell_keep h4 hb⟩
  obtain ⟨a, b, c, d, e⟩ := h3 i hi
  exact ⟨cell_keep a hb, cell_keep b hb, cell_keep c hb, cell_keep d hb, cell_keep e hb⟩

/-- What a call answers that tells a character, or that there is none. -/
def ChPost (o : Option Nat) (w : World) (e : Ending) (w' : World) : Prop := e = .returned (.tuple #[.int .i64 ((o.getD 0 : Nat) : Int), .bool o.isSome]) ∧ Below w.heap.size w w'

theorem toList_ne {s : ByteArray} (h : 1 ≤ s.size) : ¬ s.toList = [] ∧ s.toList.isEmpty = false := by
  have e : s.toList = s.data.toList := toList_data s
  rw [e]
  cases s with
  | mk d =>
    have h' : 1 ≤ d.toList.length := by rw [Array.length_toList]; exact h
    show ¬ d.toList = [] ∧ d.toList.isEmpty = false
    generalize d.toList = l at *
    cases l with
    | nil => exact absurd h' (by simp)
    | cons a l => exact ⟨by simp, rfl⟩
theorem ext_one {s : ByteArray} {k : Nat} (h : k < s.size) : (s.extract k (k + 1)).data.toList = [UInt8.ofNat (limb (byt s) k)] := by
  rw [byt_limb h]
  cases s with
  | mk d =>
    have h' : k < d.size := h
    rw [ByteArray.extract_mk]
    simp only []
    rw [show k + 1 - k = 1 by omega, List.drop_eq_getElem_cons (by rw [Array.length_toList]; exact h')]
    simp
/-- A digit's byte in small letters. -/
theorem lower_one (s : ByteArray) (k : Nat) (w : World) (hk : k < s.size) (ht : Tabs2 w) :
    Calls Tryz.prog 143 #[.string (s.extract k (k + 1))] w fun e w' => ∃ L : List UInt8, e = .returned (.string ⟨L.toArray⟩) ∧ Below w.heap.size w w' ∧
      (hexd (limb (byt s) k) = none → (Lib.cut hexS L).2.2 = false) ∧ (∀ d, hexd (limb (byt s) k) = some d → (Lib.cut hexS L).2.2 = true ∧ (Lib.cut hexS L).1.length = d) := by
  have he := ext_one hk
  have hb := byt_by s k
  have hsz : (s.extract k (k + 1)).size = 1 := by
    have : (s.extract k (k + 1)).data.toList.length = 1 := by rw [he]; rfl
    rw [Array.length_toList] at this
    exact this
  rcases Nat.lt_or_ge (limb (byt s) k) 128 with h | h
  · refine (Tryz.strings_ToLower_ascii (s.extract k (k + 1)) w (by omega) (fun j b hj => ?_)).mono ?_
    · rw [he] at hj
      rcases j with _ | j
      · simp at hj; subst hj; rw [UInt8.toNat_ofNat_of_lt' hb]; exact h
      · simp at hj
    · rintro e w' ⟨rfl, hb'⟩
      rw [he]
      have hc := cut_low ⟨limb (byt s) k, h⟩
      simp only at hc
      refine ⟨_, rfl, hb', fun hn => ?_, fun d hd => ?_⟩
      · rw [hn] at hc
        unfold cutLen at hc
        split at hc
        · cases hc
        · rename_i h2; simpa using h2
      · rw [hd] at hc
        unfold cutLen at hc
        split at hc
        · rename_i h2
          exact ⟨h2, by injection hc⟩
        · cases hc
  · refine (Tryz.strings_ToLower_beyond (s.extract k (k + 1)) w (by omega) ⟨0, UInt8.ofNat (limb (byt s) k), by rw [he]; rfl, by rw [UInt8.toNat_ofNat_of_lt' hb]; exact h⟩ ht.case ht.utf).mono ?_
    rintro e w' ⟨rfl, hb'⟩
    rw [he]
    have hc := cut_high ⟨limb (byt s) k, hb⟩ h
    refine ⟨_, rfl, hb', fun _ => hc, fun d hd => ?_⟩
    rw [hexd_high h] at hd
    cases hd

set_option maxRecDepth 100000 in
set_option maxHeartbeats 2000000 in
theorem numbered_any (s : ByteArray) (w : World) (ht : Tabs2 w) :
    Calls Tryz.prog 132 #[.string s] w (ChPost (hexA (byt s)) w) := by
  have HT := Lib.hid ht; clear ht
  rcases (by omega : s.size = 0 ∨ 6 < s.size ∨ (1 ≤ s.size ∧ s.size ≤ 6)) with h0 | h6 | ⟨h1, h6⟩
  · have hn := hexA_out (ds := byt s) (.inl (by rw [byt_len]; omega))
    have he : s = ⟨#[]⟩ := by
      cases s with
      | mk d => congr 1; exact Array.eq_empty_of_size_eq_zero h0
    subst he
    go_enter Tryz.func132, Tryz.ntmps132
    go_wp2_with fail
    refine bodyPost_ret (v := .tuple #[.int .i64 0, .bool false]) (by simp [results, Tryz.results132, go_sem]) rfl ?_
    exact ⟨by rw [hn]; rfl, Below.refl _ _⟩
  · have hn := hexA_out (ds := byt s) (.inr (by rw [byt_len]; omega))
    obtain ⟨e1, e2⟩ := toList_ne (s := s) (by omega)
    go_enter Tryz.func132, Tryz.ntmps132
    go_wp2_with fail
    refine bodyPost_ret (v := .tuple #[.int .i64 0, .bool false]) (by simp [results, Tryz.results132, go_sem]) rfl ?_
    exact ⟨by rw [hn]; rfl, Below.refl _ _⟩
  · obtain ⟨e1, e2⟩ := toList_ne (s := s) h1
    have hb63 : (s.size : Int) ≤ 6 := by omega
    go_enter Tryz.func132, Tryz.ntmps132
    go_wp2_with fail
    go_loopw [4, 18] (fun c i wr => ∃ k cv : Nat, k ≤ s.size ∧ c = .int .i64 (cv : Nat) ∧ i = .int .i64 (k : Nat) ∧ hexV (byt s) 0 = hexV ((byt s).drop k) cv ∧ cv < 16 ^ k ∧ Below w.heap.size w wr) (fun _ i _ => s.size - (intOf i).toNat)
    case atStart => exact ⟨0, 0, by omega, rfl, rfl, rfl, by simp, Below.refl _ _⟩
    case round =>
      obtain ⟨k, cv, hk, rfl, rfl, hinv, hcv, hbel⟩ := hrel
      have hp : 16 ^ k ≤ 16777216 := Nat.le_trans (Nat.pow_le_pow_right (by omega) (show k ≤ 6 by omega)) (by decide)
      rcases Nat.lt_or_ge k s.size with hlt | hge
      · have HI := Lib.hid hinv; clear hinv
        go_wp2_with fail
        refine (lower_one s k wr hlt (HT.out.below hbel)).mono ?_
        rintro e w1 ⟨T, rfl, hb1, hno, hyes⟩
        have hbel1 := hbel.trans (hb1.mono hbel.size)
        have HNO := Lib.hid hno
        have HYES := Lib.hid hyes
        clear hno hyes hb1
        obtain ⟨m, hm⟩ := (HT.out.below hbel1).max
        go_wp2_with fail
        refine (Tryz.strings_Cut ⟨#[48, 49, 50, 51, 52, 53, 54, 55, 56, 57, 97, 98, 99, 100, 101, 102]⟩ ⟨T.toArray⟩ m w1 (by decide) hm).mono ?_
        rintro e w2 ⟨rfl, q, rfl⟩
        obtain ⟨cb, hcb⟩ : ∃ cb, cb = (cut hexS T).2.2 := ⟨_, rfl⟩
        obtain ⟨cl, hcl⟩ : ∃ cl, cl = (cut hexS T).1 := ⟨_, rfl⟩
        have hc1 : (cut (ByteArray.mk #[48, 49, 50, 51, 52, 53, 54, 55, 56, 57, 97, 98, 99, 100, 101, 102]).data.toList (ByteArray.mk T.toArray).data.toList) = cut hexS T := by simp [hexS]
        rw [hc1, ← hcb, ← hcl]
        cases hd : hexd (limb (byt s) k) with
        | none =>
          have hf := HNO.out hd
          rw [← hcb] at hf
          subst hf
          have HA := Lib.hid (hexA_none (HI.out.trans (hexV_none (by rw [byt_len]; exact hlt) hd)))
          clear hc1 hcb hcl hd
          go_wp2_with fail
          refine bodyPost_ret (v := .tuple #[.int .i64 0, .bool false]) (by simp [results, Tryz.results132, go_sem]) rfl ?_
          exact ⟨by rw [HA.out]; rfl, below_drewN hbel1 _⟩
        | some d =>
          obtain ⟨hf, hl⟩ := HYES.out d hd
          rw [← hcb] at hf
          rw [← hcl] at hl
          subst hf
          have hd16 := hexd_lt hd
          have hsz : (ByteArray.mk cl.toArray).size = d := by rw [← hl]; simp [ByteArray.size]
          have HN := Lib.hid (HI.out.trans (hexV_step (by rw [byt_len]; exact hlt) hd))
          clear hc1 hcb hcl hd hl
          go_wp2_with fail
          go_roundw
          case rel => exact ⟨k + 1, cv * 16 + d, by omega, by go_num, by go_num, HN.out, by rw [Nat.pow_succ]; omega, below_drewN hbel1 _⟩
          case measure => simp only [intOf]; omega
      · obtain rfl : k = s.size := by omega
        have hv : hexV (byt s) 0 = some cv := hinv.trans (hexV_end (by rw [byt_len]; exact Nat.le_refl _))
        have HA := Lib.hid (hexA_some (by rw [byt_len]; omega) hv)
        clear hinv hv
        go_wp2_with fail
        refine (scalar_any (cv : Int) _).mono ?_
        rintro e w1 ⟨rfl, rfl⟩
        cases hsc : scB (cv : Int) with
        | true =>
          rw [hsc] at HA
          go_wp2_with fail
          refine bodyPost_ret (v := .tuple #[.int .i64 (cv : Nat), .bool true]) (by simp [results, Tryz.results132, go_sem]) rfl ?_
          exact ⟨by rw [HA.out]; rfl, hbel⟩
        | false =>
          rw [hsc] at HA
          go_wp2_with fail
          refine bodyPost_ret (v := .tuple #[.int .i64 0, .bool false]) (by simp [results, Tryz.results132, go_sem]) rfl ?_
          exact ⟨by rw [HA.out]; rfl, hbel⟩
end Go.Proofs.YtpahfhjgcflifaaGreatDoor
namespace Go.Proofs.YtpahfhjgcflifaaGreatDoor
open Go.RowKit Go.Lib

/-- The table of words. -/
def Words (w : World) : Prop := ∃ b off cap, w.cell? ⟨3, 0, none⟩ = some (.slice (some ⟨b, off, none⟩) 6 cap) ∧
  ∀ k, k < 6 → w.cell? ⟨b, off + k * 2, none⟩ = some (.string (mkB (wName k))) ∧ w.cell? ⟨b, off + k * 2 + 1, none⟩ = some (.int .i64 ((wChar k : Nat) : Int))
theorem Words.below {w w' : World} (h : Words w) (hb : Below w.heap.size w w') : Words w' := by
  obtain ⟨b, off, cap, h1, h2⟩ := h
  exact ⟨b, off, cap, cell_keep h1 hb, fun k hk => ⟨cell_keep (h2 k hk).1 hb, cell_keep (h2 k hk).2 hb⟩⟩
theorem wName_by (k : Nat) : By (wName k) := by
  by_cases h : k < 6
  · have : k = 0 ∨ k = 1 ∨ k = 2 ∨ k = 3 ∨ k = 4 ∨ k = 5 := by omega
    rcases this with rfl | rfl | rfl | rfl | rfl | rfl <;> (intro i; rcases Nat.lt_or_ge i 8 with hi | hi; · revert i; decide
                                                            · rw [limb_out (by simp [wName, wtab]; omega)]; omega)
  · intro i
    have : wName k = [] := by unfold wName; rw [List.getD_eq_getElem?_getD, List.getElem?_eq_none (by simp [wtab]; omega)]; rfl
    rw [this, limb_out (by simp)]; omega

theorem str_eq {a b : ByteArray} (h : (a.toList == b.toList) = true) : a = b := by
  have h1 : a.toList = b.toList := by simpa using h
  have ha : a.toList = a.data.toList := toList_data a
  have hb : b.toList = b.data.toList := toList_data b
  rw [ha, hb] at h1
  cases a; cases b
  congr 1
  exact Array.toList_inj.1 h1
theorem str_ne {a b : ByteArray} (h : (a.toList == b.toList) = false) : a ≠ b := by
  rintro rfl
  simp at h
theorem byt_mk {l : List Nat} (h : By l) : byt (mkB l) = l := by
  apply List.ext_getElem (by rw [byt_len, mkB_size])
  intro i h1 h2
  have e := mkB_get h i
  have h3 : i < (mkB l).size := by rw [mkB_size]; exact h2
  rw [byt_get h3, limb_lt h1, limb_lt h2] at e
  exact e
theorem decodeGo_byt {s : ByteArray} (h : 0 < s.size) : Lib.decodeGo s = dc (byt s) 0 := by
  have := mkB_dec (byt_by s) (i := 0) (by rw [byt_len]; exact h)
  rw [List.drop_zero, byt_mkB] at this
  exact this

theorem byt_cons {s : ByteArray} (h : 0 < s.size) : ∃ (b : UInt8) (l : List UInt8), s.data.toList = b :: l ∧ limb (byt s) 0 = b.toNat ∧ (byt s).drop 1 = l.map UInt8.toNat := by
  have h1 : 0 < s.data.toList.length := by rw [Array.length_toList]; exact h
  unfold byt
  generalize s.data.toList = L at *
  cases L with
  | nil => simp at h1
  | cons b l => exact ⟨b, l, rfl, rfl, rfl⟩
theorem pfx_no {s : ByteArray} (h : 0 < s.size → ¬ limb (byt s) 0 = 120) : Lib.hasPrefix s.data.toList (ByteArray.mk #[120]).data.toList = false := by
  rcases Nat.eq_zero_or_pos s.size with h0 | h0
  · have : s.data.toList = [] := List.eq_nil_of_length_eq_zero (by rw [Array.length_toList]; exact h0)
    rw [this]; rfl
  · obtain ⟨b, l, e, e1, _⟩ := byt_cons h0
    rw [e]
    have hb : b ≠ 120 := by
      rintro rfl
      exact h h0 e1
    show ((120 : UInt8) == b && true) = false
    simp [Ne.symm hb]
theorem pfx_yes {s : ByteArray} (h0 : 0 < s.size) (h : limb (byt s) 0 = 120) : Lib.hasPrefix s.data.toList (ByteArray.mk #[120]).data.toList = true := by
  obtain ⟨b, l, e, e1, _⟩ := byt_cons h0
  rw [e]
  have hb : b = 120 := by
    rw [e1] at h
    exact UInt8.toNat_inj.1 h
  rw [hb]
  show ((120 : UInt8) == 120 && true) = true
  rfl
theorem tail_of {s : ByteArray} (h0 : 0 < s.size) : ∃ t : ByteArray, t = ⟨(Lib.trimPrefix s.data.toList (ByteArray.mk #[120]).data.toList).toArray⟩ ∧ (limb (byt s) 0 = 120 → byt t = (byt s).drop 1) := by
  refine ⟨_, rfl, fun h => ?_⟩
  have hp := pfx_yes h0 h
  obtain ⟨b, l, e, _, e2⟩ := byt_cons h0
  rw [e2]
  unfold Lib.trimPrefix
  rw [hp, if_pos rfl, e]
  rfl

set_option maxRecDepth 100000 in
set_option maxHeartbeats 2000000 in
theorem named_any (s : ByteArray) (w : World) (ht : Tabs2 w) (hw : Words w) :
    Calls Tryz.prog 121 #[.string s] w (ChPost (namedA (byt s)) w) := by
  have HT := Lib.hid ht; clear ht
  obtain ⟨b, off, cap, hc0, hc⟩ := hw
  have HC := Lib.hid hc; clear hc
  go_enter Tryz.func121, Tryz.ntmps121
  go_wp2_with fail
  go_loopw [12] (fun i wr => ∃ k : Nat, k ≤ 6 ∧ i = .int .i64 (k : Nat) ∧ (∀ j, j < k → wName j ≠ byt s) ∧ Below w.heap.size w wr) (fun i _ => 6 - (intOf i).toNat)
  case atStart => exact ⟨0, by omega, rfl, fun j hj => by omega, Below.refl _ _⟩
  case round =>
    obtain ⟨k, hk, rfl, hno, hbel⟩ := hrel
    have HNO := Lib.hid hno; clear hno
    rcases Nat.lt_or_ge k 6 with hlt | hge
    · obtain ⟨c0, c1⟩ := HC.out k hlt
      have d0 := cell_keep c0 hbel
      have d1 := cell_keep c1 hbel
      cases hE : ((mkB (wName k)).toList == s.toList) with
      | true =>
        have he := str_eq hE
        have HA := Lib.hid (namedA_word (wordA_hit hlt (by rw [← he, byt_mk (wName_by k)]) HNO.out))
        clear he
        go_wp2_with fail
        refine bodyPost_ret (v := .tuple #[.int .i64 (wChar k : Nat), .bool true]) (by simp [results, Tryz.results121, go_sem]) rfl ?_
        exact ⟨by rw [HA.out]; rfl, hbel.alloc hbel.size _⟩
      | false =>
        have HE := Lib.hid (str_ne hE)
        go_wp2_with fail
        go_roundw
        case rel =>
          refine ⟨k + 1, by omega, by go_num, fun j hj hw => ?_, hbel.alloc hbel.size _⟩
          by_cases e : j = k
          · subst e
            exact HE.out (by rw [hw, byt_mkB])
          · exact HNO.out j (by omega) hw
        case measure => simp only [intOf]; omega
    · obtain rfl : k = 6 := by omega
      have HW0 := Lib.hid (wordA_none HNO.out)
      have hT1 := (HT.out.below hbel).utf
      go_wp2_with fail
      refine (Tryz.utf8_DecodeRuneInString s wr hT1).mono ?_
      rintro e w1 ⟨rfl, hb1⟩
      have hbel1 := hbel.trans (hb1.mono hbel.size)
      -- behind the words
      rcases Nat.eq_zero_or_pos s.size with h0 | h0
      · have hd0 : Lib.decodeGo s = (65533, 0) := by unfold Lib.decodeGo; rw [if_pos h0]
        rw [hd0]
        have hz : ((s.size : Nat) : Int) = 0 := by omega
        have hq : ((0 : Int) == ((s.size : Nat) : Int)) = true := by rw [hz]; rfl
        go_wp2_with fail
        refine (broken_any 65533 0 _ (by omega) (by omega)).mono ?_
        rintro e w2 ⟨rfl, rfl⟩
        rw [show badB (65533, 0) = true from rfl]
        go_wp2_with fail
        refine (Tryz.strings_CutPrefix s ⟨#[120]⟩ _).mono ?_
        rintro e w2 ⟨rfl, rfl⟩
        rw [pfx_no (fun h => absurd h (by omega))]
        go_wp2_with fail
        refine bodyPost_ret (v := .tuple #[.int .i64 0, .bool false]) (by simp [results, Tryz.results121, go_sem]) rfl ?_
        exact ⟨by rw [namedA_not HW0.out (fun h => h.1 (List.eq_nil_of_length_eq_zero (by rw [byt_len]; exact h0))) (fun h => h.1 (List.eq_nil_of_length_eq_zero (by rw [byt_len]; exact h0)))]; rfl, hbel1⟩
      · rw [decodeGo_byt h0]
        obtain ⟨cp, hcp⟩ : ∃ cp, cp = (dc (byt s) 0).1 := ⟨_, rfl⟩
        obtain ⟨np, hnp⟩ : ∃ np, np = (dc (byt s) 0).2 := ⟨_, rfl⟩
        have hc1 := dc_char (byt s) 0
        have hn1 := (dc_size (byt s) 0).2
        rw [← hcp] at hc1
        rw [← hnp] at hn1
        rw [← hcp, ← hnp]
        have hpair : dc (byt s) 0 = (cp, np) := by rw [hcp, hnp]
        by_cases hsz : np = s.size
        · have hq : ((np : Int) == ((s.size : Nat) : Int)) = true := by rw [hsz]; simp
          cases hb : badB (cp, np) with
          | false =>
            have HA := Lib.hid (namedA_one HW0.out (by intro h; rw [← byt_len, h] at h0; simp at h0) (by rw [hpair]; exact hb) (by rw [hpair, byt_len]; exact hsz))
            rw [hpair] at HA
            clear hcp hnp hpair hsz
            go_wp2_with fail
            refine (broken_any cp np _ hc1 hn1).mono ?_
            rintro e w2 ⟨rfl, rfl⟩
            rw [hb]
            go_wp2_with fail
            refine bodyPost_ret (v := .tuple #[.int .i64 (cp : Nat), .bool true]) (by simp [results, Tryz.results121, go_sem]) rfl ?_
            exact ⟨by rw [HA.out]; rfl, hbel1⟩
          | true =>
            have HB : Hid (¬ (byt s ≠ [] ∧ badB (dc (byt s) 0) = false ∧ (dc (byt s) 0).2 = (byt s).length)) := Lib.hid (by rw [hpair, hb]; intro h; cases h.2.1)
            clear hcp hnp hpair hsz
            go_wp2_with fail
            refine (broken_any cp np _ hc1 hn1).mono ?_
            rintro e w2 ⟨rfl, rfl⟩
            rw [hb]
            go_wp2_with fail
            refine (Tryz.strings_CutPrefix s ⟨#[120]⟩ _).mono ?_
            rintro e w2 ⟨rfl, rfl⟩
            by_cases hx : limb (byt s) 0 = 120
            · obtain ⟨t, htl, htb⟩ := tail_of h0
              rw [pfx_yes h0 hx, ← htl]
              have HTB := Lib.hid (htb hx)
              have HXX := Lib.hid hx
              have H00 := Lib.hid h0
              clear htl htb hx h0
              go_wp2_with fail
              refine (numbered_any t _ (HT.out.below hbel1)).mono ?_
              rintro e w3 ⟨rfl, hb3⟩
              go_wp2_with fail
              refine bodyPost_ret (v := .tuple #[.int .i64 (((hexA (byt t)).getD 0 : Nat) : Int), .bool (hexA (byt t)).isSome]) (by simp [results, Tryz.results121, go_sem]) rfl ?_
              exact ⟨by rw [namedA_hex HW0.out HB.out (by intro h; have h0 := H00.out; rw [← byt_len, h] at h0; simp at h0) HXX.out, ← HTB.out], hbel1.trans (hb3.mono hbel1.size)⟩
            · rw [pfx_no (fun _ => hx)]
              go_wp2_with fail
              refine bodyPost_ret (v := .tuple #[.int .i64 0, .bool false]) (by simp [results, Tryz.results121, go_sem]) rfl ?_
              exact ⟨by rw [namedA_not HW0.out HB.out (fun h => hx h.2)]; rfl, hbel1⟩
        · have hq : ((np : Int) == ((s.size : Nat) : Int)) = false := by rw [beq_eq_false_iff_ne]; omega
          have HB : Hid (¬ (byt s ≠ [] ∧ badB (dc (byt s) 0) = false ∧ (dc (byt s) 0).2 = (byt s).length)) := Lib.hid (by rw [hpair, byt_len]; intro h; exact hsz h.2.2)
          clear hcp hnp hpair hsz
          go_wp2_with fail
          refine (Tryz.strings_CutPrefix s ⟨#[120]⟩ _).mono ?_
          rintro e w2 ⟨rfl, rfl⟩
          by_cases hx : limb (byt s) 0 = 120
          · obtain ⟨t, htl, htb⟩ := tail_of h0
            rw [pfx_yes h0 hx, ← htl]
            have HTB := Lib.hid (htb hx)
            have HXX := Lib.hid hx
            have H00 := Lib.hid h0
            clear htl htb hx h0
            go_wp2_with fail
            refine (numbered_any t _ (HT.out.below hbel1)).mono ?_
            rintro e w3 ⟨rfl, hb3⟩
            go_wp2_with fail
            refine bodyPost_ret (v := .tuple #[.int .i64 (((hexA (byt t)).getD 0 : Nat) : Int), .bool (hexA (byt t)).isSome]) (by simp [results, Tryz.results121, go_sem]) rfl ?_
            exact ⟨by rw [namedA_hex HW0.out HB.out (by intro h; have h0 := H00.out; rw [← byt_len, h] at h0; simp at h0) HXX.out, ← HTB.out], hbel1.trans (hb3.mono hbel1.size)⟩
          · rw [pfx_no (fun _ => hx)]
            go_wp2_with fail
            refine bodyPost_ret (v := .tuple #[.int .i64 0, .bool false]) (by simp [results, Tryz.results121, go_sem]) rfl ?_
            exact ⟨by rw [namedA_not HW0.out HB.out (fun h => hx h.2)]; rfl, hbel1⟩
end Go.Proofs.YtpahfhjgcflifaaGreatDoor
