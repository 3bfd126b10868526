/- utf.numbered -/
import Derived.Test.YtkocmjmmflphnaaGreatDoorNmMath
import Derived.Test.YtkocmjmmflphnaaGreatDoorShelf
import Derived.Test.YtkocmjmmflphnaaGreatDoorScal
namespace Go.Proofs.YtkocmjmmflphnaaGreatDoor
open Go.RowKit Go.Lib

theorem cell_keep {w w' : World} {a : Addr} {v : Value} (h : w.cell? a = some v) (hb : Below w.heap.size w w') : w'.cell? a = some v := by
  have hlt : a.block < w.heap.size := by
    apply Classical.byContradiction
    intro hn
    have : w.heap[a.block]? = none := Array.getElem?_eq_none (by omega)
    simp [World.cell?, this] at h
  rw [hb.cell (p := a) hlt]; exact h

/-- The tables that names need: of UTF-8, of cases, and a number of the library's. -/
structure Tabs2 (w : World) : Prop where
  utf : Tabs w
  case : CaseVar 5 Lib.caseA w
  max : ∃ m, w.cell? ⟨4, 0, none⟩ = some (.int .i64 m)

theorem Tabs2.below {w w' : World} (h : Tabs2 w) (hb : Below w.heap.size w w') : Tabs2 w' := by
  obtain ⟨h1, ⟨R, oR, cap, h2, h3⟩, m, h4⟩ := h
  refine ⟨h1.below hb (Nat.le_refl _), ⟨R, oR, cap, cell_keep h2 hb, fun i hi => ?_⟩, m, cell_keep h4 hb⟩
  obtain ⟨a, b, c, d, e⟩ := h3 i hi
  exact ⟨cell_keep a hb, cell_keep b hb, cell_keep c hb, cell_keep d hb, cell_keep e hb⟩

/-- What a call answers that tells a character, or that there is none. -/
def ChPost (o : Option Nat) (w : World) (e : Ending) (w' : World) : Prop := e = .returned (.tuple #[.int .i64 ((o.getD 0 : Nat) : Int), .bool o.isSome]) ∧ Below w.heap.size w w'

theorem toList_ne {s : ByteArray} (h : 1 ≤ s.size) : ¬ s.toList = [] ∧ s.toList.isEmpty = false := by
  have e : s.toList = s.data.toList := toList_data s
  rw [e]
  cases s with
  | mk d =>
    have h' : 1 ≤ d.toList.length := by rw [Array.length_toList]; exact h
    show ¬ d.toList = [] ∧ d.toList.isEmpty = false
    generalize d.toList = l at *
    cases l with
    | nil => exact absurd h' (by simp)
    | cons a l => exact ⟨by simp, rfl⟩
theorem ext_one {s : ByteArray} {k : Nat} (h : k < s.size) : (s.extract k (k + 1)).data.toList = [UInt8.ofNat (limb (byt s) k)] := by
  rw [byt_limb h]
  cases s with
  | mk d =>
    have h' : k < d.size := h
    rw [ByteArray.extract_mk]
    simp only [Array.toList_extract, List.extract_eq_take_drop]
    rw [show k + 1 - k = 1 by omega, List.drop_eq_getElem_cons (by rw [Array.length_toList]; exact h')]
    simp
/-- A digit's byte in small letters. -/
theorem lower_one (s : ByteArray) (k : Nat) (w : World) (hk : k < s.size) (ht : Tabs2 w) :
    Calls Tryz.prog 64 #[.string (s.extract k (k + 1))] w fun e w' => ∃ L : List UInt8, e = .returned (.string ⟨L.toArray⟩) ∧ Below w.heap.size w w' ∧
      (hexd (limb (byt s) k) = none → (Lib.cut hexS L).2.2 = false) ∧ (∀ d, hexd (limb (byt s) k) = some d → (Lib.cut hexS L).2.2 = true ∧ (Lib.cut hexS L).1.length = d) := by
  have he := ext_one hk
  have hb := byt_by s k
  have hsz : (s.extract k (k + 1)).size = 1 := by
    have : (s.extract k (k + 1)).data.toList.length = 1 := by rw [he]; rfl
    rw [Array.length_toList] at this
    exact this
  rcases Nat.lt_or_ge (limb (byt s) k) 128 with h | h
  · refine (Tryz.strings_ToLower_ascii (s.extract k (k + 1)) w (by omega) (fun j b hj => ?_)).mono ?_
    · rw [he] at hj
      rcases j with _ | j
      · simp at hj; subst hj; rw [UInt8.toNat_ofNat_of_lt' hb]; exact h
      · simp at hj
    · rintro e w' ⟨rfl, hb'⟩
      rw [he]
      have hc := cut_low ⟨limb (byt s) k, h⟩
      simp only at hc
      refine ⟨_, rfl, hb', fun hn => ?_, fun d hd => ?_⟩
      · rw [hn] at hc
        unfold cutLen at hc
        split at hc
        · cases hc
        · rename_i h2; simpa using h2
      · rw [hd] at hc
        unfold cutLen at hc
        split at hc
        · rename_i h2
          exact ⟨h2, by injection hc⟩
        · cases hc
  · refine (Tryz.strings_ToLower_beyond (s.extract k (k + 1)) w (by omega) ⟨0, UInt8.ofNat (limb (byt s) k), by rw [he]; rfl, by rw [UInt8.toNat_ofNat_of_lt' hb]; exact h⟩ ht.case ht.utf).mono ?_
    rintro e w' ⟨rfl, hb'⟩
    rw [he]
    have hc := cut_high ⟨limb (byt s) k, hb⟩ h
    refine ⟨_, rfl, hb', fun _ => hc, fun d hd => ?_⟩
    rw [hexd_high h] at hd
    cases hd

set_option maxRecDepth 100000 in
set_option maxHeartbeats 2000000 in
theorem numbered_any (s : ByteArray) (w : World) (ht : Tabs2 w) :
    Calls Tryz.prog 56 #[.string s] w (ChPost (hexA (byt s)) w) := by
  have HT := Lib.hid ht; clear ht
  rcases (by omega : s.size = 0 ∨ 6 < s.size ∨ (1 ≤ s.size ∧ s.size ≤ 6)) with h0 | h6 | ⟨h1, h6⟩
  · have hn := hexA_out (ds := byt s) (.inl (by rw [byt_len]; omega))
    have he : s = ⟨#[]⟩ := by
      cases s with
      | mk d => congr 1; exact Array.eq_empty_of_size_eq_zero h0
    subst he
    go_enter Tryz.func56, Tryz.ntmps56
    go_wp2_with fail
    refine bodyPost_ret (v := .tuple #[.int .i64 0, .bool false]) (by simp [results, Tryz.results56, go_sem]) rfl ?_
    exact ⟨by rw [hn]; rfl, Below.refl _ _⟩
  · have hn := hexA_out (ds := byt s) (.inr (by rw [byt_len]; omega))
    obtain ⟨e1, e2⟩ := toList_ne (s := s) (by omega)
    go_enter Tryz.func56, Tryz.ntmps56
    go_wp2_with fail
    refine bodyPost_ret (v := .tuple #[.int .i64 0, .bool false]) (by simp [results, Tryz.results56, go_sem]) rfl ?_
    exact ⟨by rw [hn]; rfl, Below.refl _ _⟩
  · obtain ⟨e1, e2⟩ := toList_ne (s := s) h1
    have hb63 : (s.size : Int) ≤ 6 := by omega
    go_enter Tryz.func56, Tryz.ntmps56
    go_wp2_with fail
    go_loopw [4, 18] (fun c i wr => ∃ k cv : Nat, k ≤ s.size ∧ c = .int .i64 (cv : Nat) ∧ i = .int .i64 (k : Nat) ∧ hexV (byt s) 0 = hexV ((byt s).drop k) cv ∧ cv < 16 ^ k ∧ Below w.heap.size w wr) (fun _ i _ => s.size - (intOf i).toNat)
    case atStart => exact ⟨0, 0, by omega, rfl, rfl, rfl, by simp, Below.refl _ _⟩
    case round =>
      obtain ⟨k, cv, hk, rfl, rfl, hinv, hcv, hbel⟩ := hrel
      have hp : 16 ^ k ≤ 16777216 := Nat.le_trans (Nat.pow_le_pow_right (by omega) (show k ≤ 6 by omega)) (by decide)
      rcases Nat.lt_or_ge k s.size with hlt | hge
      · have HI := Lib.hid hinv; clear hinv
        go_wp2_with fail
        refine (lower_one s k wr hlt (HT.out.below hbel)).mono ?_
        rintro e w1 ⟨T, rfl, hb1, hno, hyes⟩
        have hbel1 := hbel.trans (hb1.mono hbel.size)
        have HNO := Lib.hid hno
        have HYES := Lib.hid hyes
        clear hno hyes hb1
        obtain ⟨m, hm⟩ := (HT.out.below hbel1).max
        go_wp2_with fail
        refine (Tryz.strings_Cut ⟨#[48, 49, 50, 51, 52, 53, 54, 55, 56, 57, 97, 98, 99, 100, 101, 102]⟩ ⟨T.toArray⟩ m w1 (by decide) hm).mono ?_
        rintro e w2 ⟨rfl, q, rfl⟩
        obtain ⟨cb, hcb⟩ : ∃ cb, cb = (cut hexS T).2.2 := ⟨_, rfl⟩
        obtain ⟨cl, hcl⟩ : ∃ cl, cl = (cut hexS T).1 := ⟨_, rfl⟩
        have hc1 : (cut (ByteArray.mk #[48, 49, 50, 51, 52, 53, 54, 55, 56, 57, 97, 98, 99, 100, 101, 102]).data.toList (ByteArray.mk T.toArray).data.toList) = cut hexS T := by simp [hexS]
        rw [hc1, ← hcb, ← hcl]
        cases hd : hexd (limb (byt s) k) with
        | none =>
          have hf := HNO.out hd
          rw [← hcb] at hf
          subst hf
          have HA := Lib.hid (hexA_none (HI.out.trans (hexV_none (by rw [byt_len]; exact hlt) hd)))
          clear hc1 hcb hcl hd
          go_wp2_with fail
          refine bodyPost_ret (v := .tuple #[.int .i64 0, .bool false]) (by simp [results, Tryz.results56, go_sem]) rfl ?_
          exact ⟨by rw [HA.out]; rfl, below_drewN hbel1 _⟩
        | some d =>
          obtain ⟨hf, hl⟩ := HYES.out d hd
          rw [← hcb] at hf
          rw [← hcl] at hl
          subst hf
          have hd16 := hexd_lt hd
          have hsz : (ByteArray.mk cl.toArray).size = d := by rw [← hl]; simp [ByteArray.size]
          have HN := Lib.hid (HI.out.trans (hexV_step (by rw [byt_len]; exact hlt) hd))
          clear hc1 hcb hcl hd hl
          go_wp2_with fail
          go_roundw
          case rel => exact ⟨k + 1, cv * 16 + d, by omega, by go_num, by go_num, HN.out, by rw [Nat.pow_succ]; omega, below_drewN hbel1 _⟩
          case measure => simp only [intOf]; omega
      · obtain rfl : k = s.size := by omega
        have hv : hexV (byt s) 0 = some cv := hinv.trans (hexV_end (by rw [byt_len]; exact Nat.le_refl _))
        have HA := Lib.hid (hexA_some (by rw [byt_len]; omega) hv)
        clear hinv hv
        go_wp2_with fail
        refine (scalar_any (cv : Int) _).mono ?_
        rintro e w1 ⟨rfl, rfl⟩
        cases hsc : scB (cv : Int) with
        | true =>
          rw [hsc] at HA
          go_wp2_with fail
          refine bodyPost_ret (v := .tuple #[.int .i64 (cv : Nat), .bool true]) (by simp [results, Tryz.results56, go_sem]) rfl ?_
          exact ⟨by rw [HA.out]; rfl, hbel⟩
        | false =>
          rw [hsc] at HA
          go_wp2_with fail
          refine bodyPost_ret (v := .tuple #[.int .i64 0, .bool false]) (by simp [results, Tryz.results56, go_sem]) rfl ?_
          exact ⟨by rw [HA.out]; rfl, hbel⟩
end Go.Proofs.YtkocmjmmflphnaaGreatDoor
