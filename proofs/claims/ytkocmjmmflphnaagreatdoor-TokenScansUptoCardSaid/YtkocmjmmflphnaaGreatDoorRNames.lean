/- ref.Hex, ref.hexText, ref.Name, ref.Named | ref.Named -/
import Derived.Test.YtkocmjmmflphnaaGreatDoorNamed
import Derived.Test.YtkocmjmmflphnaaGreatDoorUChars
import Derived.Test.YtkocmjmmflphnaaGreatDoorConv
import Derived.Laws.IdiomStrings
namespace Go.Proofs.YtkocmjmmflphnaaGreatDoor
open Go.RowKit Go.Lib

/-- What Hex answers. -/
def HexPost (bs : List Nat) (w : World) (e : Ending) (w' : World) : Prop := e = .returned (.int .i64 (match hexA bs with | some c => (c : Int) | none => -1)) ∧ w = w'

set_option maxRecDepth 100000 in
set_option maxHeartbeats 2000000 in
theorem rhex_any (s : ByteArray) (w : World) : Calls Tryz.prog 30 #[.string s] w (HexPost (byt s) w) := by
  rcases (by omega : s.size < 1 ∨ 6 < s.size ∨ (1 ≤ s.size ∧ s.size ≤ 6)) with h0 | h6 | ⟨h1, h6⟩
  · have hn := hexA_out (ds := byt s) (.inl (by rw [byt_len]; omega))
    go_enter Tryz.func30, Tryz.ntmps30
    go_wp2_with fail
    go_ret
    exact ⟨by rw [hn]; rfl, rfl⟩
  · have hn := hexA_out (ds := byt s) (.inr (by rw [byt_len]; omega))
    go_enter Tryz.func30, Tryz.ntmps30
    go_wp2_with fail
    go_ret
    exact ⟨by rw [hn]; rfl, rfl⟩
  · go_enter Tryz.func30, Tryz.ntmps30
    go_wp2_with fail
    go_loopw [3, 4] (fun c i wr => ∃ k cv : Nat, k ≤ s.size ∧ c = .int .i64 (cv : Nat) ∧ i = .int .i64 (k : Nat) ∧ hexV (byt s) 0 = hexV ((byt s).drop k) cv ∧ cv < 16 ^ k ∧ w = wr) (fun _ i _ => s.size - (intOf i).toNat)
    case atStart => exact ⟨0, 0, by omega, rfl, rfl, rfl, by simp, rfl⟩
    case round =>
      obtain ⟨k, cv, hk, rfl, rfl, hinv, hcv, rfl⟩ := hrel
      have hp : 16 ^ k ≤ 16777216 := Nat.le_trans (Nat.pow_le_pow_right (by omega) (show k ≤ 6 by omega)) (by decide)
      rcases Nat.lt_or_ge k s.size with hlt | hge
      · have HI := Lib.hid hinv; clear hinv
        obtain ⟨b, hb⟩ : ∃ b, b = limb (byt s) k := ⟨_, rfl⟩
        have HB := Lib.hid hb
        have hb8 : b < 256 := by rw [hb]; exact byt_by s k
        have e64 : wrap64 (((s[k]'hlt).toNat : Nat) : Int) = (b : Int) := by
          rw [hb, byt_limb hlt]
          have : ((s.data[k]'hlt).toNat : Int) < 256 := by have := (s.data[k]'hlt).toNat_lt; omega
          exact IntWalk.wrap64_in _ ⟨by show (_ : Int) ≤ ((s.data[k]'hlt).toNat : Int); omega, by show ((s.data[k]'hlt).toNat : Int) ≤ _; omega⟩
        clear hb
        rcases (by omega : b < 48 ∨ (48 ≤ b ∧ b ≤ 57) ∨ (57 < b ∧ b < 65) ∨ (65 ≤ b ∧ b ≤ 70) ∨ (70 < b ∧ b < 97) ∨ (97 ≤ b ∧ b ≤ 102) ∨ 102 < b) with h | h | h | h | h | h | h
        · have hd : hexd b = none := by unfold hexd; rw [if_neg (by omega), if_neg (by omega), if_neg (by omega)]
          have HA := Lib.hid (hexA_none (HI.out.trans (hexV_none (by rw [byt_len]; exact hlt) (by rw [← HB.out]; exact hd))))
          have f1 : (b : Int) < 48 := by omega
          have f2 : (b : Int) < 65 := by omega
          have f3 : (b : Int) < 97 := by omega
          clear hd
          go_wp2_with fail
          go_ret
          exact ⟨by rw [HA.out]; rfl, rfl⟩
        · have hd : hexd b = some (b - 48) := by unfold hexd; rw [if_pos h]
          have hd16 := hexd_lt hd
          have HN := Lib.hid (HI.out.trans (hexV_step (by rw [byt_len]; exact hlt) (by rw [← HB.out]; exact hd)))
          have f1 : (48 : Int) ≤ (b : Int) := by omega
          have f2 : (b : Int) ≤ 57 := by omega
          clear hd
          go_wp2_with fail
          go_roundw
          case rel => exact ⟨k + 1, cv * 16 + (b - 48), by omega, by go_num, by go_num, HN.out, by rw [Nat.pow_succ]; omega, trivial⟩
          case measure => simp only [intOf]; omega
        · have hd : hexd b = none := by unfold hexd; rw [if_neg (by omega), if_neg (by omega), if_neg (by omega)]
          have HA := Lib.hid (hexA_none (HI.out.trans (hexV_none (by rw [byt_len]; exact hlt) (by rw [← HB.out]; exact hd))))
          have f1 : (57 : Int) < (b : Int) := by omega
          have f2 : (b : Int) < 65 := by omega
          have f3 : (b : Int) < 97 := by omega
          have f4 : (48 : Int) ≤ (b : Int) := by omega
          clear hd
          go_wp2_with fail
          go_ret
          exact ⟨by rw [HA.out]; rfl, rfl⟩
        · have hd : hexd b = some (b - 55) := by unfold hexd; rw [if_neg (by omega), if_neg (by omega), if_pos h]
          have hd16 := hexd_lt hd
          have HN := Lib.hid (HI.out.trans (hexV_step (by rw [byt_len]; exact hlt) (by rw [← HB.out]; exact hd)))
          have f1 : (65 : Int) ≤ (b : Int) := by omega
          have f2 : (b : Int) ≤ 70 := by omega
          have f3 : (57 : Int) < (b : Int) := by omega
          have f4 : (48 : Int) ≤ (b : Int) := by omega
          have f5 : (b : Int) < 97 := by omega
          clear hd
          go_wp2_with fail
          go_roundw
          case rel => exact ⟨k + 1, cv * 16 + (b - 55), by omega, by go_num, by go_num, HN.out, by rw [Nat.pow_succ]; omega, trivial⟩
          case measure => simp only [intOf]; omega
        · have hd : hexd b = none := by unfold hexd; rw [if_neg (by omega), if_neg (by omega), if_neg (by omega)]
          have HA := Lib.hid (hexA_none (HI.out.trans (hexV_none (by rw [byt_len]; exact hlt) (by rw [← HB.out]; exact hd))))
          have f1 : (70 : Int) < (b : Int) := by omega
          have f2 : (b : Int) < 97 := by omega
          have f3 : (57 : Int) < (b : Int) := by omega
          have f4 : (48 : Int) ≤ (b : Int) := by omega
          have f5 : (65 : Int) ≤ (b : Int) := by omega
          clear hd
          go_wp2_with fail
          go_ret
          exact ⟨by rw [HA.out]; rfl, rfl⟩
        · have hd : hexd b = some (b - 87) := by unfold hexd; rw [if_neg (by omega), if_pos h]
          have hd16 := hexd_lt hd
          have HN := Lib.hid (HI.out.trans (hexV_step (by rw [byt_len]; exact hlt) (by rw [← HB.out]; exact hd)))
          have f1 : (97 : Int) ≤ (b : Int) := by omega
          have f2 : (b : Int) ≤ 102 := by omega
          have f3 : (57 : Int) < (b : Int) := by omega
          have f4 : (48 : Int) ≤ (b : Int) := by omega
          clear hd
          go_wp2_with fail
          go_roundw
          case rel => exact ⟨k + 1, cv * 16 + (b - 87), by omega, by go_num, by go_num, HN.out, by rw [Nat.pow_succ]; omega, trivial⟩
          case measure => simp only [intOf]; omega
        · have hd : hexd b = none := by unfold hexd; rw [if_neg (by omega), if_neg (by omega), if_neg (by omega)]
          have HA := Lib.hid (hexA_none (HI.out.trans (hexV_none (by rw [byt_len]; exact hlt) (by rw [← HB.out]; exact hd))))
          have f1 : (102 : Int) < (b : Int) := by omega
          have f2 : (97 : Int) ≤ (b : Int) := by omega
          have f3 : (57 : Int) < (b : Int) := by omega
          have f4 : (48 : Int) ≤ (b : Int) := by omega
          have f5 : (65 : Int) ≤ (b : Int) := by omega
          have f6 : (70 : Int) < (b : Int) := by omega
          clear hd
          go_wp2_with fail
          go_ret
          exact ⟨by rw [HA.out]; rfl, rfl⟩
      · obtain rfl : k = s.size := by omega
        have hv : hexV (byt s) 0 = some cv := hinv.trans (hexV_end (by rw [byt_len]; exact Nat.le_refl _))
        have HA := Lib.hid (hexA_some (by rw [byt_len]; omega) hv)
        clear hinv hv
        go_wp2_with fail
        refine (rscalar_any (cv : Int) _).mono ?_
        rintro e w1 ⟨rfl, rfl⟩
        cases hsc : scB (cv : Int) with
        | true =>
          rw [hsc] at HA
          clear hsc
          go_wp2_with fail
          go_ret
          exact ⟨by rw [HA.out]; rfl, rfl⟩
        | false =>
          rw [hsc] at HA
          clear hsc
          go_wp2_with fail
          go_ret
          exact ⟨by rw [HA.out]; rfl, rfl⟩
end Go.Proofs.YtkocmjmmflphnaaGreatDoor
namespace Go.Proofs.YtkocmjmmflphnaaGreatDoor
open Go.RowKit Go.Lib

theorem not_word {s : ByteArray} {k : Nat} (h : (s.toList == (mkB (wName k)).toList) = false) : wName k ≠ byt s := by
  intro he
  exact str_ne h (by rw [he, byt_mkB])
theorem chars_one {bs : List Nat} (h0 : bs ≠ []) (hb : badB (dc bs 0) = false) (hl : (dc bs 0).2 = bs.length) : chA bs = ([(dc bs 0).1], -1) := by
  refine chA_ok ?_
  rw [chars_step (List.length_pos_iff.2 h0) hb, Nat.zero_add, chars_end (by omega)]
theorem chA_one {bs : List Nat} (h : (chA bs).2 < 0) (hl : (chA bs).1.length = 1) : bs ≠ [] ∧ badB (dc bs 0) = false ∧ (dc bs 0).2 = bs.length := by
  have h0 : 0 < bs.length := by
    apply Classical.byContradiction
    intro hn
    have : chA bs = ([], -1) := chA_ok (chars_end (by omega))
    rw [this] at hl
    simp at hl
  cases hb : badB (dc bs 0) with
  | true =>
    have hc := chars_bad h0 hb
    have : chA bs = ([], ((0 : Nat) : Int)) := chA_bad (by rw [hc])
    rw [this] at h
    simp at h
  | false =>
    refine ⟨List.length_pos_iff.1 h0, rfl, ?_⟩
    have hc := chars_step h0 hb
    rw [Nat.zero_add] at hc
    have hin := dc_in h0
    rw [Nat.zero_add] at hin
    apply Classical.byContradiction
    intro hne
    have hlt : (dc bs 0).2 < bs.length := by omega
    cases hb2 : badB (dc bs (dc bs 0).2) with
    | true =>
      have h2 := chars_bad hlt hb2
      have : chA bs = ([], (((dc bs 0).2 : Nat) : Int)) := chA_bad (by rw [hc, h2])
      rw [this] at h
      simp at h
      omega
    | false =>
      have h2 := chars_step hlt hb2
      cases h3 : (chars bs 0).2 with
      | some k =>
        have := chA_bad h3
        rw [this] at h
        simp at h
        omega
      | none =>
        have h4 : chars bs 0 = ((chars bs 0).1, none) := by rw [← h3]
        rw [chA_ok h4, hc, h2] at hl
        simp at hl
theorem sl_cells' {k : IntKind} {w : World} {ao : Option Addr} {cap : Nat} {xs : List Nat} (h : Sl k w (.slice ao xs.length cap) xs) {j : Nat} (hj : j < xs.length) : ∃ b off, ao = some ⟨b, off, none⟩ ∧ b < w.heap.size ∧ w.cell? ⟨b, off + j, none⟩ = some (.int k ((limb xs j : Nat) : Int)) := by
  obtain ⟨_, ao', cap', hv, _, h⟩ := h
  simp only [Value.slice.injEq, true_and] at hv
  obtain ⟨rfl, rfl⟩ := hv
  rcases h with ⟨h, _⟩ | ⟨b, off, h1, h2, h3⟩
  · rw [h] at hj; simp at hj
  · exact ⟨b, off, h1, h2, h3 j hj⟩
theorem ext_tail {s : ByteArray} : byt (s.extract 1 s.size) = (byt s).drop 1 := by
  unfold byt
  cases s with
  | mk d =>
    rw [ByteArray.extract_mk]
    simp only [Array.toList_extract, List.extract_eq_take_drop]
    rw [← List.map_drop]
    congr 1
    apply List.take_of_length_le
    simp [ByteArray.size]
theorem row_sl {w : World} {s : ByteArray} {cap : Nat} {e : TypeId} {fr : Nat × Nat} {W : World} (hW : W.heap[w.heap.size]? = some (.cells (bytesRow s cap) e fr)) (hc : s.size ≤ cap) (hs : s.size ≤ 1000000000000) :
    Sl .u8 W (.slice (some ⟨w.heap.size, 0, none⟩) s.size cap) (byt s) := by
  refine ⟨by rw [byt_len]; unfold maxLen; omega, some ⟨w.heap.size, 0, none⟩, cap, by rw [byt_len], by rw [byt_len]; exact hc, .inr ⟨w.heap.size, 0, rfl, (Array.getElem?_eq_some_iff.1 hW).1, fun j hj => ?_⟩⟩
  rw [byt_len] at hj
  rw [cell_of_row W w.heap.size (0 + j) _ e fr hW, Nat.zero_add, bytesRow_at s cap j hj, byt_limb hj]
theorem lit_eq {s : ByteArray} {l : List UInt8} (h : (s.toList == l) = true) : byt s = l.map UInt8.toNat := by
  have h1 : s.toList = l := by simpa using h
  have ha : s.toList = s.data.toList := toList_data s
  unfold byt
  rw [← ha, h1]
theorem lit_ne {s : ByteArray} {l : List UInt8} {k : Nat} (h : (s.toList == l) = false) (hk : wName k = l.map UInt8.toNat) : wName k ≠ byt s := by
  intro he
  have ha : s.toList = s.data.toList := toList_data s
  have : s.toList = l := by
    rw [ha]
    have e : (s.data.toList.map UInt8.toNat) = l.map UInt8.toNat := by rw [← hk, he]; rfl
    exact List.map_inj_right (fun a b h => UInt8.toNat_inj.1 h) |>.1 e
  rw [this] at h
  simp at h

set_option maxRecDepth 100000 in
set_option maxHeartbeats 2000000 in
theorem rnamed_any (s : ByteArray) (w : World) (hs : s.size ≤ 1000000000000) : Calls Tryz.prog 21 #[.string s] w (ChPost (namedA (byt s)) w) := by
  cases n0 : (s.toList == [115, 112, 97, 99, 101]) with
  | true =>
    have HA := Lib.hid (namedA_word (bs := byt s) (c := 32) (by rw [lit_eq n0]; decide))
    go_enter Tryz.func21, Tryz.ntmps21
    go_wp2_with fail
    refine bodyPost_ret (v := .tuple #[.int .i64 32, .bool true]) (by simp [results, Tryz.results21, go_sem]) rfl ?_
    exact ⟨by rw [HA.out]; rfl, Below.refl _ _⟩
  | false =>
    cases n1 : (s.toList == [110, 101, 119, 108, 105, 110, 101]) with
    | true =>
      have HA := Lib.hid (namedA_word (bs := byt s) (c := 10) (by rw [lit_eq n1]; decide))
      go_enter Tryz.func21, Tryz.ntmps21
      go_wp2_with fail
      refine bodyPost_ret (v := .tuple #[.int .i64 10, .bool true]) (by simp [results, Tryz.results21, go_sem]) rfl ?_
      exact ⟨by rw [HA.out]; rfl, Below.refl _ _⟩
    | false =>
      cases n2 : (s.toList == [116, 97, 98]) with
      | true =>
        have HA := Lib.hid (namedA_word (bs := byt s) (c := 9) (by rw [lit_eq n2]; decide))
        go_enter Tryz.func21, Tryz.ntmps21
        go_wp2_with fail
        refine bodyPost_ret (v := .tuple #[.int .i64 9, .bool true]) (by simp [results, Tryz.results21, go_sem]) rfl ?_
        exact ⟨by rw [HA.out]; rfl, Below.refl _ _⟩
      | false =>
        cases n3 : (s.toList == [114, 101, 116, 117, 114, 110]) with
        | true =>
          have HA := Lib.hid (namedA_word (bs := byt s) (c := 13) (by rw [lit_eq n3]; decide))
          go_enter Tryz.func21, Tryz.ntmps21
          go_wp2_with fail
          refine bodyPost_ret (v := .tuple #[.int .i64 13, .bool true]) (by simp [results, Tryz.results21, go_sem]) rfl ?_
          exact ⟨by rw [HA.out]; rfl, Below.refl _ _⟩
        | false =>
          cases n4 : (s.toList == [110, 117, 108, 108]) with
          | true =>
            have HA := Lib.hid (namedA_word (bs := byt s) (c := 0) (by rw [lit_eq n4]; decide))
            go_enter Tryz.func21, Tryz.ntmps21
            go_wp2_with fail
            refine bodyPost_ret (v := .tuple #[.int .i64 0, .bool true]) (by simp [results, Tryz.results21, go_sem]) rfl ?_
            exact ⟨by rw [HA.out]; rfl, Below.refl _ _⟩
          | false =>
            cases n5 : (s.toList == [100, 101, 108, 101, 116, 101]) with
            | true =>
              have HA := Lib.hid (namedA_word (bs := byt s) (c := 127) (by rw [lit_eq n5]; decide))
              go_enter Tryz.func21, Tryz.ntmps21
              go_wp2_with fail
              refine bodyPost_ret (v := .tuple #[.int .i64 127, .bool true]) (by simp [results, Tryz.results21, go_sem]) rfl ?_
              exact ⟨by rw [HA.out]; rfl, Below.refl _ _⟩
            | false =>
              have HNO : Hid (∀ k, k < 6 → wName k ≠ byt s) := Lib.hid fun k hk => by
                have : k = 0 ∨ k = 1 ∨ k = 2 ∨ k = 3 ∨ k = 4 ∨ k = 5 := by omega
                rcases this with rfl | rfl | rfl | rfl | rfl | rfl
                · exact lit_ne n0 rfl
                · exact lit_ne n1 rfl
                · exact lit_ne n2 rfl
                · exact lit_ne n3 rfl
                · exact lit_ne n4 rfl
                · exact lit_ne n5 rfl
              have HW0 := Lib.hid (wordA_none HNO.out)
              have HC := Lib.hid (fun w => run_bytes_of_string (P := Tryz.prog) w 9 36 5 s Tryz.underlying9 Tryz.underlying36 Tryz.underlying5)
              go_enter Tryz.func21, Tryz.ntmps21
              have hconv := HC.out w
              have hcap := grownCap_ge w s.size 0 5
              go_wp2_with fail
              generalize hG : grownCap w s.size 0 5 = cap at *
              have hsl := row_sl (w := w) (e := 5) (W := (w.alloc (Obj.cells (bytesRow s cap) 5 ((bytesRow s cap).size, (bytesRow s cap).size + 1))).drew) (heap_alloc_new w _) hcap hs
              refine (rchars_any _ (byt s) _ hsl (byt_by s) (by rw [byt_len]; exact hs)).mono ?_
              rintro e w1 ⟨v, rfl, hv, hb⟩
              have hbel : Below w.heap.size w w1 := ((below1 w _).drew).trans (hb.mono (by simp))
              obtain ⟨cs, hcs⟩ : ∃ cs, cs = (chA (byt s)).1 := ⟨_, rfl⟩
              obtain ⟨z, hz⟩ : ∃ z, z = (chA (byt s)).2 := ⟨_, rfl⟩
              rw [← hcs] at hv
              rw [← hz]
              have HV := Lib.hid hv
              have HCS := Lib.hid hcs
              have HZ := Lib.hid hz
              obtain ⟨_, av, cv, rfl, _, _⟩ := hv
              clear hcs hz hsl hcap hG hb hconv
              by_cases h1 : z < 0 ∧ cs.length = 1
              · obtain ⟨g1, g2, g3⟩ := chA_one (by rw [← HZ.out]; exact h1.1) (by rw [← HCS.out]; exact h1.2)
                have hone := chars_one g1 g2 g3
                have hcs1 : cs = [(dc (byt s) 0).1] := by rw [HCS.out, hone]
                have HA := Lib.hid (namedA_one HW0.out g1 g2 g3)
                obtain ⟨b1, o1, rfl, _, hcell⟩ := sl_cells' HV.out (show 0 < cs.length by omega)
                have hcell2 : w1.cell? ⟨b1, o1, none⟩ = some (.int .i64 (((dc (byt s) 0).1 : Nat) : Int)) := by
                  rw [show o1 = o1 + 0 from rfl, hcell, hcs1]; rfl
                obtain ⟨hz0, hl1⟩ := h1
                have hl2 : ((cs.length : Int) == 1) = true := by rw [hl1]; rfl
                clear hcell hone g1 g2 g3 hcs1
                rw [hl1]
                generalize (dc (byt s) 0).1 = cc at *
                go_wp2_with fail
                refine bodyPost_ret (v := .tuple #[.int .i64 (cc : Nat), .bool true]) (by simp [results, Tryz.results21, go_sem]) rfl ?_
                exact ⟨by rw [HA.out]; rfl, hbel⟩
              · have HB : Hid (¬ (byt s ≠ [] ∧ badB (dc (byt s) 0) = false ∧ (dc (byt s) 0).2 = (byt s).length)) := Lib.hid (by
                  rintro ⟨g1, g2, g3⟩
                  have hone := chars_one g1 g2 g3
                  refine h1 ⟨by rw [HZ.out, hone]; simp, by rw [HCS.out, hone]; rfl⟩)
                have htest : (z < 0 ∧ ((cs.length : Int) == 1) = false) ∨ (0 ≤ z) := by
                  by_cases h : z < 0
                  · refine .inl ⟨h, ?_⟩
                    rw [beq_eq_false_iff_ne]
                    intro he
                    exact h1 ⟨h, by omega⟩
                  · exact .inr (by omega)
                clear h1
                have hcase : (s.size < 2 ∧ ¬ (byt s ≠ [] ∧ limb (byt s) 0 = 120)) ∨ (2 ≤ s.size ∧ limb (byt s) 0 = 120) ∨ (2 ≤ s.size ∧ ¬ limb (byt s) 0 = 120) := by
                  rcases Nat.lt_or_ge s.size 2 with h | h
                  · refine .inl ⟨h, fun ⟨g1, g2⟩ => HB.out ?_⟩
                    have hd := dc_one (bs := byt s) (i := 0) (by omega)
                    have hl := byt_len s
                    have hp := List.length_pos_iff.2 g1
                    refine ⟨g1, by rw [hd, g2]; rfl, by rw [hd]; show 1 = _; omega⟩
                  · by_cases h2 : limb (byt s) 0 = 120
                    · exact .inr (.inl ⟨h, h2⟩)
                    · exact .inr (.inr ⟨h, h2⟩)
                rcases hcase with ⟨hz2, hx⟩ | ⟨hz2, hx⟩ | ⟨hz2, hx⟩
                · have HA := Lib.hid (namedA_not HW0.out HB.out hx)
                  clear hx
                  rcases htest with ⟨t1, t2⟩ | t1
                  all_goals
                    go_wp2_with fail
                    refine bodyPost_ret (v := .tuple #[.int .i64 0, .bool false]) (by simp [results, Tryz.results21, go_sem]) rfl ?_
                    exact ⟨by rw [HA.out]; rfl, hbel⟩
                · have HA := Lib.hid (namedA_hex HW0.out HB.out (by intro h; have := byt_len s; rw [h] at this; simp at this; omega) hx)
                  have hb0 : (((s[0]'(by omega)).toNat : Nat) : Int) = 120 := by
                    rw [byt_limb (show 0 < s.size by omega)] at hx
                    exact congrArg Int.ofNat hx
                  have HT := Lib.hid (ext_tail (s := s))
                  clear hx
                  rcases htest with ⟨t1, t2⟩ | t1
                  all_goals
                    go_wp2_with fail
                    refine (rhex_any (s.extract 1 s.size) _).mono ?_
                    rintro e w2 ⟨rfl, rfl⟩
                    rw [HT.out]
                    cases hh : hexA ((byt s).drop 1) with
                    | none =>
                      rw [hh] at HA
                      go_wp2_with fail
                      refine bodyPost_ret (v := .tuple #[.int .i64 0, .bool false]) (by simp [results, Tryz.results21, go_sem]) rfl ?_
                      exact ⟨by rw [HA.out]; rfl, hbel⟩
                    | some c =>
                      rw [hh] at HA
                      have hc0 : (0 : Int) ≤ (c : Int) := by omega
                      go_wp2_with fail
                      refine bodyPost_ret (v := .tuple #[.int .i64 (c : Nat), .bool true]) (by simp [results, Tryz.results21, go_sem]) rfl ?_
                      exact ⟨by rw [HA.out]; rfl, hbel⟩
                · have HA := Lib.hid (namedA_not HW0.out HB.out (fun h => hx h.2))
                  have hb0 : ((((s[0]'(by omega)).toNat : Nat) : Int) == 120) = false := by
                    rw [byt_limb (show 0 < s.size by omega)] at hx
                    rw [beq_eq_false_iff_ne]
                    intro he
                    exact hx (Int.ofNat.inj he)
                  clear hx
                  rcases htest with ⟨t1, t2⟩ | t1
                  all_goals
                    go_wp2_with fail
                    refine bodyPost_ret (v := .tuple #[.int .i64 0, .bool false]) (by simp [results, Tryz.results21, go_sem]) rfl ?_
                    exact ⟨by rw [HA.out]; rfl, hbel⟩
end Go.Proofs.YtkocmjmmflphnaaGreatDoor
