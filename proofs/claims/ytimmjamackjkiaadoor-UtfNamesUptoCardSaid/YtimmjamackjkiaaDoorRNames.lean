/- ref.Hex, ref.hexText, ref.Name, ref.Named -/
import Derived.Test.YtimmjamackjkiaaDoorNamed
import Derived.Test.YtimmjamackjkiaaDoorUChars
namespace Go.Proofs.YtimmjamackjkiaaDoor
open Go.RowKit Go.Lib

/-- What Hex answers. -/
def HexPost (bs : List Nat) (w : World) (e : Ending) (w' : World) : Prop := e = .returned (.int .i64 (match hexA bs with | some c => (c : Int) | none => -1)) ∧ w = w'

set_option maxRecDepth 100000 in
set_option maxHeartbeats 2000000 in
theorem rhex_any (s : ByteArray) (w : World) : Calls Tryd.prog 19 #[.string s] w (HexPost (byt s) w) := by
  rcases (by omega : s.size < 1 ∨ 6 < s.size ∨ (1 ≤ s.size ∧ s.size ≤ 6)) with h0 | h6 | ⟨h1, h6⟩
  · have hn := hexA_out (ds := byt s) (.inl (by rw [byt_len]; omega))
    go_enter Tryd.func19, Tryd.ntmps19
    go_wp2_with fail
    go_ret
    exact ⟨by rw [hn]; rfl, rfl⟩
  · have hn := hexA_out (ds := byt s) (.inr (by rw [byt_len]; omega))
    go_enter Tryd.func19, Tryd.ntmps19
    go_wp2_with fail
    go_ret
    exact ⟨by rw [hn]; rfl, rfl⟩
  · go_enter Tryd.func19, Tryd.ntmps19
    go_wp2_with fail
    go_loopw [3, 4] (fun c i wr => ∃ k cv : Nat, k ≤ s.size ∧ c = .int .i64 (cv : Nat) ∧ i = .int .i64 (k : Nat) ∧ hexV (byt s) 0 = hexV ((byt s).drop k) cv ∧ cv < 16 ^ k ∧ w = wr) (fun _ i _ => s.size - (intOf i).toNat)
    case atStart => exact ⟨0, 0, by omega, rfl, rfl, rfl, by simp, rfl⟩
    case round =>
      obtain ⟨k, cv, hk, rfl, rfl, hinv, hcv, rfl⟩ := hrel
      have hp : 16 ^ k ≤ 16777216 := Nat.le_trans (Nat.pow_le_pow_right (by omega) (show k ≤ 6 by omega)) (by decide)
      rcases Nat.lt_or_ge k s.size with hlt | hge
      · have HI := Lib.hid hinv; clear hinv
        obtain ⟨b, hb⟩ : ∃ b, b = limb (byt s) k := ⟨_, rfl⟩
        have HB := Lib.hid hb
        have hb8 : b < 256 := by rw [hb]; exact byt_by s k
        have e64 : wrap64 (((s[k]'hlt).toNat : Nat) : Int) = (b : Int) := by
          rw [hb, byt_limb hlt]
          have : ((s.data[k]'hlt).toNat : Int) < 256 := by have := (s.data[k]'hlt).toNat_lt; omega
          exact IntWalk.wrap64_in _ ⟨by show (_ : Int) ≤ ((s.data[k]'hlt).toNat : Int); omega, by show ((s.data[k]'hlt).toNat : Int) ≤ _; omega⟩
        clear hb
        rcases (by omega : b < 48 ∨ (48 ≤ b ∧ b ≤ 57) ∨ (57 < b ∧ b < 65) ∨ (65 ≤ b ∧ b ≤ 70) ∨ (70 < b ∧ b < 97) ∨ (97 ≤ b ∧ b ≤ 102) ∨ 102 < b) with h | h | h | h | h | h | h
        · have hd : hexd b = none := by unfold hexd; rw [if_neg (by omega), if_neg (by omega), if_neg (by omega)]
          have HA := Lib.hid (hexA_none (HI.out.trans (hexV_none (by rw [byt_len]; exact hlt) (by rw [← HB.out]; exact hd))))
          have f1 : (b : Int) < 48 := by omega
          have f2 : (b : Int) < 65 := by omega
          have f3 : (b : Int) < 97 := by omega
          clear hd
          go_wp2_with fail
          go_ret
          exact ⟨by rw [HA.out]; rfl, rfl⟩
        · have hd : hexd b = some (b - 48) := by unfold hexd; rw [if_pos h]
          have hd16 := hexd_lt hd
          have HN := Lib.hid (HI.out.trans (hexV_step (by rw [byt_len]; exact hlt) (by rw [← HB.out]; exact hd)))
          have f1 : (48 : Int) ≤ (b : Int) := by omega
          have f2 : (b : Int) ≤ 57 := by omega
          clear hd
          go_wp2_with fail
          go_roundw
          case rel => exact ⟨k + 1, cv * 16 + (b - 48), by omega, by go_num, by go_num, HN.out, by rw [Nat.pow_succ]; omega, trivial⟩
          case measure => simp only [intOf]; omega
        · have hd : hexd b = none := by unfold hexd; rw [if_neg (by omega), if_neg (by omega), if_neg (by omega)]
          have HA := Lib.hid (hexA_none (HI.out.trans (hexV_none (by rw [byt_len]; exact hlt) (by rw [← HB.out]; exact hd))))
          have f1 : (57 : Int) < (b : Int) := by omega
          have f2 : (b : Int) < 65 := by omega
          have f3 : (b : Int) < 97 := by omega
          have f4 : (48 : Int) ≤ (b : Int) := by omega
          clear hd
          go_wp2_with fail
          go_ret
          exact ⟨by rw [HA.out]; rfl, rfl⟩
        · have hd : hexd b = some (b - 55) := by unfold hexd; rw [if_neg (by omega), if_neg (by omega), if_pos h]
          have hd16 := hexd_lt hd
          have HN := Lib.hid (HI.out.trans (hexV_step (by rw [byt_len]; exact hlt) (by rw [← HB.out]; exact hd)))
          have f1 : (65 : Int) ≤ (b : Int) := by omega
          have f2 : (b : Int) ≤ 70 := by omega
          have f3 : (57 : Int) < (b : Int) := by omega
          have f4 : (48 : Int) ≤ (b : Int) := by omega
          have f5 : (b : Int) < 97 := by omega
          clear hd
          go_wp2_with fail
          go_roundw
          case rel => exact ⟨k + 1, cv * 16 + (b - 55), by omega, by go_num, by go_num, HN.out, by rw [Nat.pow_succ]; omega, trivial⟩
          case measure => simp only [intOf]; omega
        · have hd : hexd b = none := by unfold hexd; rw [if_neg (by omega), if_neg (by omega), if_neg (by omega)]
          have HA := Lib.hid (hexA_none (HI.out.trans (hexV_none (by rw [byt_len]; exact hlt) (by rw [← HB.out]; exact hd))))
          have f1 : (70 : Int) < (b : Int) := by omega
          have f2 : (b : Int) < 97 := by omega
          have f3 : (57 : Int) < (b : Int) := by omega
          have f4 : (48 : Int) ≤ (b : Int) := by omega
          have f5 : (65 : Int) ≤ (b : Int) := by omega
          clear hd
          go_wp2_with fail
          go_ret
          exact ⟨by rw [HA.out]; rfl, rfl⟩
        · have hd : hexd b = some (b - 87) := by unfold hexd; rw [if_neg (by omega), if_pos h]
          have hd16 := hexd_lt hd
          have HN := Lib.hid (HI.out.trans (hexV_step (by rw [byt_len]; exact hlt) (by rw [← HB.out]; exact hd)))
          have f1 : (97 : Int) ≤ (b : Int) := by omega
          have f2 : (b : Int) ≤ 102 := by omega
          have f3 : (57 : Int) < (b : Int) := by omega
          have f4 : (48 : Int) ≤ (b : Int) := by omega
          clear hd
          go_wp2_with fail
          go_roundw
          case rel => exact ⟨k + 1, cv * 16 + (b - 87), by omega, by go_num, by go_num, HN.out, by rw [Nat.pow_succ]; omega, trivial⟩
          case measure => simp only [intOf]; omega
        · have hd : hexd b = none := by unfold hexd; rw [if_neg (by omega), if_neg (by omega), if_neg (by omega)]
          have HA := Lib.hid (hexA_none (HI.out.trans (hexV_none (by rw [byt_len]; exact hlt) (by rw [← HB.out]; exact hd))))
          have f1 : (102 : Int) < (b : Int) := by omega
          have f2 : (97 : Int) ≤ (b : Int) := by omega
          have f3 : (57 : Int) < (b : Int) := by omega
          have f4 : (48 : Int) ≤ (b : Int) := by omega
          have f5 : (65 : Int) ≤ (b : Int) := by omega
          have f6 : (70 : Int) < (b : Int) := by omega
          clear hd
          go_wp2_with fail
          go_ret
          exact ⟨by rw [HA.out]; rfl, rfl⟩
      · obtain rfl : k = s.size := by omega
        have hv : hexV (byt s) 0 = some cv := hinv.trans (hexV_end (by rw [byt_len]; exact Nat.le_refl _))
        have HA := Lib.hid (hexA_some (by rw [byt_len]; omega) hv)
        clear hinv hv
        go_wp2_with fail
        refine (rscalar_any (cv : Int) _).mono ?_
        rintro e w1 ⟨rfl, rfl⟩
        cases hsc : scB (cv : Int) with
        | true =>
          rw [hsc] at HA
          clear hsc
          go_wp2_with fail
          go_ret
          exact ⟨by rw [HA.out]; rfl, rfl⟩
        | false =>
          rw [hsc] at HA
          clear hsc
          go_wp2_with fail
          go_ret
          exact ⟨by rw [HA.out]; rfl, rfl⟩
end Go.Proofs.YtimmjamackjkiaaDoor
