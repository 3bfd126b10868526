/- num.trim -/
import Derived.Test.YtiekhjgfnmochaaDoorLook
namespace Go.Proofs.YtiekhjgfnmochaaDoor
open Go.RowKit

theorem Sl.take {k : IntKind} {w : World} {b off cap n : Nat} {xs : List Nat} (h : Sl k w (.slice (some ⟨b, off, none⟩) xs.length cap) xs) (hn : n ≤ xs.length) : Sl k w (.slice (some ⟨b, off, none⟩) n cap) (xs.take n) := by
  obtain ⟨hm, ao, c, hv, hc, h⟩ := h
  simp only [Value.slice.injEq, true_and] at hv
  obtain ⟨rfl, rfl⟩ := hv
  have e : (xs.take n).length = n := by simp; omega
  refine ⟨by omega, _, _, by rw [e], by omega, ?_⟩
  rcases h with ⟨rfl, hz⟩ | ⟨b', off', he, hb, hcell⟩
  · exact .inl ⟨by simp, hz⟩
  · refine .inr ⟨b', off', he, hb, fun j hj => ?_⟩
    rw [hcell j (by omega)]
    simp [limb, show j < n by omega]

/-- What trim leaves. -/
def TrimPost (v : Value) (xs : List Nat) (w : World) (e : Ending) (w' : World) : Prop :=
  ∃ v' n, e = .returned v' ∧ n ≤ xs.length ∧ (n = 0 ∨ limb xs (n - 1) ≠ 0) ∧ (∀ i, n ≤ i → limb xs i = 0) ∧ (∀ w2, Sl .u32 w2 v xs → Sl .u32 w2 v' (xs.take n)) ∧ w = w'

set_option maxRecDepth 100000 in
set_option maxHeartbeats 1000000 in
theorem trim_any (v : Value) (xs : List Nat) (w : World) (hs : Sl .u32 w v xs) (hx : ∀ i, limb xs i < 4294967296) :
    Calls Tryd.prog 66 #[v] w (TrimPost v xs w) := by
  obtain ⟨hm, ao, cap, rfl, hcap, h⟩ := hs
  unfold maxLen at hm
  have HX := Lib.hid hx; clear hx
  rcases h with ⟨rfl, _⟩ | ⟨b, off, rfl, hb, hcell⟩
  · go_enter Tryd.func66, Tryd.ntmps66
    go_wp2
    refine wp_loop_rounds 1 ?_
    rw [rounds_succ]
    go_wp2
    go_ret
    exact ⟨_, 0, rfl, by omega, .inl rfl, fun i _ => limb_out (by simp), fun _ h => h, rfl⟩
  · have HC := Lib.hid hcell; clear hcell
    go_enter Tryd.func66, Tryd.ntmps66
    go_wp2
    go_loop [3] (fun i => ∃ n : Nat, n ≤ xs.length ∧ i = .int .i64 n ∧ ∀ j, n ≤ j → limb xs j = 0) (fun i => (intOf i).toNat)
    case atStart => exact ⟨xs.length, Nat.le_refl _, rfl, fun j hj => limb_out hj⟩
    case round =>
      obtain ⟨n, hn, rfl, hz⟩ := hrel
      have HZ := Lib.hid hz; clear hz
      rcases n with _ | m
      · go_wp2
        go_ret
        exact ⟨_, 0, rfl, by omega, .inl rfl, HZ.out, fun _ h => h.take (by omega), rfl⟩
      · have hcm := HC.out m (by omega)
        have hxm := HX.out m
        rcases Nat.eq_zero_or_pos (limb xs m) with h0 | hp
        · have h1 : limb xs m ≤ 0 := by omega
          have H0 := Lib.hid h0; clear h0
          go_wp2
          go_round
          case rel => exact ⟨m, by omega, by first | rfl | go_num, fun j hj => by
            by_cases e : j = m
            · subst e; exact H0.out
            · exact HZ.out j (by omega)⟩
          case measure => simp only [intOf]; omega
        · go_wp2
          go_ret
          exact ⟨_, m + 1, rfl, by omega, .inr (by rw [Nat.add_sub_cancel]; omega), HZ.out, fun _ h => h.take (by omega), rfl⟩
end Go.Proofs.YtiekhjgfnmochaaDoor
