/- ref.hexText and ref.Name -/
import Derived.Test.YtpahfhjgcflifaaGreatDoorNumbered

namespace Go.Proofs.YtpahfhjgcflifaaGreatDoor
open Go.RowKit Go.Lib

def hexT (n : Nat) : List Nat := if n < 16 then [hexc n] else [hexc (n / 16), hexc (n % 16)]
set_option maxRecDepth 100000 in
set_option maxHeartbeats 4000000 in
theorem hext_low (n : Nat) (w : World) (hn : n < 16) : Calls Tryz.prog 61 #[.int .i64 (n : Int)] w fun e w' => e = .returned (.string (mkB (hexT n))) ∧ w = w' := by
  have hall : n = 0 ∨ n = 1 ∨ n = 2 ∨ n = 3 ∨ n = 4 ∨ n = 5 ∨ n = 6 ∨ n = 7 ∨ n = 8 ∨ n = 9 ∨ n = 10 ∨ n = 11 ∨ n = 12 ∨ n = 13 ∨ n = 14 ∨ n = 15 := by omega
  clear hn
  rcases hall with rfl | rfl | rfl | rfl | rfl | rfl | rfl | rfl | rfl | rfl | rfl | rfl | rfl | rfl | rfl | rfl
  all_goals
    go_enter Tryz.func61, Tryz.ntmps61
    go_wp2_with fail
    go_ret
    exact ⟨by rfl, rfl⟩
set_option maxRecDepth 100000 in
set_option maxHeartbeats 4000000 in
theorem hext_any (n : Nat) (w : World) (hn : n < 32) : Calls Tryz.prog 61 #[.int .i64 (n : Int)] w fun e w' => e = .returned (.string (mkB (hexT n))) ∧ Below w.heap.size w w' := by
  rcases Nat.lt_or_ge n 16 with h | h
  · exact (hext_low n w h).mono fun e w' ⟨h1, h2⟩ => ⟨h1, h2 ▸ Below.refl _ _⟩
  have hall : n = 16 ∨ n = 17 ∨ n = 18 ∨ n = 19 ∨ n = 20 ∨ n = 21 ∨ n = 22 ∨ n = 23 ∨ n = 24 ∨ n = 25 ∨ n = 26 ∨ n = 27 ∨ n = 28 ∨ n = 29 ∨ n = 30 ∨ n = 31 := by omega
  clear hn h
  rcases hall with rfl | rfl | rfl | rfl | rfl | rfl | rfl | rfl | rfl | rfl | rfl | rfl | rfl | rfl | rfl | rfl
  all_goals
    go_enter Tryz.func61, Tryz.ntmps61
    go_wp2_with fail
    go_region_with (first | (go_at_call 61; refine (hext_low 1 _ (by omega)).mono ?_; rintro e w2 ⟨rfl, rfl⟩))
  all_goals
    go_wp2_with fail
    go_ret
    exact ⟨by rfl, by first | exact Below.refl _ _ | exact below_drewN (Below.refl _ _) _ | exact (Below.refl _ _).drew⟩
end Go.Proofs.YtpahfhjgcflifaaGreatDoor
