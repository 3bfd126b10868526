/- num.look and what it answers. -/
import Derived.Test.YtiekhjgfnmochaaDoorBase
namespace Go.Proofs.YtiekhjgfnmochaaDoor
open Go.RowKit

theorem look1_any (bx i : Nat) (v : Value) (xs : List Nat) (w : World) (_ : i < 9223372036854775808) (hc : w.cell? ⟨bx, 0, none⟩ = some v) (hs : Sl .u32 w v xs) (hx : ∀ i, limb xs i < 4294967296) :
    Calls Tryd.prog 59 #[.int .i64 i, .pointer (some ⟨bx, 0, none⟩)] w fun e w' => e = .returned (.int .u64 ((limb xs i : Nat) : Int)) ∧ w = w' := by
  obtain ⟨hm, ao, cap, rfl, hcap, h⟩ := hs
  unfold maxLen at hm
  by_cases hlt : i < xs.length
  · have hxi := hx i
    rcases h with ⟨rfl, _⟩ | ⟨b, off, rfl, hb, hcell⟩
    · simp at hlt
    have hci := hcell i hlt
    clear hcell hx
    go_enter Tryd.func59, Tryd.ntmps59
    go_wp2
    go_ret
    exact ⟨rfl, rfl⟩
  · have h0 : limb xs i = 0 := limb_out (by omega)
    go_enter Tryd.func59, Tryd.ntmps59
    go_wp2
    go_ret
    exact ⟨ret_int (by rw [h0]; rfl), rfl⟩

theorem look1_int (bx : Nat) (i : Int) (v : Value) (xs : List Nat) (w : World) (h0 : 0 ≤ i) (hi : i < 9223372036854775808) (hc : w.cell? ⟨bx, 0, none⟩ = some v) (hs : Sl .u32 w v xs) (hx : ∀ i, limb xs i < 4294967296) :
    Calls Tryd.prog 59 #[.int .i64 i, .pointer (some ⟨bx, 0, none⟩)] w fun e w' => e = .returned (.int .u64 ((limb xs i.toNat : Nat) : Int)) ∧ w = w' := by
  obtain ⟨n, rfl⟩ := Int.eq_ofNat_of_zero_le h0
  rw [Int.toNat_natCast]
  exact look1_any bx n v xs w (by omega) hc hs hx

theorem Lb.wide {xs : List Nat} (h : Lb xs) (i : Nat) : limb xs i < 4294967296 := by have := h i; omega

theorem look_any (ao : Option Addr) (n c : Nat) (w : World) : Calls Tryd.prog 38 #[.slice ao n c] w fun e w' => e = .returned (.func (.func 59) #[] #[.pointer (some ⟨w.heap.size, 0, none⟩)]) ∧ w.alloc (.cells #[.slice ao n c] 22) = w' := by
  go_enter Tryd.func38, Tryd.ntmps38
  go_wp2
  go_ret
  exact ⟨rfl, rfl⟩

theorem infoU32 : (Tryd.prog.info? 52).map (fun i => (i.zero, i.size, i.bytes)) = some (some (.int .u32 0), 1, 4) := by kernel_rfl

end Go.Proofs.YtiekhjgfnmochaaDoor
