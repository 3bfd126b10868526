/- rib.written: marks as a text. -/
import Derived.Test.YtegengnffdlplaaDoorRbMem
import Derived.Test.YtegengnffdlplaaDoorBuild
import Derived.Test.YtegengnffdlplaaDoorWpMath
import Derived.LoopTactic
namespace Go.Proofs.YtegengnffdlplaaDoor
open Go.RowKit

def wrtU (zs : List Int) : List UInt8 := (wrtI zs).map fun c => c.toNat.toUInt8
theorem wrtU_len (zs : List Int) : (wrtU zs).length = 8 * zs.length := by unfold wrtU; rw [List.length_map, wrtI_len]
/-- The first so many bytes of a mark. -/
def by8s (z : Int) (a : Nat) : List UInt8 := (List.range a).map fun i => (by8 z i).toNat.toUInt8
theorem by8s_len (z : Int) (a : Nat) : (by8s z a).length = a := by simp [by8s]
theorem by8s_succ (z : Int) (a : Nat) : by8s z (a + 1) = by8s z a ++ [(by8 z a).toNat.toUInt8] := by unfold by8s; rw [List.range_succ]; simp
theorem wrtU_succ {zs : List Int} {k : Nat} (h : k < zs.length) : wrtU (zs.take (k + 1)) = wrtU (zs.take k) ++ by8s (gz zs k) 8 := by
  rw [gz_lt h, ← List.take_append_getElem h]
  unfold wrtU
  rw [wrtI_app, List.map_append]
  rfl
theorem byte_cell (z : Int) (a : Nat) : Lib.byteCells [(by8 z a).toNat.toUInt8] = [.int .u8 (by8 z a)] := by
  have h := by8_range z a
  unfold Lib.byteCells
  have e : (((by8 z a).toNat.toUInt8).toNat : Int) = by8 z a := by
    have : ((by8 z a).toNat.toUInt8).toNat = (by8 z a).toNat % 256 := by simp
    rw [this]; omega
  rw [List.map_cons, e]; rfl
theorem cells_app (a b : List UInt8) : Lib.byteCells (a ++ b) = Lib.byteCells a ++ Lib.byteCells b := by simp [Lib.byteCells]

theorem pow_by8 (z : Int) (a : Nat) : z / 2 ^ (8 * a) % 256 = by8 z a := by
  unfold by8
  have e : (2 : Int) ^ (8 * a) = 256 ^ a := by rw [Int.pow_mul]; rfl
  rw [e]

set_option maxRecDepth 100000 in
set_option maxHeartbeats 4000000 in
theorem rwritten_any (v : Value) (zs : List Int) (w : World) (h : Iz w v zs) (hl : zs.length ≤ 1000000) :
    Calls Tryd.prog 21 #[v] w fun e w' => e = .returned (.string (wrt zs)) ∧ Below w.heap.size w w' := by
  have HZ := Lib.hid h
  have HL := Lib.hid hl
  obtain ⟨_, ao, cap, rfl, _, _⟩ := h.cases
  clear h hl
  have hI0 : Lib.IsBuilderF 74 5 w.heap.size w.heap.size (Lib.byteCells []) (w.alloc (.cells #[.pointer none, .slice none 0 0] 74)) := bld_start w
  have hB0 := below1 w (.cells #[.pointer none, .slice none 0 0] 74)
  go_enter Tryd.func21, Tryd.ntmps21
  go_upto_region 2 with fail
  generalize w.alloc (.cells #[.pointer none, .slice none 0 0] 74) = W1 at *
  have HI0 := Lib.hid hI0
  have HB0 := Lib.hid hB0
  clear hI0 hB0
  have hmx : zs.length ≤ 9223372036854775807 := by have := HL.out; omega
  go_wp2_with fail
  go_loopw [9] (fun i wr => ∃ k : Nat, i = .int .i64 (k : Nat) ∧ k ≤ zs.length ∧ Lib.IsBuilderF 74 5 w.heap.size w.heap.size (Lib.byteCells (wrtU (zs.take k))) wr ∧ Below w.heap.size w wr) (fun i _ => zs.length - (intOf i).toNat)
  case atStart => exact ⟨0, rfl, by omega, by rw [List.take_zero]; exact HI0.out, HB0.out⟩
  case round =>
    obtain ⟨k, rfl, hk, hI, hB⟩ := hrel
    have HI := Lib.hid hI
    have HB := Lib.hid hB
    clear hI hB
    rcases Nat.lt_or_eq_of_le hk with hkt | rfl
    · obtain ⟨_, ao', cap', hv, _, hr⟩ := (HZ.out.below HB.out).cases
      simp only [Value.slice.injEq, true_and] at hv
      obtain ⟨rfl, rfl⟩ := hv
      rcases hr with ⟨h0, _⟩ | ⟨b, off, rfl, _, hcell⟩
      · rw [h0] at hkt; simp at hkt
      have hc := hcell k hkt
      clear hcell
      have hkk : ((k : Nat) : Int) < ((zs.length : Nat) : Int) := by omega
      obtain ⟨z, hz⟩ : ∃ z, z = gz zs k := ⟨_, rfl⟩
      rw [← hz] at hc
      have HGZ := Lib.hid hz
      clear hz
      go_wp2_with fail
      go_loopw [13] (fun i wr => ∃ a : Nat, i = .int .i64 (a : Nat) ∧ a ≤ 8 ∧ Lib.IsBuilderF 74 5 w.heap.size w.heap.size (Lib.byteCells (wrtU (zs.take k) ++ by8s z a)) wr ∧ Below w.heap.size w wr) (fun i _ => 8 - (intOf i).toNat)
      case atStart => exact ⟨0, rfl, by omega, by simpa [by8s] using HI.out, HB.out⟩
      case round =>
        obtain ⟨a, rfl, ha, hI, hB⟩ := hrel
        rcases Nat.lt_or_eq_of_le ha with hat | rfl
        · have haa : ((a : Nat) : Int) < 8 := by omega
          go_wp2_with fail
          have HC := Lib.hid hI
          have HBB := Lib.hid hB
          clear hI hB
          rw [pow_by8]
          refine (bld_byte w.heap.size w.heap.size _ (by8 z a) _ HC.out (by rw [Lib.byteCells_length, List.length_append, wrtU_len, by8s_len, List.length_take]; have := HL.out; omega) HBB.out.size).mono ?_
          rintro e w' ⟨rfl, hA, hb, _⟩
          have HA := Lib.hid hA
          have HB2 := Lib.hid (HBB.out.trans hb)
          clear hA hb
          go_wp2_with fail
          go_roundw
          case rel => exact ⟨a + 1, by go_num, by omega, .inr (by rw [by8s_succ, ← List.append_assoc, cells_app, byte_cell]; exact HA.out), HB2.out⟩
          case measure => simp only [intOf]; omega
        · have HC := Lib.hid hI
          have HBB := Lib.hid hB
          clear hI hB
          go_wp2_with fail
          go_roundw
          case rel => exact ⟨k + 1, by go_num, by omega, by rw [wrtU_succ hkt, ← HGZ.out]; exact HC.out, HBB.out⟩
          case measure => simp only [intOf]; omega
    · have hl := HL.out
      go_wp2_with fail
      refine (Tryd.Builder_String_any_k w.heap.size w.heap.size (wrtU zs) wr (by have := HI.out; rwa [List.take_length] at this) HB.out.size).mono ?_
      rintro e w7 ⟨rfl, _, hb7, _⟩
      have HB7 := Lib.hid (HB.out.trans hb7)
      clear hb7
      go_wp2_with fail
      go_ret
      exact ⟨rfl, HB7.out⟩
end Go.Proofs.YtegengnffdlplaaDoor
