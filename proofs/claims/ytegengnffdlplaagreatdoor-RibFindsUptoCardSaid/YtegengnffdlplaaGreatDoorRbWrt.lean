/- strings.Builder's writing methods at this dump (the shelf's own cannot be laid here: the loader refuses copyCheck's panic). | num.Text | Decimal texts: of limbs, nine digits each, and of digits. No walk here. | rib.written: marks as a text. -/
import Derived.Test.YtegengnffdlplaaGreatDoorProg
import Derived.WalkKit
import Derived.WalkSpells
import Derived.WalkLawsBesides
import Derived.Lib.Hide
import Derived.Lib.OthersKept
import Derived.Lib.FrozenHead2
import Derived.Test.YtegengnffdlplaaGreatDoorPlus
import Derived.Test.YtegengnffdlplaaGreatDoorShelf
import Derived.Lib.SmallJoins
import Derived.Lib.AppendIntMem
import Derived.Lib.ItoaLen
import Derived.Test.YtegengnffdlplaaGreatDoorAdd
import Derived.Test.YtegengnffdlplaaGreatDoorRbMem
import Derived.Test.YtegengnffdlplaaGreatDoorTkSc
import Derived.LoopTactic
namespace Go.Proofs.YtegengnffdlplaaGreatDoor
open Go.RowKit

theorem sizeBld : (Tryz.prog.info? 97).map (·.size) = some 2 := by kernel_rfl
theorem liesBld : liesAt Tryz.prog Tryz.prog.depth 97 (2 / Tryz.prog.cellsOf 97) 0 97 1 = true := by kernel_rfl
theorem infoU8 : (Tryz.prog.info? 5).map (fun i => (i.zero, i.size, i.bytes)) = some (some (.int .u8 0), 1, 1) := by kernel_rfl

set_option maxRecDepth 100000 in
set_option maxHeartbeats 1000000 in
theorem bld_new (b : Nat) (w : World) (c0 : w.cell? ⟨b, 0, none⟩ = some (.pointer none)) (hsh : w.shape? b = some (97, 2)) (f0 : w.frozen? ⟨b, 0, none⟩ = false) :
    Calls Tryz.prog 63 #[.pointer (some ⟨b, 0, none⟩)] w fun e w' => e = .returned (.tuple #[]) ∧ w.setCell ⟨b, 0, none⟩ (.pointer (some ⟨b, 0, none⟩)) = w' := by
  obtain ⟨j, hj, hjs⟩ := Option.map_eq_some_iff.1 sizeBld
  go_enter Tryz.func63, Tryz.ntmps63
  go_wp2
  rw [Lib.run_to_unsafe w ⟨b, 0, none⟩ Tryz.underlying94 Tryz.underlying125 hj (by rw [hjs]; decide) hsh (Nat.zero_lt_succ 1)]
  simp only [Result.andThen]
  rw [Oper.upon_value]
  go_wp2
  rw [run_callFunc_extern Tryz.func77 (by kernel_rfl) (by kernel_rfl) (by kernel_rfl) (e := Extern.AbiNoEscape.same) (by kernel_rfl)]
  rw [Lib.run_noEscape]
  simp only [Result.andThen]
  rw [Oper.upon_value]
  go_wp2
  rw [Lib.run_from_unsafe w ⟨b, 0, none⟩ Tryz.underlying125 Tryz.underlying94 hj hsh liesBld]
  simp only [Result.andThen]
  rw [Oper.upon_value]
  go_wp2
  go_end0
  exact ⟨rfl, rfl⟩

set_option maxRecDepth 100000 in
set_option maxHeartbeats 1000000 in
theorem bld_used (b : Nat) (w : World) (c0 : w.cell? ⟨b, 0, none⟩ = some (.pointer (some ⟨b, 0, none⟩))) :
    Calls Tryz.prog 63 #[.pointer (some ⟨b, 0, none⟩)] w fun e w' => e = .returned (.tuple #[]) ∧ w = w' := by
  obtain ⟨j, hj, _⟩ := Option.map_eq_some_iff.1 sizeBld
  go_enter Tryz.func63, Tryz.ntmps63
  go_wp2
  rw [Lib.run_neq_ptr_same w _ Tryz.underlying94 hj]
  go_wp2
  go_end0
  exact ⟨rfl, rfl⟩

/-- What a write leaves. -/
def WrotePost (r : Value) (B b : Nat) (bs : List Value) (w : World) (e : Ending) (w' : World) : Prop :=
  e = .returned r ∧ Lib.BuilderAtF 97 5 B b (.pointer (some ⟨b, 0, none⟩)) bs w' ∧ Below B w w' ∧ Lib.OthersKept 5 (some b) w w'

theorem bld_check (B b : Nat) (bs : List Value) (w : World) (h : Lib.IsBuilderF 97 5 B b bs w) :
    Calls Tryz.prog 63 #[.pointer (some ⟨b, 0, none⟩)] w (WrotePost (.tuple #[]) B b bs w) := by
  rcases h with h | h
  · refine (bld_new b w h.cell0 h.shape h.frozen0).mono ?_
    rintro e w' ⟨rfl, rfl⟩
    exact ⟨rfl, h.used _, (Below.refl B w).setCell (p := ⟨b, 0, none⟩) h.1 _, (Lib.OthersKept.refl _ _ w).setCell ⟨b, 0, none⟩ rfl _⟩
  · refine (bld_used b w h.cell0).mono ?_
    rintro e w' ⟨rfl, rfl⟩
    exact ⟨rfl, h, Below.refl B _, Lib.OthersKept.refl _ _ _⟩

set_option maxRecDepth 100000 in
set_option maxHeartbeats 1000000 in
theorem bld_byte (B b : Nat) (bs : List Value) (c : Int) (w : World) (h : Lib.IsBuilderF 97 5 B b bs w) (hlen : bs.length + 1 ≤ 140737488355328) (hBw : B ≤ w.heap.size) :
    Calls Tryz.prog 51 #[.pointer (some ⟨b, 0, none⟩), .int .u8 c] w (WrotePost .nilIface B b (bs ++ [.int .u8 c]) w) := by
  obtain ⟨i0, hi, hz0, hz1, hz2⟩ := info_parts infoU8
  go_enter Tryz.func51, Tryz.ntmps51
  go_wp2_with fail
  refine (bld_check B b bs _ h).mono ?_
  rintro e w1 ⟨rfl, h1, hb1, hk1⟩
  obtain ⟨hB, v, hbk, hown, hne⟩ := h1
  have c0 : w1.cell? ⟨b, 0, none⟩ = some (.pointer (some ⟨b, 0, none⟩)) := by rw [Lib.cell_of_heap hbk]; rfl
  have c1 : w1.cell? ⟨b, 1, none⟩ = some v := by rw [Lib.cell_of_heap hbk]; rfl
  have hlt : b < w1.heap.size := (Array.getElem?_eq_some_iff.1 hbk).1
  go_wp2_with (at_builtin; refine wpList_append_ownF _ rfl _ _ 95 rfl B 5 i0 (.int .u8 0) 1 1 Tryz.underlying95 hi hz0 hz1 hz2 rfl (by decide) _ _ _ rfl (hown.alloc _) ⟨w1.heap.size, 0, none⟩ 1 1 [.int .u8 c] rfl rfl (cell_one_new _ _ _) (by intro u hu; rw [List.mem_singleton] at hu; subst hu; rfl) (by unfold maxLen; omega) (by omega) (by have := hb1.size; simp; omega) ?_; intro v' w2 hown' hgrow _; have hb2 : w2.heap[b]? = some (.cells #[.pointer (some ⟨b, 0, none⟩), v] 97 (0, 0)) := (by rw [hgrow.block b (by simp; omega) (fun e => hne e.symm), Below.heap_alloc _ _ _ hlt]; exact hbk); have d0 : w2.cell? ⟨b, 0, none⟩ = some (.pointer (some ⟨b, 0, none⟩)) := (by rw [Lib.cell_of_heap hb2]; rfl); have d1 : w2.cell? ⟨b, 1, none⟩ = some v := (by rw [Lib.cell_of_heap hb2]; rfl); have f1 : w2.frozen? ⟨b, 1, none⟩ = false := Lib.frozen_of_heap hb2 1; obtain ⟨ao, n', cap, rfl⟩ : ∃ ao n' cap, v' = .slice ao n' cap := (by rcases hown'.2 with ⟨hv, _⟩ | ⟨g, cap, cur, fz, hv, _⟩; exact ⟨_, _, _, hv⟩; exact ⟨_, _, _, hv⟩))
  go_ret
  refine ⟨rfl, ?_, ?_, ((hk1.alloc _).grown hgrow (Lib.ownsRowF_kind (hown.alloc _))).setCell ⟨b, 1, none⟩ rfl _⟩
  · exact Lib.BuilderAtF.put (T := 97) (e := 5) hB hb2 (bs' := bs ++ [.int .u8 c]) (by simpa using hown') (by decide)
  · exact ((hb1.alloc (by have := hb1.size; omega) _).grown hgrow (by have := hb1.size; simp; omega) (fun k hk => (hown.lt k hk).1)).setCell (p := ⟨b, 1, none⟩) hB _
end Go.Proofs.YtegengnffdlplaaGreatDoor
namespace Go.Proofs.YtegengnffdlplaaGreatDoor
open Go.RowKit

/-- The lower limbs, nine digits each, the highest first. -/
def txtLow (rs : List Nat) : Nat → List UInt8
  | 0 => []
  | i + 1 => (Lib.itoa (1000000000 + (limb rs i : Nat))).drop 1 ++ txtLow rs i
def txt (neg : Bool) (rs : List Nat) : List UInt8 :=
  if rs = [] then [48] else (if neg then [45] else []) ++ (Lib.itoa (limb rs (rs.length - 1) : Nat) ++ txtLow rs (rs.length - 1))

theorem bld_start {T e : TypeId} (w : World) : Lib.IsBuilderF T e w.heap.size w.heap.size [] (w.alloc (.cells #[.pointer none, .slice none 0 0] T)) :=
  .inl ⟨Nat.le_refl _, .slice none 0 0, heap_alloc_new w _, World.ownsRowF_nil _ _ _ _, by simp [Value.ownBlock]⟩

end Go.Proofs.YtegengnffdlplaaGreatDoor
namespace Go.Proofs.YtegengnffdlplaaGreatDoor
open Go.RowKit

theorem Db.tail {d : Nat} {ds : List Nat} (h : Db (d :: ds)) : d < 10 ∧ Db ds := by
  refine ⟨by have := h 0; simpa [limb] using this, fun i => ?_⟩
  have := h (i + 1)
  simpa [limb] using this
theorem Top.tail {d : Nat} {ds : List Nat} (h : Top (d :: ds)) : Top ds := by
  intro hne
  have := h (by simp)
  have hl : 0 < ds.length := List.length_pos_iff.2 hne
  obtain ⟨k, hk⟩ : ∃ k, ds.length = k + 1 := ⟨ds.length - 1, by omega⟩
  rw [hk]
  simp only [List.length_cons, hk] at this
  simpa [limb] using this
end Go.Proofs.YtegengnffdlplaaGreatDoor
namespace Go.Proofs.YtegengnffdlplaaGreatDoor
open Go.RowKit

def wrtU (zs : List Int) : List UInt8 := (wrtI zs).map fun c => c.toNat.toUInt8
theorem wrtU_len (zs : List Int) : (wrtU zs).length = 8 * zs.length := by unfold wrtU; rw [List.length_map, wrtI_len]
/-- The first so many bytes of a mark. -/
def by8s (z : Int) (a : Nat) : List UInt8 := (List.range a).map fun i => (by8 z i).toNat.toUInt8
theorem by8s_len (z : Int) (a : Nat) : (by8s z a).length = a := by simp [by8s]
theorem by8s_succ (z : Int) (a : Nat) : by8s z (a + 1) = by8s z a ++ [(by8 z a).toNat.toUInt8] := by unfold by8s; rw [List.range_succ]; simp
theorem wrtU_succ {zs : List Int} {k : Nat} (h : k < zs.length) : wrtU (zs.take (k + 1)) = wrtU (zs.take k) ++ by8s (gz zs k) 8 := by
  rw [gz_lt h, ← List.take_append_getElem h]
  unfold wrtU
  rw [wrtI_app, List.map_append]
  rfl
theorem byte_cell (z : Int) (a : Nat) : Lib.byteCells [(by8 z a).toNat.toUInt8] = [.int .u8 (by8 z a)] := by
  have h := by8_range z a
  unfold Lib.byteCells
  have e : (((by8 z a).toNat.toUInt8).toNat : Int) = by8 z a := by
    have : ((by8 z a).toNat.toUInt8).toNat = (by8 z a).toNat % 256 := by simp
    rw [this]; omega
  rw [List.map_cons, e]; rfl
theorem cells_app (a b : List UInt8) : Lib.byteCells (a ++ b) = Lib.byteCells a ++ Lib.byteCells b := by simp [Lib.byteCells]

theorem pow_by8 (z : Int) (a : Nat) : z / 2 ^ (8 * a) % 256 = by8 z a := by
  unfold by8
  have e : (2 : Int) ^ (8 * a) = 256 ^ a := by rw [Int.pow_mul]; rfl
  rw [e]

set_option maxRecDepth 100000 in
set_option maxHeartbeats 4000000 in
theorem rwritten_any (v : Value) (zs : List Int) (w : World) (h : Iz w v zs) (hl : zs.length ≤ 1000000) :
    Calls Tryz.prog 37 #[v] w fun e w' => e = .returned (.string (wrt zs)) ∧ Below w.heap.size w w' := by
  have HZ := Lib.hid h
  have HL := Lib.hid hl
  obtain ⟨_, ao, cap, rfl, _, _⟩ := h.cases
  clear h hl
  have hI0 : Lib.IsBuilderF 97 5 w.heap.size w.heap.size (Lib.byteCells []) (w.alloc (.cells #[.pointer none, .slice none 0 0] 97)) := bld_start w
  have hB0 := below1 w (.cells #[.pointer none, .slice none 0 0] 97)
  go_enter Tryz.func37, Tryz.ntmps37
  go_upto_region 2 with fail
  generalize w.alloc (.cells #[.pointer none, .slice none 0 0] 97) = W1 at *
  have HI0 := Lib.hid hI0
  have HB0 := Lib.hid hB0
  clear hI0 hB0
  have hmx : zs.length ≤ 9223372036854775807 := by have := HL.out; omega
  go_wp2_with fail
  go_loopw [9] (fun i wr => ∃ k : Nat, i = .int .i64 (k : Nat) ∧ k ≤ zs.length ∧ Lib.IsBuilderF 97 5 w.heap.size w.heap.size (Lib.byteCells (wrtU (zs.take k))) wr ∧ Below w.heap.size w wr) (fun i _ => zs.length - (intOf i).toNat)
  case atStart => exact ⟨0, rfl, by omega, by rw [List.take_zero]; exact HI0.out, HB0.out⟩
  case round =>
    obtain ⟨k, rfl, hk, hI, hB⟩ := hrel
    have HI := Lib.hid hI
    have HB := Lib.hid hB
    clear hI hB
    rcases Nat.lt_or_eq_of_le hk with hkt | rfl
    · obtain ⟨_, ao', cap', hv, _, hr⟩ := (HZ.out.below HB.out).cases
      simp only [Value.slice.injEq, true_and] at hv
      obtain ⟨rfl, rfl⟩ := hv
      rcases hr with ⟨h0, _⟩ | ⟨b, off, rfl, _, hcell⟩
      · rw [h0] at hkt; simp at hkt
      have hc := hcell k hkt
      clear hcell
      have hkk : ((k : Nat) : Int) < ((zs.length : Nat) : Int) := by omega
      obtain ⟨z, hz⟩ : ∃ z, z = gz zs k := ⟨_, rfl⟩
      rw [← hz] at hc
      have HGZ := Lib.hid hz
      clear hz
      go_wp2_with fail
      go_loopw [13] (fun i wr => ∃ a : Nat, i = .int .i64 (a : Nat) ∧ a ≤ 8 ∧ Lib.IsBuilderF 97 5 w.heap.size w.heap.size (Lib.byteCells (wrtU (zs.take k) ++ by8s z a)) wr ∧ Below w.heap.size w wr) (fun i _ => 8 - (intOf i).toNat)
      case atStart => exact ⟨0, rfl, by omega, by simpa [by8s] using HI.out, HB.out⟩
      case round =>
        obtain ⟨a, rfl, ha, hI, hB⟩ := hrel
        rcases Nat.lt_or_eq_of_le ha with hat | rfl
        · have haa : ((a : Nat) : Int) < 8 := by omega
          go_wp2_with fail
          have HC := Lib.hid hI
          have HBB := Lib.hid hB
          clear hI hB
          rw [pow_by8]
          refine (bld_byte w.heap.size w.heap.size _ (by8 z a) _ HC.out (by rw [Lib.byteCells_length, List.length_append, wrtU_len, by8s_len, List.length_take]; have := HL.out; omega) HBB.out.size).mono ?_
          rintro e w' ⟨rfl, hA, hb, _⟩
          have HA := Lib.hid hA
          have HB2 := Lib.hid (HBB.out.trans hb)
          clear hA hb
          go_wp2_with fail
          go_roundw
          case rel => exact ⟨a + 1, by go_num, by omega, .inr (by rw [by8s_succ, ← List.append_assoc, cells_app, byte_cell]; exact HA.out), HB2.out⟩
          case measure => simp only [intOf]; omega
        · have HC := Lib.hid hI
          have HBB := Lib.hid hB
          clear hI hB
          go_wp2_with fail
          go_roundw
          case rel => exact ⟨k + 1, by go_num, by omega, by rw [wrtU_succ hkt, ← HGZ.out]; exact HC.out, HBB.out⟩
          case measure => simp only [intOf]; omega
    · have hl := HL.out
      go_wp2_with fail
      refine (Tryz.Builder_String_any_k w.heap.size w.heap.size (wrtU zs) wr (by have := HI.out; rwa [List.take_length] at this) HB.out.size).mono ?_
      rintro e w7 ⟨rfl, _, hb7, _⟩
      have HB7 := Lib.hid (HB.out.trans hb7)
      clear hb7
      go_wp2_with fail
      go_ret
      exact ⟨rfl, HB7.out⟩
end Go.Proofs.YtegengnffdlplaaGreatDoor
