/- strings.Builder's writing methods at this dump (the shelf's own cannot be laid here: the loader refuses copyCheck's panic). | num.Text | Decimal texts: of limbs, nine digits each, and of digits. No walk here. -/
import Derived.Test.YtpahfhjgcflifaaGreatDoorProg
import Derived.WalkKit
import Derived.WalkSpells
import Derived.WalkLawsBesides
import Derived.Lib.Hide
import Derived.Lib.OthersKept
import Derived.Lib.FrozenHead2
import Derived.Test.YtpahfhjgcflifaaGreatDoorLook
import Derived.Test.YtpahfhjgcflifaaGreatDoorShelf
import Derived.Lib.SmallJoins
import Derived.Lib.AppendIntMem
import Derived.Lib.ItoaLen
import Derived.Test.YtpahfhjgcflifaaGreatDoorAdd
namespace Go.Proofs.YtpahfhjgcflifaaGreatDoor
open Go.RowKit

theorem sizeBld : (Tryz.prog.info? 77).map (·.size) = some 2 := by kernel_rfl
theorem liesBld : liesAt Tryz.prog Tryz.prog.depth 77 (2 / Tryz.prog.cellsOf 77) 0 77 1 = true := by kernel_rfl
theorem infoU8 : (Tryz.prog.info? 5).map (fun i => (i.zero, i.size, i.bytes)) = some (some (.int .u8 0), 1, 1) := by kernel_rfl

set_option maxRecDepth 100000 in
set_option maxHeartbeats 1000000 in
theorem bld_new (b : Nat) (w : World) (c0 : w.cell? ⟨b, 0, none⟩ = some (.pointer none)) (hsh : w.shape? b = some (77, 2)) (f0 : w.frozen? ⟨b, 0, none⟩ = false) :
    Calls Tryz.prog 87 #[.pointer (some ⟨b, 0, none⟩)] w fun e w' => e = .returned (.tuple #[]) ∧ w.setCell ⟨b, 0, none⟩ (.pointer (some ⟨b, 0, none⟩)) = w' := by
  obtain ⟨j, hj, hjs⟩ := Option.map_eq_some_iff.1 sizeBld
  go_enter Tryz.func87, Tryz.ntmps87
  go_wp2
  rw [Lib.run_to_unsafe w ⟨b, 0, none⟩ Tryz.underlying75 Tryz.underlying144 hj (by rw [hjs]; decide) hsh (Nat.zero_lt_succ 1)]
  simp only [Result.andThen]
  rw [Oper.upon_value]
  go_wp2
  rw [run_callFunc_extern Tryz.func106 (by kernel_rfl) (by kernel_rfl) (by kernel_rfl) (e := Extern.AbiNoEscape.same) (by kernel_rfl)]
  rw [Lib.run_noEscape]
  simp only [Result.andThen]
  rw [Oper.upon_value]
  go_wp2
  rw [Lib.run_from_unsafe w ⟨b, 0, none⟩ Tryz.underlying144 Tryz.underlying75 hj hsh liesBld]
  simp only [Result.andThen]
  rw [Oper.upon_value]
  go_wp2
  go_end0
  exact ⟨rfl, rfl⟩

set_option maxRecDepth 100000 in
set_option maxHeartbeats 1000000 in
theorem bld_used (b : Nat) (w : World) (c0 : w.cell? ⟨b, 0, none⟩ = some (.pointer (some ⟨b, 0, none⟩))) :
    Calls Tryz.prog 87 #[.pointer (some ⟨b, 0, none⟩)] w fun e w' => e = .returned (.tuple #[]) ∧ w = w' := by
  obtain ⟨j, hj, _⟩ := Option.map_eq_some_iff.1 sizeBld
  go_enter Tryz.func87, Tryz.ntmps87
  go_wp2
  rw [Lib.run_neq_ptr_same w _ Tryz.underlying75 hj]
  go_wp2
  go_end0
  exact ⟨rfl, rfl⟩

/-- What a write leaves. -/
def WrotePost (r : Value) (B b : Nat) (bs : List Value) (w : World) (e : Ending) (w' : World) : Prop :=
  e = .returned r ∧ Lib.BuilderAtF 77 5 B b (.pointer (some ⟨b, 0, none⟩)) bs w' ∧ Below B w w' ∧ Lib.OthersKept 5 (some b) w w'

theorem bld_check (B b : Nat) (bs : List Value) (w : World) (h : Lib.IsBuilderF 77 5 B b bs w) :
    Calls Tryz.prog 87 #[.pointer (some ⟨b, 0, none⟩)] w (WrotePost (.tuple #[]) B b bs w) := by
  rcases h with h | h
  · refine (bld_new b w h.cell0 h.shape h.frozen0).mono ?_
    rintro e w' ⟨rfl, rfl⟩
    exact ⟨rfl, h.used _, (Below.refl B w).setCell (p := ⟨b, 0, none⟩) h.1 _, (Lib.OthersKept.refl _ _ w).setCell ⟨b, 0, none⟩ rfl _⟩
  · refine (bld_used b w h.cell0).mono ?_
    rintro e w' ⟨rfl, rfl⟩
    exact ⟨rfl, h, Below.refl B _, Lib.OthersKept.refl _ _ _⟩

set_option maxRecDepth 100000 in
set_option maxHeartbeats 1000000 in
theorem bld_string (B b : Nat) (bs : List Value) (s : ByteArray) (w : World) (h : Lib.IsBuilderF 77 5 B b bs w) (hlen : bs.length + s.size ≤ 140737488355328) (hBw : B ≤ w.heap.size) :
    Calls Tryz.prog 66 #[.pointer (some ⟨b, 0, none⟩), .string s] w (WrotePost (.tuple #[.int .i64 s.size, .nilIface]) B b (bs ++ Lib.strCells s) w) := by
  obtain ⟨i0, hi, hz0, hz1, hz2⟩ := info_parts infoU8
  go_enter Tryz.func66, Tryz.ntmps66
  go_wp2_with fail
  refine (bld_check B b bs _ h).mono ?_
  rintro e w1 ⟨rfl, h1, hb1, hk1⟩
  obtain ⟨hB, v, hbk, hown, hne⟩ := h1
  have c0 : w1.cell? ⟨b, 0, none⟩ = some (.pointer (some ⟨b, 0, none⟩)) := by rw [Lib.cell_of_heap hbk]; rfl
  have c1 : w1.cell? ⟨b, 1, none⟩ = some v := by rw [Lib.cell_of_heap hbk]; rfl
  go_wp2_with (at_builtin; refine Lib.wpList_append_own_stringF _ rfl _ _ 34 9 rfl B 5 i0 Tryz.underlying34 Tryz.underlying9 hi hz0 hz1 hz2 _ _ _ rfl hown s rfl (by unfold maxLen; omega) (by omega) (by have := hb1.size; omega) ?_; intro v' w2 hown' hgrow _; have hlt : b < w1.heap.size := (Array.getElem?_eq_some_iff.1 hbk).1; have hb2 : w2.heap[b]? = some (.cells #[.pointer (some ⟨b, 0, none⟩), v] 77 (0, 0)) := (by rw [hgrow.block b hlt (fun e => hne e.symm)]; exact hbk); have d0 : w2.cell? ⟨b, 0, none⟩ = some (.pointer (some ⟨b, 0, none⟩)) := (by rw [Lib.cell_of_heap hb2]; rfl); have d1 : w2.cell? ⟨b, 1, none⟩ = some v := (by rw [Lib.cell_of_heap hb2]; rfl); have f1 : w2.frozen? ⟨b, 1, none⟩ = false := Lib.frozen_of_heap hb2 1; obtain ⟨ao, n', cap, rfl⟩ : ∃ ao n' cap, v' = .slice ao n' cap := (by rcases hown'.2 with ⟨hv, _⟩ | ⟨g, cap, cur, fz, hv, _⟩; exact ⟨_, _, _, hv⟩; exact ⟨_, _, _, hv⟩))
  go_ret2
  refine ⟨rfl, ?_, ?_, (hk1.grown hgrow (Lib.ownsRowF_kind hown)).setCell ⟨b, 1, none⟩ rfl _⟩
  · exact Lib.BuilderAtF.put (T := 77) (e := 5) hB hb2 (bs' := bs ++ Lib.strCells s) (by simpa [Lib.strCells_length] using hown') (by decide)
  · exact (hb1.grown hgrow (by have := hb1.size; omega) (fun k hk => (hown.lt k hk).1)).setCell (p := ⟨b, 1, none⟩) hB _

set_option maxRecDepth 100000 in
set_option maxHeartbeats 1000000 in
theorem bld_byte (B b : Nat) (bs : List Value) (c : Int) (w : World) (h : Lib.IsBuilderF 77 5 B b bs w) (hlen : bs.length + 1 ≤ 140737488355328) (hBw : B ≤ w.heap.size) :
    Calls Tryz.prog 65 #[.pointer (some ⟨b, 0, none⟩), .int .u8 c] w (WrotePost .nilIface B b (bs ++ [.int .u8 c]) w) := by
  obtain ⟨i0, hi, hz0, hz1, hz2⟩ := info_parts infoU8
  go_enter Tryz.func65, Tryz.ntmps65
  go_wp2_with fail
  refine (bld_check B b bs _ h).mono ?_
  rintro e w1 ⟨rfl, h1, hb1, hk1⟩
  obtain ⟨hB, v, hbk, hown, hne⟩ := h1
  have c0 : w1.cell? ⟨b, 0, none⟩ = some (.pointer (some ⟨b, 0, none⟩)) := by rw [Lib.cell_of_heap hbk]; rfl
  have c1 : w1.cell? ⟨b, 1, none⟩ = some v := by rw [Lib.cell_of_heap hbk]; rfl
  have hlt : b < w1.heap.size := (Array.getElem?_eq_some_iff.1 hbk).1
  go_wp2_with (at_builtin; refine wpList_append_ownF _ rfl _ _ 34 rfl B 5 i0 (.int .u8 0) 1 1 Tryz.underlying34 hi hz0 hz1 hz2 rfl (by decide) _ _ _ rfl (hown.alloc _) ⟨w1.heap.size, 0, none⟩ 1 1 [.int .u8 c] rfl rfl (cell_one_new _ _ _) (by intro u hu; rw [List.mem_singleton] at hu; subst hu; rfl) (by unfold maxLen; omega) (by omega) (by have := hb1.size; simp; omega) ?_; intro v' w2 hown' hgrow _; have hb2 : w2.heap[b]? = some (.cells #[.pointer (some ⟨b, 0, none⟩), v] 77 (0, 0)) := (by rw [hgrow.block b (by simp; omega) (fun e => hne e.symm), Below.heap_alloc _ _ _ hlt]; exact hbk); have d0 : w2.cell? ⟨b, 0, none⟩ = some (.pointer (some ⟨b, 0, none⟩)) := (by rw [Lib.cell_of_heap hb2]; rfl); have d1 : w2.cell? ⟨b, 1, none⟩ = some v := (by rw [Lib.cell_of_heap hb2]; rfl); have f1 : w2.frozen? ⟨b, 1, none⟩ = false := Lib.frozen_of_heap hb2 1; obtain ⟨ao, n', cap, rfl⟩ : ∃ ao n' cap, v' = .slice ao n' cap := (by rcases hown'.2 with ⟨hv, _⟩ | ⟨g, cap, cur, fz, hv, _⟩; exact ⟨_, _, _, hv⟩; exact ⟨_, _, _, hv⟩))
  go_ret
  refine ⟨rfl, ?_, ?_, ((hk1.alloc _).grown hgrow (Lib.ownsRowF_kind (hown.alloc _))).setCell ⟨b, 1, none⟩ rfl _⟩
  · exact Lib.BuilderAtF.put (T := 77) (e := 5) hB hb2 (bs' := bs ++ [.int .u8 c]) (by simpa using hown') (by decide)
  · exact ((hb1.alloc (by have := hb1.size; omega) _).grown hgrow (by have := hb1.size; simp; omega) (fun k hk => (hown.lt k hk).1)).setCell (p := ⟨b, 1, none⟩) hB _
end Go.Proofs.YtpahfhjgcflifaaGreatDoor
namespace Go.Proofs.YtpahfhjgcflifaaGreatDoor
open Go.RowKit

/-- The lower limbs, nine digits each, the highest first. -/
def txtLow (rs : List Nat) : Nat → List UInt8
  | 0 => []
  | i + 1 => (Lib.itoa (1000000000 + (limb rs i : Nat))).drop 1 ++ txtLow rs i
def txt (neg : Bool) (rs : List Nat) : List UInt8 :=
  if rs = [] then [48] else (if neg then [45] else []) ++ (Lib.itoa (limb rs (rs.length - 1) : Nat) ++ txtLow rs (rs.length - 1))

def Pow10 (w : World) : Prop := Lib.TabIs Tryz.prog w "internal/strconv.uint64pow10" .u64 Lib.pow10Tab
theorem gPow10 : Tryz.prog.globalNamed "internal/strconv.uint64pow10" = some 4 := by kernel_rfl
theorem Pow10.below {w w' : World} (h : Pow10 w) (hb : Below w.heap.size w w') : Pow10 w' := Go.Joins.tab_stays gPow10 h hb (Nat.le_refl _)

/-- What Text answers. -/
def TextPost (l : List UInt8) (w : World) (e : Ending) (w' : World) : Prop := e = .returned (.string ⟨l.toArray⟩) ∧ Below w.heap.size w w'

theorem itoa_call (n : Int) (w : World) (h0 : -9223372036854775808 ≤ n) (h1 : n ≤ 9223372036854775807) (ht : Pow10 w) :
    Calls Tryz.prog 90 #[.int .i64 n] w fun e w' => e = .returned (.string ⟨(Lib.itoa n).toArray⟩) ∧ Below w.heap.size w w' :=
  (Tryz.strconv_Itoa n h0 h1 w ht).mono fun _ _ ⟨he, k, os, hw⟩ => ⟨he, by rw [hw]; exact Lib.below_grow _ _ (Nat.le_refl _) k os⟩

theorem isB_below {T e : TypeId} {B b : Nat} {bs : List Value} {w w' : World} (h : Lib.IsBuilderF T e B b bs w) (hb : Below w.heap.size w w') : Lib.IsBuilderF T e B b bs w' := by
  have hg : w.grownBy w' none := ⟨hb.os, hb.tape, hb.output, hb.size, fun k hk _ => hb.block k hk⟩
  have key : ∀ p, Lib.BuilderAtF T e B b p bs w → Lib.BuilderAtF T e B b p bs w' := by
    intro p ⟨hB, v, hv, hown, hne⟩
    have hlt : b < w.heap.size := (Array.getElem?_eq_some_iff.1 hv).1
    refine ⟨hB, v, by rw [hb.block b hlt]; exact hv, hown.kept hg ?_, hne⟩
    cases v.ownBlock <;> simp
  rcases h with h | h
  · exact .inl (key _ h)
  · exact .inr (key _ h)
theorem bld_start {T e : TypeId} (w : World) : Lib.IsBuilderF T e w.heap.size w.heap.size [] (w.alloc (.cells #[.pointer none, .slice none 0 0] T)) :=
  .inl ⟨Nat.le_refl _, .slice none 0 0, heap_alloc_new w _, World.ownsRowF_nil _ _ _ _, by simp [Value.ownBlock]⟩

set_option maxRecDepth 100000 in
set_option maxHeartbeats 2000000 in
theorem text_any (neg : Bool) (sv : Value) (rs : List Nat) (w : World) (hs : Sl .u32 w sv rs) (hsnd : Snd neg rs) (ht : Pow10 w) :
    Calls Tryz.prog 69 #[.agg #[.bool neg, sv]] w (TextPost (txt neg rs) w) := by
  have HS := Lib.hid hs
  obtain ⟨hm, ao, cap, rfl, hcap, h⟩ := hs
  unfold maxLen at hm
  have HN := Lib.hid hsnd; clear hsnd
  have HT := Lib.hid ht; clear ht
  have hb1 : Below w.heap.size w (w.alloc (.cells #[.bool neg, .slice ao rs.length cap] 24)) := below1 w _
  have hg0 : (w.alloc (.cells #[.bool neg, .slice ao rs.length cap] 24)).heap[w.heap.size]? = some (.cells #[.bool neg, .slice ao rs.length cap] 24 (0, 0)) := heap_alloc_new w _
  by_cases he : rs = []
  · subst he
    have HV := Lib.hid (show txt neg [] = [48] from rfl)
    go_enter Tryz.func69, Tryz.ntmps69
    go_wp2_with fail
    refine (sound_any neg _ [] _ (HS.out.below hb1) HN.out.2.1.wide).mono ?_
    rintro e w1 ⟨rfl, hb2⟩
    rw [sndB_true HN.out]
    have hg1 := (hb2.block w.heap.size (by simp)).trans hg0
    have c0 := cell_heap hg1 0
    have c1 := cell_heap hg1 1
    go_wp2
    go_ret
    exact ⟨by rw [HV.out]; rfl, hb1.trans (hb2.mono (by simp))⟩
  · have hpos : 1 ≤ rs.length := List.length_pos_iff.2 he
    have hl64 := HN.out.1
    rcases h with ⟨h, _⟩ | ⟨b0, off, rfl, hb0, hcell⟩
    · exact absurd h he
    have HC := Lib.hid hcell; clear hcell
    have HE := Lib.hid he; clear he
    have hfull : ∃ full, full = txt neg rs := ⟨_, rfl⟩
    obtain ⟨full, hfull⟩ := hfull
    rw [← hfull]
    have HF := Lib.hid hfull; clear hfull
    go_enter Tryz.func69, Tryz.ntmps69
    go_wp2_with fail
    refine (sound_any neg _ rs _ (HS.out.below hb1) HN.out.2.1.wide).mono ?_
    rintro e w1 ⟨rfl, hb2⟩
    rw [sndB_true HN.out]
    have hg1 := (hb2.block w.heap.size (by simp)).trans hg0
    have hbw : Below w.heap.size w w1 := hb1.trans (hb2.mono (by simp))
    have hz1 : w.heap.size < w1.heap.size := by have := hb2.size; simp at this; omega
    clear hb1 hb2 hg0
    have c0 := cell_heap hg1 0
    have c1 := cell_heap hg1 1
    have htop : w1.cell? ⟨b0, off + (rs.length - 1), none⟩ = some (.int .u32 (limb rs (rs.length - 1) : Nat)) := by
      rw [hbw.cell (p := ⟨b0, off + (rs.length - 1), none⟩) hb0]; exact HC.out _ (by omega)
    obtain ⟨T, hT⟩ : ∃ T, T = limb rs (rs.length - 1) := ⟨_, rfl⟩
    rw [← hT] at htop
    have htopA : (w1.alloc (.cells #[.pointer none, .slice none 0 0] 77)).cell? ⟨b0, off + (rs.length - 1), none⟩ = some (.int .u32 (T : Nat)) := by
      rw [(below1 w1 _).cell (p := ⟨b0, off + (rs.length - 1), none⟩) (Nat.lt_trans hb0 hz1)]; exact htop
    have hTl : T < 1000000000 := by rw [hT]; exact HN.out.2.1 _
    have HTT := Lib.hid hT; clear hT
    have hI0 : Lib.IsBuilderF 77 5 w1.heap.size w1.heap.size (Lib.byteCells []) (w1.alloc (.cells #[.pointer none, .slice none 0 0] 77)) := bld_start w1
    have hB0 := below1 w1 (.cells #[.pointer none, .slice none 0 0] 77)
    have hz0 : w1.heap.size < (w1.alloc (.cells #[.pointer none, .slice none 0 0] 77)).heap.size := by simp
    cases neg
    go_wp2_with fail
    generalize hW : w1.alloc (.cells #[.pointer none, .slice none 0 0] 77) = W at *
    have hbW := hB0
    have hzW := hz0
    obtain ⟨pre, hpl, hI, hP⟩ : ∃ pre : List UInt8, pre.length ≤ 1 ∧ Lib.IsBuilderF 77 5 w1.heap.size w1.heap.size (Lib.byteCells pre) W ∧ full = pre ++ (Lib.itoa (T : Nat) ++ txtLow rs (rs.length - 1)) :=
      ⟨[], by simp, hI0, by rw [HF.out, HTT.out]; unfold txt; rw [if_neg HE.out]; rfl⟩
    clear hW
    rotate_left
    go_wp2_with fail
    generalize hW : w1.alloc (.cells #[.pointer none, .slice none 0 0] 77) = W0 at *
    refine ((bld_byte w1.heap.size w1.heap.size _ 45 W0 hI0 (by simp [Lib.byteCells]) (by omega)).mono ?_)
    rintro e W ⟨rfl, hA1, hB1, _⟩
    have hbW := hB0.trans hB1
    have hzW : w1.heap.size < W.heap.size := Nat.lt_of_lt_of_le hz0 hB1.size
    obtain ⟨pre, hpl, hI, hP⟩ : ∃ pre : List UInt8, pre.length ≤ 1 ∧ Lib.IsBuilderF 77 5 w1.heap.size w1.heap.size (Lib.byteCells pre) W ∧ full = pre ++ (Lib.itoa (T : Nat) ++ txtLow rs (rs.length - 1)) :=
      ⟨[45], by simp, .inr hA1, by rw [HF.out, HTT.out]; unfold txt; rw [if_neg HE.out]; rfl⟩
    have hgW0 : W.heap[w.heap.size]? = w1.heap[w.heap.size]? := hbW.block _ hz1
    rw [hg1] at hgW0
    have d0 := cell_heap hgW0 0
    have d1 := cell_heap hgW0 1
    have dt : W.cell? ⟨b0, off + (rs.length - 1), none⟩ = some (.int .u32 (T : Nat)) := by
      rw [hbW.cell (p := ⟨b0, off + (rs.length - 1), none⟩) (Nat.lt_trans hb0 hz1)]; exact htop
    clear hW hA1 hgW0
    go_wp2_with fail
    clear d0 d1 dt hB1
    all_goals
      have HI := Lib.hid hI
      have HP := Lib.hid hP
      clear hI hP
      have hgW : W.heap[w.heap.size]? = w1.heap[w.heap.size]? := hbW.block _ hz1
      rw [hg1] at hgW
      have hb2 : Below w.heap.size w W := hbw.trans (hbW.mono (by omega))
      clear c0 c1 htop htopA hI0 hB0 hz0
      refine (itoa_call (T : Nat) W (by omega) (by omega) (HT.out.below hb2)).mono ?_
      rintro e w3 ⟨rfl, hb3⟩
      have HI3 := isB_below HI.out hb3
      have hg3 : w3.heap[w.heap.size]? = W.heap[w.heap.size]? := hb3.block _ (by omega)
      rw [hgW] at hg3
      have hb3' : Below w.heap.size w w3 := hb2.trans (hb3.mono (by omega))
      have hz3 : w1.heap.size < w3.heap.size := Nat.lt_of_lt_of_le hzW hb3.size
      have hb13 : Below w1.heap.size w1 w3 := hbW.trans (hb3.mono (by omega))
      have hsl : (Lib.itoa (T : Nat)).length ≤ 21 := Lib.itoa_length_le _ (by omega) (by omega)
      obtain ⟨s1, hs1⟩ : ∃ s1 : ByteArray, s1 = ⟨(Lib.itoa (T : Nat)).toArray⟩ := ⟨_, rfl⟩
      rw [← hs1]
      have hs2 : Lib.strCells s1 = Lib.byteCells (Lib.itoa (T : Nat)) := by rw [hs1]; rfl
      have hs3 : s1.size ≤ 21 := by rw [hs1]; exact hsl
      have HS2 := Lib.hid hs2
      clear hs1 hs2 hb3 hbW hgW HI
      go_wp2_with fail
      refine (bld_string w1.heap.size w1.heap.size (Lib.byteCells pre) s1 w3 HI3 (by rw [Lib.byteCells_length]; omega) (by omega)).mono ?_
      rintro e w4 ⟨rfl, hA4, hb4, hk4⟩
      rw [HS2.out] at hA4
      have hA5 : Lib.IsBuilderF 77 5 w1.heap.size w1.heap.size (Lib.byteCells (pre ++ Lib.itoa (T : Nat))) w4 := .inr (by rw [show Lib.byteCells (pre ++ Lib.itoa (T : Nat)) = Lib.byteCells pre ++ Lib.byteCells (Lib.itoa (T : Nat)) by simp [Lib.byteCells]]; exact hA4)
      have HA5 := Lib.hid hA5
      have hg4 : w4.heap[w.heap.size]? = w3.heap[w.heap.size]? := hb4.block _ hz1
      rw [hg3] at hg4
      have hz4 : w1.heap.size < w4.heap.size := Nat.lt_of_lt_of_le hz3 hb4.size
      have hb14 : Below w1.heap.size w1 w4 := hb13.trans hb4
      have c40 := cell_heap hg4 0
      have c41 := cell_heap hg4 1
      clear hA5 hA4 hk4 hb4 HI3 hg3 hb13 hg4
      go_wp2_with fail
      refine (look_any _ _ _ _).mono ?_
      rintro e w5 ⟨rfl, rfl⟩
      have hC : (w4.alloc (.cells #[.slice (some ⟨b0, off, none⟩) rs.length cap] 22)).heap[w4.heap.size]? = some (.cells #[.slice (some ⟨b0, off, none⟩) rs.length cap] 22 (0, 0)) := heap_alloc_new w4 _
      have hI5 : Lib.IsBuilderF 77 5 w1.heap.size w1.heap.size (Lib.byteCells (pre ++ Lib.itoa (T : Nat))) (w4.alloc (.cells #[.slice (some ⟨b0, off, none⟩) rs.length cap] 22)) := HA5.out.alloc _
      have hb15 : Below w1.heap.size w1 (w4.alloc (.cells #[.slice (some ⟨b0, off, none⟩) rs.length cap] 22)) := hb14.alloc (by omega) _
      have hz5 : w1.heap.size < (w4.alloc (.cells #[.slice (some ⟨b0, off, none⟩) rs.length cap] 22)).heap.size := by simp; omega
      obtain ⟨c, hc⟩ : ∃ c, c = w4.heap.size := ⟨_, rfl⟩
      rw [← hc] at hC
      rw [show Value.func (.func 91) #[] #[.pointer (some ⟨w4.heap.size, 0, none⟩)] = Value.func (.func 91) #[] #[.pointer (some ⟨c, 0, none⟩)] by rw [hc]]
      have hcB : w1.heap.size < c := by omega
      clear c40 c41
      generalize (w4.alloc (.cells #[.slice (some ⟨b0, off, none⟩) rs.length cap] 22)) = w6 at *
      clear hc
      go_wp2_with fail
      go_loopw [6] (fun i wr => ∃ (k : Nat) (bs : List UInt8), k ≤ rs.length - 1 ∧ i = .int .i64 ((k : Int) - 1) ∧ Lib.IsBuilderF 77 5 w1.heap.size w1.heap.size (Lib.byteCells bs) wr ∧ bs ++ txtLow rs k = full ∧ bs.length ≤ 22 + 30 * (64 - k) ∧ wr.heap[c]? = some (.cells #[.slice (some ⟨b0, off, none⟩) rs.length cap] 22 (0, 0)) ∧ Below w1.heap.size w1 wr ∧ w1.heap.size < wr.heap.size) (fun i _ => (intOf i + 1).toNat)
      case atStart => exact ⟨rs.length - 1, pre ++ Lib.itoa (T : Nat), Nat.le_refl _, by go_num, hI5, by rw [HP.out, List.append_assoc], by rw [List.length_append]; omega, hC, hb15, hz5⟩
      case round =>
        clear hC hI5 hb15
        obtain ⟨k, bs, hk, rfl, hIr, hbs, hbl, hC, hbr, hzr⟩ := hrel
        have HBS := Lib.hid hbs; clear hbs
        rcases (by omega : k = 0 ∨ 1 ≤ k) with h0 | h1
        · subst h0
          have HBS2 : Hid (bs = full) := Lib.hid (by have := HBS.out; rw [txtLow, List.append_nil] at this; exact this)
          go_wp2_with fail
          refine (Tryz.Builder_String_any_k w1.heap.size w1.heap.size bs wr hIr (by omega)).mono ?_
          rintro e w7 ⟨rfl, _, hb7, _⟩
          rw [HBS2.out]
          go_wp2
          go_ret
          exact ⟨rfl, hbw.trans ((hbr.trans hb7).mono (by omega))⟩
        · have hkk : ((k : Int) - 1).toNat = k - 1 := by omega
          have hD : limb rs (k - 1) < 1000000000 := HN.out.2.1 _
          have hcell := cell_heap hC 0
          have HC2 := Lib.hid hC; clear hC
          go_wp2_with fail
          refine (look1_int c ((k : Int) - 1) _ rs wr (by omega) (by omega) hcell (HS.out.below (hbw.trans (hbr.mono (by omega)))) HN.out.2.1.wide).mono ?_
          rintro e w7 ⟨rfl, rfl⟩
          rw [hkk]
          clear hkk
          go_wp2_with fail
          refine (itoa_call (1000000000 + (limb rs (k - 1) : Nat)) wr (by omega) (by omega) (HT.out.below (hbw.trans (hbr.mono (by omega))))).mono ?_
          rintro e w7 ⟨rfl, hb7⟩
          have hl2 : (Lib.itoa (1000000000 + (limb rs (k - 1) : Nat))).length ≤ 21 := Lib.itoa_length_le _ (by omega) (by omega)
          have hl3 : 1 ≤ (Lib.itoa (1000000000 + (limb rs (k - 1) : Nat))).length := by
            have e9 : (1000000000 : Int) + (limb rs (k - 1) : Nat) = ((1000000000 + limb rs (k - 1) : Nat) : Int) := by omega
            rw [e9, Lib.itoa_nonneg, Lib.decDigits_length]
            unfold Lib.nDigits; split <;> omega
          obtain ⟨s2, hs2⟩ : ∃ s2 : ByteArray, s2 = ⟨(Lib.itoa (1000000000 + (limb rs (k - 1) : Nat))).toArray⟩ := ⟨_, rfl⟩
          have hd2 : s2.data.toList = Lib.itoa (1000000000 + (limb rs (k - 1) : Nat)) := by rw [hs2]
          have hz2 : s2.size ≤ 21 := by rw [hs2]; exact hl2
          have hz2' : 1 ≤ s2.size := by rw [hs2]; exact hl3
          rw [← hs2]
          have HD2 := Lib.hid hd2
          clear hs2 hd2 hl2 hl3
          have hI7 := Lib.hid (isB_below hIr hb7)
          clear hIr
          have hx1 : Lib.strCells (s2.extract 1 s2.size) = Lib.byteCells ((Lib.itoa (1000000000 + (limb rs (k - 1) : Nat))).drop 1) := by
            unfold Lib.strCells Lib.byteCells
            rw [Lib.extract_to_end, HD2.out]
          have hx2 : (s2.extract 1 s2.size).size ≤ 21 := by rw [ByteArray.size_extract]; omega
          have hx3 : ((Lib.itoa (1000000000 + (limb rs (k - 1) : Nat))).drop 1).length ≤ 21 := by rw [List.length_drop, ← HD2.out]; exact Nat.le_trans (Nat.sub_le _ _) hz2
          have HX1 := Lib.hid hx1
          clear hx1
          go_wp2_with fail
          refine (bld_string w1.heap.size w1.heap.size (Lib.byteCells bs) (s2.extract 1 s2.size) w7 hI7.out (by rw [Lib.byteCells_length]; omega) (by have := hb7.size; omega)).mono ?_
          rintro e w8 ⟨rfl, hA8, hb8, hk8⟩
          rw [HX1.out] at hA8
          have hC7 : w7.heap[c]? = wr.heap[c]? := hb7.block c (Array.getElem?_eq_some_iff.1 HC2.out).1
          rw [HC2.out] at hC7
          have hC8 := hk8 c _ hC7 (by simp; omega) (by intro c' fz h; simp at h)
          have HC8 := Lib.hid hC8
          clear hC7 hC8 hk8 hcell
          go_wp2
          go_roundw
          case rel =>
            refine ⟨k - 1, bs ++ (Lib.itoa (1000000000 + (limb rs (k - 1) : Nat))).drop 1, by omega, by go_num, .inr ?_, ?_, by rw [List.length_append]; omega, HC8.out, (hbr.trans (hb7.mono (by omega))).trans hb8, Nat.lt_of_lt_of_le hzr (Nat.le_trans hb7.size hb8.size)⟩
            · rw [show Lib.byteCells (bs ++ (Lib.itoa (1000000000 + (limb rs (k - 1) : Nat))).drop 1) = Lib.byteCells bs ++ Lib.byteCells ((Lib.itoa (1000000000 + (limb rs (k - 1) : Nat))).drop 1) by simp [Lib.byteCells]]
              exact hA8
            · have := HBS.out
              obtain ⟨q, rfl⟩ : ∃ q, k = q + 1 := ⟨k - 1, by omega⟩
              rw [txtLow] at this
              rw [List.append_assoc]
              exact this
          case measure => simp only [intOf]; omega
end Go.Proofs.YtpahfhjgcflifaaGreatDoor
namespace Go.Proofs.YtpahfhjgcflifaaGreatDoor
open Go.RowKit

theorem dec_step {n : Nat} (h : 10 ≤ n) : Lib.decDigits n = Lib.decDigits (n / 10) ++ [UInt8.ofNat (48 + n % 10)] := by rw [Lib.decDigits, dif_neg (by omega)]
theorem dec_ne (n : Nat) : Lib.decDigits n ≠ [] := by
  rw [Lib.decDigits]; split <;> simp
theorem dec_pad : ∀ (k T l : Nat), 1 ≤ T → l < 10 ^ k → Lib.decDigits (T * 10 ^ k + l) = Lib.decDigits T ++ (Lib.decDigits (10 ^ k + l)).drop 1 := by
  intro k
  induction k with
  | zero =>
    intro T l hT hl
    have : l = 0 := by simpa using hl
    subst this
    have e : Lib.decDigits (10 ^ 0 + 0) = [UInt8.ofNat (48 + 1)] := Lib.decDigits_one (by omega)
    rw [e]
    simp
  | succ k ih =>
    intro T l hT hl
    have hp : 1 ≤ 10 ^ k := Nat.pow_pos (by omega)
    have e1 : 10 ^ (k + 1) = 10 * 10 ^ k := by rw [Nat.pow_succ, Nat.mul_comm]
    have e2 : T * 10 ^ (k + 1) = 10 * (T * 10 ^ k) := by rw [e1, Nat.mul_left_comm]
    have e3 : 1 ≤ T * 10 ^ k := Nat.mul_pos hT hp
    rw [e1] at hl
    rw [dec_step (n := T * 10 ^ (k + 1) + l) (by omega), dec_step (n := 10 ^ (k + 1) + l) (by omega)]
    have q1 : (T * 10 ^ (k + 1) + l) / 10 = T * 10 ^ k + l / 10 := by omega
    have q2 : (10 ^ (k + 1) + l) / 10 = 10 ^ k + l / 10 := by omega
    have q3 : (T * 10 ^ (k + 1) + l) % 10 = l % 10 := by omega
    have q4 : (10 ^ (k + 1) + l) % 10 = l % 10 := by omega
    rw [q1, q2, q3, q4, ih T (l / 10) hT (by omega)]
    have hne := dec_ne (10 ^ k + l / 10)
    obtain ⟨a, t, ht⟩ := List.exists_cons_of_ne_nil hne
    rw [ht]
    simp

theorem V_shift (f : Nat → Nat) (n : Nat) : V f (n + 1) = f 0 + 1000000000 * V (fun i => f (i + 1)) n := by
  induction n with
  | zero => simp [V]
  | succ n ih =>
    have e : V f (n + 1 + 1) = V f (n + 1) + f (n + 1) * 1000000000 ^ (n + 1) := rfl
    rw [e, ih]
    simp only [V]
    rw [Nat.pow_succ, Nat.mul_add]
    have : f (n + 1) * (1000000000 ^ n * 1000000000) = 1000000000 * (f (n + 1) * 1000000000 ^ n) := by rw [← Nat.mul_assoc, Nat.mul_comm]
    omega
/-- The number of the limbs from the i-th on. -/
def Hi (rs : List Nat) (i : Nat) : Nat := V (fun j => limb rs (i + j)) (rs.length - i)
theorem Hi_zero (rs : List Nat) : Hi rs 0 = val rs := by unfold Hi val; simp
theorem Hi_step {rs : List Nat} {i : Nat} (h : i < rs.length) : Hi rs i = limb rs i + 1000000000 * Hi rs (i + 1) := by
  obtain ⟨m, hm⟩ : ∃ m, rs.length - i = m + 1 := ⟨rs.length - i - 1, by omega⟩
  have hm2 : rs.length - (i + 1) = m := by omega
  unfold Hi
  rw [hm, hm2, V_shift]
  have e : (fun j => limb rs (i + (j + 1))) = fun j => limb rs (i + 1 + j) := by
    funext j; congr 1; omega
  rw [e]
  rfl
theorem Hi_top {rs : List Nat} (h : 1 ≤ rs.length) : Hi rs (rs.length - 1) = limb rs (rs.length - 1) := by
  unfold Hi
  have : rs.length - (rs.length - 1) = 1 := by omega
  rw [this]
  simp [V]
theorem Hi_pos {rs : List Nat} (h : 1 ≤ rs.length) (ht : limb rs (rs.length - 1) ≠ 0) : ∀ m i, rs.length - 1 - i = m → i ≤ rs.length - 1 → 1 ≤ Hi rs i := by
  intro m
  induction m with
  | zero =>
    intro i h1 h2
    obtain rfl : i = rs.length - 1 := by omega
    rw [Hi_top h]; omega
  | succ m ih =>
    intro i h1 h2
    rw [Hi_step (by omega)]
    have := ih (i + 1) (by omega) (by omega)
    omega
theorem txt_low {rs : List Nat} (hb : Lb rs) (h : 1 ≤ rs.length) (ht : limb rs (rs.length - 1) ≠ 0) : ∀ i, i ≤ rs.length - 1 → Lib.decDigits (Hi rs i) ++ txtLow rs i = Lib.decDigits (Hi rs 0) := by
  intro i
  induction i with
  | zero => intro _; simp [txtLow]
  | succ i ih =>
    intro hi
    rw [← ih (by omega)]
    simp only [txtLow]
    have e0 : (1000000000 : Int) + ((limb rs i : Nat) : Int) = ((1000000000 + limb rs i : Nat) : Int) := by omega
    rw [e0, Lib.itoa_nonneg, ← List.append_assoc]
    congr 1
    have hp := dec_pad 9 (Hi rs (i + 1)) (limb rs i) (Hi_pos h ht _ _ rfl hi) (hb i)
    have e1 : Hi rs (i + 1) * 10 ^ 9 + limb rs i = Hi rs i := by rw [Hi_step (show i < rs.length by omega)]; omega
    rw [e1] at hp
    exact hp.symm
/-- A number's text. -/
theorem txt_dec {neg : Bool} {rs : List Nat} (h : Snd neg rs) (hne : rs ≠ []) : txt neg rs = (if neg then [45] else []) ++ Lib.decDigits (val rs) := by
  have hl : 1 ≤ rs.length := List.length_pos_iff.2 hne
  have ht := h.2.2.2 hne
  unfold txt
  rw [if_neg hne, Lib.itoa_nonneg, ← Hi_top hl, txt_low h.2.1 hl ht _ (Nat.le_refl _), Hi_zero]

/-- Digits as a text, the highest first. -/
def revTxt (ds : List Nat) : List UInt8 := ds.reverse.map fun d => UInt8.ofNat (48 + d)
theorem D_cons (d : Nat) (ds : List Nat) (n : Nat) : D (limb (d :: ds)) (n + 1) = d + 10 * D (limb ds) n := by
  induction n with
  | zero => simp [D, limb]
  | succ n ih =>
    have e : D (limb (d :: ds)) (n + 1 + 1) = D (limb (d :: ds)) (n + 1) + limb (d :: ds) (n + 1) * 10 ^ (n + 1) := rfl
    have e2 : limb (d :: ds) (n + 1) = limb ds n := by simp [limb]
    rw [e, ih, e2]
    simp only [D]
    rw [Nat.pow_succ, Nat.mul_add]
    have : limb ds n * (10 ^ n * 10) = 10 * (limb ds n * 10 ^ n) := by rw [← Nat.mul_assoc, Nat.mul_comm]
    omega
theorem dval_cons (d : Nat) (ds : List Nat) : dval (d :: ds) = d + 10 * dval ds := by
  unfold dval
  exact D_cons d ds ds.length
theorem Db.tail {d : Nat} {ds : List Nat} (h : Db (d :: ds)) : d < 10 ∧ Db ds := by
  refine ⟨by have := h 0; simpa [limb] using this, fun i => ?_⟩
  have := h (i + 1)
  simpa [limb] using this
theorem Top.tail {d : Nat} {ds : List Nat} (h : Top (d :: ds)) : Top ds := by
  intro hne
  have := h (by simp)
  have hl : 0 < ds.length := List.length_pos_iff.2 hne
  obtain ⟨k, hk⟩ : ∃ k, ds.length = k + 1 := ⟨ds.length - 1, by omega⟩
  rw [hk]
  simp only [List.length_cons, hk] at this
  simpa [limb] using this
theorem revTxt_dec : ∀ (ds : List Nat), Db ds → Top ds → ds ≠ [] → revTxt ds = Lib.decDigits (dval ds) := by
  intro ds
  induction ds with
  | nil => intro _ _ h; exact absurd rfl h
  | cons d ds ih =>
    intro hb ht _
    obtain ⟨hd, hb'⟩ := hb.tail
    have ht' := ht.tail
    rw [dval_cons]
    by_cases hne : ds = []
    · subst hne
      have : dval [] = 0 := rfl
      rw [this, Nat.mul_zero, Nat.add_zero, Lib.decDigits_one hd]
      rfl
    · have h1 := ht'.le hne
      have h2 : 1 ≤ 10 ^ (ds.length - 1) := Nat.pow_pos (by omega)
      rw [dec_step (by omega)]
      have e1 : (d + 10 * dval ds) / 10 = dval ds := by omega
      have e2 : (d + 10 * dval ds) % 10 = d := by omega
      rw [e1, e2, ← ih hb' ht' hne]
      simp [revTxt]
theorem dig_len' {xs ds : List Nat} (hx : Lb xs) (hl : xs.length ≤ 64) (hb : Db ds) (ht : Top ds) (hv : dval ds = val xs) : ds.length < 1000000 := by
  obtain ⟨n, hn⟩ : ∃ n, n = 64 := ⟨_, rfl⟩
  rw [← hn] at hl
  have h1 : dval ds < 10 ^ (9 * n) := by
    rw [hv, pow9]
    exact Nat.lt_of_lt_of_le (val_lt hx) (Nat.pow_le_pow_right (by omega) hl)
  have := (ht.len hb).2 h1
  clear h1
  omega
theorem sl_at {k : IntKind} {w : World} {ao : Option Addr} {cap : Nat} {xs : List Nat} (h : Sl k w (.slice ao xs.length cap) xs) {j : Nat} (hj : j < xs.length) : ∃ b off, ao = some ⟨b, off, none⟩ ∧ b < w.heap.size ∧ w.cell? ⟨b, off + j, none⟩ = some (.int k ((limb xs j : Nat) : Int)) := by
  obtain ⟨_, ao', cap', hv, _, h⟩ := h
  simp only [Value.slice.injEq, true_and] at hv
  obtain ⟨rfl, rfl⟩ := hv
  rcases h with ⟨h, _⟩ | ⟨b, off, h1, h2, h3⟩
  · rw [h] at hj; simp at hj
  · exact ⟨b, off, h1, h2, h3 j hj⟩
end Go.Proofs.YtpahfhjgcflifaaGreatDoor
