/- num.Text -/
import Derived.Test.YtiekhjgfnmochaaDoorSound
import Derived.Test.YtiekhjgfnmochaaDoorBuild
import Derived.Test.YtiekhjgfnmochaaDoorShelf
import Derived.Lib.SmallJoins
import Derived.Lib.AppendIntMem
import Derived.Lib.ItoaLen
namespace Go.Proofs.YtiekhjgfnmochaaDoor
open Go.RowKit

/-- The lower limbs, nine digits each, the highest first. -/
def txtLow (rs : List Nat) : Nat → List UInt8
  | 0 => []
  | i + 1 => (Lib.itoa (1000000000 + (limb rs i : Nat))).drop 1 ++ txtLow rs i
def txt (neg : Bool) (rs : List Nat) : List UInt8 :=
  if rs = [] then [48] else (if neg then [45] else []) ++ (Lib.itoa (limb rs (rs.length - 1) : Nat) ++ txtLow rs (rs.length - 1))

def Pow10 (w : World) : Prop := Lib.TabIs Tryd.prog w "internal/strconv.uint64pow10" .u64 Lib.pow10Tab
theorem gPow10 : Tryd.prog.globalNamed "internal/strconv.uint64pow10" = some 0 := by kernel_rfl
theorem Pow10.below {w w' : World} (h : Pow10 w) (hb : Below w.heap.size w w') : Pow10 w' := Go.Joins.tab_stays gPow10 h hb (Nat.le_refl _)

/-- What Text answers. -/
def TextPost (l : List UInt8) (w : World) (e : Ending) (w' : World) : Prop := e = .returned (.string ⟨l.toArray⟩) ∧ Below w.heap.size w w'

theorem itoa_call (n : Int) (w : World) (h0 : -9223372036854775808 ≤ n) (h1 : n ≤ 9223372036854775807) (ht : Pow10 w) :
    Calls Tryd.prog 42 #[.int .i64 n] w fun e w' => e = .returned (.string ⟨(Lib.itoa n).toArray⟩) ∧ Below w.heap.size w w' :=
  (Tryd.strconv_Itoa n h0 h1 w ht).mono fun _ _ ⟨he, k, os, hw⟩ => ⟨he, by rw [hw]; exact Lib.below_grow _ _ (Nat.le_refl _) k os⟩

theorem isB_below {T e : TypeId} {B b : Nat} {bs : List Value} {w w' : World} (h : Lib.IsBuilderF T e B b bs w) (hb : Below w.heap.size w w') : Lib.IsBuilderF T e B b bs w' := by
  have hg : w.grownBy w' none := ⟨hb.os, hb.tape, hb.output, hb.size, fun k hk _ => hb.block k hk⟩
  have key : ∀ p, Lib.BuilderAtF T e B b p bs w → Lib.BuilderAtF T e B b p bs w' := by
    intro p ⟨hB, v, hv, hown, hne⟩
    have hlt : b < w.heap.size := (Array.getElem?_eq_some_iff.1 hv).1
    refine ⟨hB, v, by rw [hb.block b hlt]; exact hv, hown.kept hg ?_, hne⟩
    cases v.ownBlock <;> simp
  rcases h with h | h
  · exact .inl (key _ h)
  · exact .inr (key _ h)
theorem bld_start {T e : TypeId} (w : World) : Lib.IsBuilderF T e w.heap.size w.heap.size [] (w.alloc (.cells #[.pointer none, .slice none 0 0] T)) :=
  .inl ⟨Nat.le_refl _, .slice none 0 0, heap_alloc_new w _, World.ownsRowF_nil _ _ _ _, by simp [Value.ownBlock]⟩

set_option maxRecDepth 100000 in
set_option maxHeartbeats 2000000 in
theorem text_any (neg : Bool) (sv : Value) (rs : List Nat) (w : World) (hs : Sl .u32 w sv rs) (hsnd : Snd neg rs) (ht : Pow10 w) :
    Calls Tryd.prog 19 #[.agg #[.bool neg, sv]] w (TextPost (txt neg rs) w) := by
  have HS := Lib.hid hs
  obtain ⟨hm, ao, cap, rfl, hcap, h⟩ := hs
  unfold maxLen at hm
  have HN := Lib.hid hsnd; clear hsnd
  have HT := Lib.hid ht; clear ht
  have hb1 : Below w.heap.size w (w.alloc (.cells #[.bool neg, .slice ao rs.length cap] 24)) := below1 w _
  have hg0 : (w.alloc (.cells #[.bool neg, .slice ao rs.length cap] 24)).heap[w.heap.size]? = some (.cells #[.bool neg, .slice ao rs.length cap] 24 (0, 0)) := heap_alloc_new w _
  by_cases he : rs = []
  · subst he
    have HV := Lib.hid (show txt neg [] = [48] from rfl)
    go_enter Tryd.func19, Tryd.ntmps19
    go_wp2_with fail
    refine (sound_any neg _ [] _ (HS.out.below hb1) HN.out.2.1.wide).mono ?_
    rintro e w1 ⟨rfl, hb2⟩
    rw [sndB_true HN.out]
    have hg1 := (hb2.block w.heap.size (by simp)).trans hg0
    have c0 := cell_heap hg1 0
    have c1 := cell_heap hg1 1
    go_wp2
    go_ret
    exact ⟨by rw [HV.out]; rfl, hb1.trans (hb2.mono (by simp))⟩
  · have hpos : 1 ≤ rs.length := List.length_pos_iff.2 he
    have hl64 := HN.out.1
    rcases h with ⟨h, _⟩ | ⟨b0, off, rfl, hb0, hcell⟩
    · exact absurd h he
    have HC := Lib.hid hcell; clear hcell
    have HE := Lib.hid he; clear he
    have hfull : ∃ full, full = txt neg rs := ⟨_, rfl⟩
    obtain ⟨full, hfull⟩ := hfull
    rw [← hfull]
    have HF := Lib.hid hfull; clear hfull
    go_enter Tryd.func19, Tryd.ntmps19
    go_wp2_with fail
    refine (sound_any neg _ rs _ (HS.out.below hb1) HN.out.2.1.wide).mono ?_
    rintro e w1 ⟨rfl, hb2⟩
    rw [sndB_true HN.out]
    have hg1 := (hb2.block w.heap.size (by simp)).trans hg0
    have hbw : Below w.heap.size w w1 := hb1.trans (hb2.mono (by simp))
    have hz1 : w.heap.size < w1.heap.size := by have := hb2.size; simp at this; omega
    clear hb1 hb2 hg0
    have c0 := cell_heap hg1 0
    have c1 := cell_heap hg1 1
    have htop : w1.cell? ⟨b0, off + (rs.length - 1), none⟩ = some (.int .u32 (limb rs (rs.length - 1) : Nat)) := by
      rw [hbw.cell (p := ⟨b0, off + (rs.length - 1), none⟩) hb0]; exact HC.out _ (by omega)
    obtain ⟨T, hT⟩ : ∃ T, T = limb rs (rs.length - 1) := ⟨_, rfl⟩
    rw [← hT] at htop
    have htopA : (w1.alloc (.cells #[.pointer none, .slice none 0 0] 55)).cell? ⟨b0, off + (rs.length - 1), none⟩ = some (.int .u32 (T : Nat)) := by
      rw [(below1 w1 _).cell (p := ⟨b0, off + (rs.length - 1), none⟩) (Nat.lt_trans hb0 hz1)]; exact htop
    have hTl : T < 1000000000 := by rw [hT]; exact HN.out.2.1 _
    have HTT := Lib.hid hT; clear hT
    have hI0 : Lib.IsBuilderF 55 5 w1.heap.size w1.heap.size (Lib.byteCells []) (w1.alloc (.cells #[.pointer none, .slice none 0 0] 55)) := bld_start w1
    have hB0 := below1 w1 (.cells #[.pointer none, .slice none 0 0] 55)
    have hz0 : w1.heap.size < (w1.alloc (.cells #[.pointer none, .slice none 0 0] 55)).heap.size := by simp
    cases neg
    go_wp2_with fail
    generalize hW : w1.alloc (.cells #[.pointer none, .slice none 0 0] 55) = W at *
    have hbW := hB0
    have hzW := hz0
    obtain ⟨pre, hpl, hI, hP⟩ : ∃ pre : List UInt8, pre.length ≤ 1 ∧ Lib.IsBuilderF 55 5 w1.heap.size w1.heap.size (Lib.byteCells pre) W ∧ full = pre ++ (Lib.itoa (T : Nat) ++ txtLow rs (rs.length - 1)) :=
      ⟨[], by simp, hI0, by rw [HF.out, HTT.out]; unfold txt; rw [if_neg HE.out]; rfl⟩
    clear hW
    rotate_left
    go_wp2_with fail
    generalize hW : w1.alloc (.cells #[.pointer none, .slice none 0 0] 55) = W0 at *
    refine ((bld_byte w1.heap.size w1.heap.size _ 45 W0 hI0 (by simp [Lib.byteCells]) (by omega)).mono ?_)
    rintro e W ⟨rfl, hA1, hB1, _⟩
    have hbW := hB0.trans hB1
    have hzW : w1.heap.size < W.heap.size := Nat.lt_of_lt_of_le hz0 hB1.size
    obtain ⟨pre, hpl, hI, hP⟩ : ∃ pre : List UInt8, pre.length ≤ 1 ∧ Lib.IsBuilderF 55 5 w1.heap.size w1.heap.size (Lib.byteCells pre) W ∧ full = pre ++ (Lib.itoa (T : Nat) ++ txtLow rs (rs.length - 1)) :=
      ⟨[45], by simp, .inr hA1, by rw [HF.out, HTT.out]; unfold txt; rw [if_neg HE.out]; rfl⟩
    have hgW0 : W.heap[w.heap.size]? = w1.heap[w.heap.size]? := hbW.block _ hz1
    rw [hg1] at hgW0
    have d0 := cell_heap hgW0 0
    have d1 := cell_heap hgW0 1
    have dt : W.cell? ⟨b0, off + (rs.length - 1), none⟩ = some (.int .u32 (T : Nat)) := by
      rw [hbW.cell (p := ⟨b0, off + (rs.length - 1), none⟩) (Nat.lt_trans hb0 hz1)]; exact htop
    clear hW hA1 hgW0
    go_wp2_with fail
    clear d0 d1 dt hB1
    all_goals
      have HI := Lib.hid hI
      have HP := Lib.hid hP
      clear hI hP
      have hgW : W.heap[w.heap.size]? = w1.heap[w.heap.size]? := hbW.block _ hz1
      rw [hg1] at hgW
      have hb2 : Below w.heap.size w W := hbw.trans (hbW.mono (by omega))
      clear c0 c1 htop htopA hI0 hB0 hz0
      refine (itoa_call (T : Nat) W (by omega) (by omega) (HT.out.below hb2)).mono ?_
      rintro e w3 ⟨rfl, hb3⟩
      have HI3 := isB_below HI.out hb3
      have hg3 : w3.heap[w.heap.size]? = W.heap[w.heap.size]? := hb3.block _ (by omega)
      rw [hgW] at hg3
      have hb3' : Below w.heap.size w w3 := hb2.trans (hb3.mono (by omega))
      have hz3 : w1.heap.size < w3.heap.size := Nat.lt_of_lt_of_le hzW hb3.size
      have hb13 : Below w1.heap.size w1 w3 := hbW.trans (hb3.mono (by omega))
      have hsl : (Lib.itoa (T : Nat)).length ≤ 21 := Lib.itoa_length_le _ (by omega) (by omega)
      obtain ⟨s1, hs1⟩ : ∃ s1 : ByteArray, s1 = ⟨(Lib.itoa (T : Nat)).toArray⟩ := ⟨_, rfl⟩
      rw [← hs1]
      have hs2 : Lib.strCells s1 = Lib.byteCells (Lib.itoa (T : Nat)) := by rw [hs1]; rfl
      have hs3 : s1.size ≤ 21 := by rw [hs1]; exact hsl
      have HS2 := Lib.hid hs2
      clear hs1 hs2 hb3 hbW hgW HI
      go_wp2_with fail
      refine (bld_string w1.heap.size w1.heap.size (Lib.byteCells pre) s1 w3 HI3 (by rw [Lib.byteCells_length]; omega) (by omega)).mono ?_
      rintro e w4 ⟨rfl, hA4, hb4, hk4⟩
      rw [HS2.out] at hA4
      have hA5 : Lib.IsBuilderF 55 5 w1.heap.size w1.heap.size (Lib.byteCells (pre ++ Lib.itoa (T : Nat))) w4 := .inr (by rw [show Lib.byteCells (pre ++ Lib.itoa (T : Nat)) = Lib.byteCells pre ++ Lib.byteCells (Lib.itoa (T : Nat)) by simp [Lib.byteCells]]; exact hA4)
      have HA5 := Lib.hid hA5
      have hg4 : w4.heap[w.heap.size]? = w3.heap[w.heap.size]? := hb4.block _ hz1
      rw [hg3] at hg4
      have hz4 : w1.heap.size < w4.heap.size := Nat.lt_of_lt_of_le hz3 hb4.size
      have hb14 : Below w1.heap.size w1 w4 := hb13.trans hb4
      have c40 := cell_heap hg4 0
      have c41 := cell_heap hg4 1
      clear hA5 hA4 hk4 hb4 HI3 hg3 hb13 hg4
      go_wp2_with fail
      refine (look_any _ _ _ _).mono ?_
      rintro e w5 ⟨rfl, rfl⟩
      have hC : (w4.alloc (.cells #[.slice (some ⟨b0, off, none⟩) rs.length cap] 22)).heap[w4.heap.size]? = some (.cells #[.slice (some ⟨b0, off, none⟩) rs.length cap] 22 (0, 0)) := heap_alloc_new w4 _
      have hI5 : Lib.IsBuilderF 55 5 w1.heap.size w1.heap.size (Lib.byteCells (pre ++ Lib.itoa (T : Nat))) (w4.alloc (.cells #[.slice (some ⟨b0, off, none⟩) rs.length cap] 22)) := HA5.out.alloc _
      have hb15 : Below w1.heap.size w1 (w4.alloc (.cells #[.slice (some ⟨b0, off, none⟩) rs.length cap] 22)) := hb14.alloc (by omega) _
      have hz5 : w1.heap.size < (w4.alloc (.cells #[.slice (some ⟨b0, off, none⟩) rs.length cap] 22)).heap.size := by simp; omega
      obtain ⟨c, hc⟩ : ∃ c, c = w4.heap.size := ⟨_, rfl⟩
      rw [← hc] at hC
      rw [show Value.func (.func 59) #[] #[.pointer (some ⟨w4.heap.size, 0, none⟩)] = Value.func (.func 59) #[] #[.pointer (some ⟨c, 0, none⟩)] by rw [hc]]
      have hcB : w1.heap.size < c := by omega
      clear c40 c41
      generalize (w4.alloc (.cells #[.slice (some ⟨b0, off, none⟩) rs.length cap] 22)) = w6 at *
      clear hc
      go_wp2_with fail
      go_loopw [6] (fun i wr => ∃ (k : Nat) (bs : List UInt8), k ≤ rs.length - 1 ∧ i = .int .i64 ((k : Int) - 1) ∧ Lib.IsBuilderF 55 5 w1.heap.size w1.heap.size (Lib.byteCells bs) wr ∧ bs ++ txtLow rs k = full ∧ bs.length ≤ 22 + 30 * (64 - k) ∧ wr.heap[c]? = some (.cells #[.slice (some ⟨b0, off, none⟩) rs.length cap] 22 (0, 0)) ∧ Below w1.heap.size w1 wr ∧ w1.heap.size < wr.heap.size) (fun i _ => (intOf i + 1).toNat)
      case atStart => exact ⟨rs.length - 1, pre ++ Lib.itoa (T : Nat), Nat.le_refl _, by go_num, hI5, by rw [HP.out, List.append_assoc], by rw [List.length_append]; omega, hC, hb15, hz5⟩
      case round =>
        clear hC hI5 hb15
        obtain ⟨k, bs, hk, rfl, hIr, hbs, hbl, hC, hbr, hzr⟩ := hrel
        have HBS := Lib.hid hbs; clear hbs
        rcases (by omega : k = 0 ∨ 1 ≤ k) with h0 | h1
        · subst h0
          have HBS2 : Hid (bs = full) := Lib.hid (by have := HBS.out; rw [txtLow, List.append_nil] at this; exact this)
          go_wp2_with fail
          refine (Tryd.Builder_String_any_k w1.heap.size w1.heap.size bs wr hIr (by omega)).mono ?_
          rintro e w7 ⟨rfl, _, hb7, _⟩
          rw [HBS2.out]
          go_wp2
          go_ret
          exact ⟨rfl, hbw.trans ((hbr.trans hb7).mono (by omega))⟩
        · have hkk : ((k : Int) - 1).toNat = k - 1 := by omega
          have hD : limb rs (k - 1) < 1000000000 := HN.out.2.1 _
          have hcell := cell_heap hC 0
          have HC2 := Lib.hid hC; clear hC
          go_wp2_with fail
          refine (look1_int c ((k : Int) - 1) _ rs wr (by omega) (by omega) hcell (HS.out.below (hbw.trans (hbr.mono (by omega)))) HN.out.2.1.wide).mono ?_
          rintro e w7 ⟨rfl, rfl⟩
          rw [hkk]
          clear hkk
          go_wp2_with fail
          refine (itoa_call (1000000000 + (limb rs (k - 1) : Nat)) wr (by omega) (by omega) (HT.out.below (hbw.trans (hbr.mono (by omega))))).mono ?_
          rintro e w7 ⟨rfl, hb7⟩
          have hl2 : (Lib.itoa (1000000000 + (limb rs (k - 1) : Nat))).length ≤ 21 := Lib.itoa_length_le _ (by omega) (by omega)
          have hl3 : 1 ≤ (Lib.itoa (1000000000 + (limb rs (k - 1) : Nat))).length := by
            have e9 : (1000000000 : Int) + (limb rs (k - 1) : Nat) = ((1000000000 + limb rs (k - 1) : Nat) : Int) := by omega
            rw [e9, Lib.itoa_nonneg, Lib.decDigits_length]
            unfold Lib.nDigits; split <;> omega
          obtain ⟨s2, hs2⟩ : ∃ s2 : ByteArray, s2 = ⟨(Lib.itoa (1000000000 + (limb rs (k - 1) : Nat))).toArray⟩ := ⟨_, rfl⟩
          have hd2 : s2.data.toList = Lib.itoa (1000000000 + (limb rs (k - 1) : Nat)) := by rw [hs2]
          have hz2 : s2.size ≤ 21 := by rw [hs2]; exact hl2
          have hz2' : 1 ≤ s2.size := by rw [hs2]; exact hl3
          rw [← hs2]
          have HD2 := Lib.hid hd2
          clear hs2 hd2 hl2 hl3
          have hI7 := Lib.hid (isB_below hIr hb7)
          clear hIr
          have hx1 : Lib.strCells (s2.extract 1 s2.size) = Lib.byteCells ((Lib.itoa (1000000000 + (limb rs (k - 1) : Nat))).drop 1) := by
            unfold Lib.strCells Lib.byteCells
            rw [Lib.extract_to_end, HD2.out]
          have hx2 : (s2.extract 1 s2.size).size ≤ 21 := by rw [ByteArray.size_extract]; omega
          have hx3 : ((Lib.itoa (1000000000 + (limb rs (k - 1) : Nat))).drop 1).length ≤ 21 := by rw [List.length_drop, ← HD2.out]; exact Nat.le_trans (Nat.sub_le _ _) hz2
          have HX1 := Lib.hid hx1
          clear hx1
          go_wp2_with fail
          refine (bld_string w1.heap.size w1.heap.size (Lib.byteCells bs) (s2.extract 1 s2.size) w7 hI7.out (by rw [Lib.byteCells_length]; omega) (by have := hb7.size; omega)).mono ?_
          rintro e w8 ⟨rfl, hA8, hb8, hk8⟩
          rw [HX1.out] at hA8
          have hC7 : w7.heap[c]? = wr.heap[c]? := hb7.block c (Array.getElem?_eq_some_iff.1 HC2.out).1
          rw [HC2.out] at hC7
          have hC8 := hk8 c _ hC7 (by simp; omega) (by intro c' fz h; simp at h)
          have HC8 := Lib.hid hC8
          clear hC7 hC8 hk8 hcell
          go_wp2
          go_roundw
          case rel =>
            refine ⟨k - 1, bs ++ (Lib.itoa (1000000000 + (limb rs (k - 1) : Nat))).drop 1, by omega, by go_num, .inr ?_, ?_, by rw [List.length_append]; omega, HC8.out, (hbr.trans (hb7.mono (by omega))).trans hb8, Nat.lt_of_lt_of_le hzr (Nat.le_trans hb7.size hb8.size)⟩
            · rw [show Lib.byteCells (bs ++ (Lib.itoa (1000000000 + (limb rs (k - 1) : Nat))).drop 1) = Lib.byteCells bs ++ Lib.byteCells ((Lib.itoa (1000000000 + (limb rs (k - 1) : Nat))).drop 1) by simp [Lib.byteCells]]
              exact hA8
            · have := HBS.out
              obtain ⟨q, rfl⟩ : ∃ q, k = q + 1 := ⟨k - 1, by omega⟩
              rw [txtLow] at this
              rw [List.append_assoc]
              exact this
          case measure => simp only [intOf]; omega
end Go.Proofs.YtiekhjgfnmochaaDoor
