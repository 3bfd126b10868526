/- ref.Text, and num.Text of any number -/
import Derived.Test.YtommakdomnaclaaDoorTxtMath
import Derived.Test.YtommakdomnaclaaDoorConv
import Derived.Test.YtommakdomnaclaaDoorRDigits
import Derived.Test.YtommakdomnaclaaDoorAns
import Derived.Test.YtommakdomnaclaaDoorRSound
import Derived.Test.YtommakdomnaclaaDoorApp
namespace Go.Proofs.YtommakdomnaclaaDoor
open Go.RowKit

open Classical in
/-- A number's text, or none. -/
noncomputable def txtA (neg : Bool) (rs : List Nat) : List UInt8 := if Snd neg rs then txt neg rs else []
theorem txtA_snd {neg : Bool} {rs : List Nat} (h : Snd neg rs) : txtA neg rs = txt neg rs := by unfold txtA; rw [if_pos h]
theorem txtA_not {neg : Bool} {rs : List Nat} (h : ¬ Snd neg rs) : txtA neg rs = [] := by unfold txtA; rw [if_neg h]

/-- What is written when the digits from the k-th on have been. -/
def pre (neg : Bool) : List Nat := if neg then [45] else []
def outTxt (neg : Bool) (ds : List Nat) (k : Nat) : List Nat := pre neg ++ ((ds.drop k).reverse.map fun d => 48 + d)
theorem outTxt_start (neg : Bool) (ds : List Nat) : outTxt neg ds ds.length = pre neg := by unfold outTxt; simp
theorem outTxt_step (neg : Bool) {ds : List Nat} {k : Nat} (h : k < ds.length) : outTxt neg ds k = outTxt neg ds (k + 1) ++ [48 + limb ds k] := by
  unfold outTxt
  have e : ds.drop k = limb ds k :: ds.drop (k + 1) := by rw [limb_lt h]; exact List.drop_eq_getElem_cons h
  rw [e]
  simp
theorem outTxt_len (neg : Bool) (ds : List Nat) (k : Nat) : (outTxt neg ds k).length ≤ 1 + (ds.length - k) := by
  unfold outTxt pre
  split <;> simp <;> omega
theorem outTxt_done (neg : Bool) {rs ds : List Nat} (hs : Snd neg rs) (hb : Db ds) (ht : Top ds) (hv : dval ds = val rs) (hne : ds ≠ []) : strOf (outTxt neg ds 0) = ⟨(txt neg rs).toArray⟩ := by
  have hr : rs ≠ [] := by
    intro e
    subst e
    have h1 := ht.le hne
    have h2 : 1 ≤ 10 ^ (ds.length - 1) := Nat.pow_pos (by omega)
    have h3 : val [] = 0 := rfl
    omega
  rw [txt_dec hs hr, ← hv, ← revTxt_dec ds hb ht hne]
  unfold strOf outTxt pre revTxt
  congr 2
  cases neg <;> simp
theorem txt_zero {neg : Bool} {rs : List Nat} (hs : Snd neg rs) (h0 : val rs = 0) : txt neg rs = [48] := by
  have : rs = [] := Classical.byContradiction fun hne => by have := snd_pos hs hne; omega
  unfold txt
  rw [if_pos this]

set_option maxRecDepth 100000 in
set_option maxHeartbeats 2000000 in
theorem rtext_any (neg : Bool) (sv : Value) (rs : List Nat) (w : World) (hs : Sl .u32 w sv rs) (hx : ∀ i, limb rs i < 4294967296) :
    Calls Tryd.prog 20 #[.agg #[.bool neg, sv]] w (TextPost (txtA neg rs) w) := by
  obtain ⟨i0, hi, hz0, hz1, hz2⟩ := info_parts infoB
  have HS := Lib.hid hs
  obtain ⟨q1, ao, cap, rfl, hcap, q2⟩ := hs
  clear q1 q2
  have HX := Lib.hid hx; clear hx
  have hb1 := below1 w (.cells #[.bool neg, .slice ao rs.length cap] 24)
  have hg0 : (w.alloc (.cells #[.bool neg, .slice ao rs.length cap] 24)).heap[w.heap.size]? = some (.cells #[.bool neg, .slice ao rs.length cap] 24 (0, 0)) := heap_alloc_new w _
  by_cases g : Snd neg rs
  · have G := Lib.hid g; clear g
    have L1 := Lib.hid G.out.2.1
    have K1 := Lib.hid G.out.1
    have hl1 : rs.length < 1000000 := by have := G.out.1; omega
    rw [txtA_snd G.out]
    obtain ⟨full, hfull⟩ : ∃ full, full = txt neg rs := ⟨_, rfl⟩
    rw [← hfull]
    have HF := Lib.hid hfull; clear hfull
    go_enter Tryd.func20, Tryd.ntmps20
    go_wp2_with fail
    refine (rsound_any neg _ rs _ (HS.out.below hb1) HX.out).mono ?_
    rintro e w1 ⟨rfl, hb2⟩
    rw [sndB_true G.out]
    have hg1 := (hb2.block w.heap.size (by simp)).trans hg0
    have hbw : Below w.heap.size w w1 := hb1.trans (hb2.mono (by simp))
    have hz1' : w.heap.size < w1.heap.size := by have := hb2.size; simp at this; omega
    clear hb1 hb2 hg0
    have c0 := cell_heap hg1 0
    have c1 := cell_heap hg1 1
    go_wp2_with fail
    refine (digits_any neg _ rs _ (HS.out.below hbw) L1.out hl1).mono ?_
    rintro e w2 ⟨va, ds, rfl, hsa, hda, hta, hva, hb⟩
    have hg2 := (hb.block w.heap.size hz1').trans hg1
    replace hz1' := Nat.lt_of_lt_of_le hz1' hb.size
    replace hbw := hbw.trans (hb.mono hbw.size)
    clear hb hg1 c0 c1
    have c0 := cell_heap hg2 0
    have c1 := cell_heap hg2 1
    have hdl := dig_len' L1.out K1.out hda hta hva
    have HDA := Lib.hid hda
    have HTA := Lib.hid hta
    have HVA := Lib.hid hva
    clear hda hta hva
    by_cases hne : ds = []
    · subst hne
      have HFF := Lib.hid (HF.out.trans (txt_zero G.out (by rw [← HVA.out]; rfl)))
      obtain ⟨q1, ao2, cap2, rfl, q2, q3⟩ := hsa
      clear q1 q2 q3
      go_wp2
      go_ret
      exact ⟨by rw [HFF.out]; rfl, hbw⟩
    · have hpos : 1 ≤ ds.length := List.length_pos_iff.2 hne
      have HNE := Lib.hid hne; clear hne
      have HSA := Lib.hid hsa
      obtain ⟨q1, ao2, cap2, rfl, q2, q3⟩ := hsa
      clear q1 q2 q3
      have hp0 : (((ds.length : Nat) : Int) == 0) = false := by rw [beq_eq_false_iff_ne]; omega
      cases neg
      · have hown0 : w2.ownsRow w2.heap.size 5 1 (.slice none 0 0) (pre false).length (cellsOf .u8 (pre false)) := World.ownsRow_nil _ _ _ _
        have hbel0 := Below.refl w2.heap.size w2
        go_wp2_with fail
        go_loopw [4, 5] (fun v i wr => ∃ k : Nat, k ≤ ds.length ∧ i = .int .i64 ((k : Int) - 1) ∧ wr.ownsRow w2.heap.size 5 1 v (outTxt false ds k).length (cellsOf .u8 (outTxt false ds k)) ∧ Below w2.heap.size w2 wr) (fun _ i _ => (intOf i + 1).toNat)
        case atStart => exact ⟨ds.length, Nat.le_refl _, rfl, by rw [outTxt_start]; exact hown0, hbel0⟩
        case round =>
          clear hown0 hbel0
          obtain ⟨k, hk, rfl, hown, hbel⟩ := hrel
          rcases k with _ | k
          · have hsl := owns_sl hown
            have HK := Lib.hid (conv_sl Tryd.underlying44 Tryd.underlying5 Tryd.underlying9 hsl)
            have HO := Lib.hid (outTxt_done false G.out HDA.out HTA.out HVA.out HNE.out)
            clear hown
            obtain ⟨q1, ao3, cap3, rfl, q2, q3⟩ := hsl
            clear q1 q2 q3
            have hk := HK.out
            go_wp2
            go_ret
            exact ⟨by rw [HF.out, ← HO.out]; rfl, hbw.trans (hbel.mono hbw.size)⟩
          · have hdk := HDA.out k
            have hlen := outTxt_len false ds (k + 1)
            have HST := Lib.hid (outTxt_step false (ds := ds) (k := k) (by omega))
            obtain ⟨b2, o2, hao, hlt2, hc2⟩ := sl_at (HSA.out.below hbel) (show k < ds.length by omega)
            subst hao
            have hsz := hbel.size
            have hln : (outTxt false ds (k + 1)).length < 100000000 := by omega
            clear hlen
            go_wp2_with (at_builtin; go_loud (refine wpList_append_own _ rfl _ _ 44 rfl w2.heap.size 5 i0 (.int .u8 0) 1 1 Tryd.underlying44 hi hz0 hz1 hz2 rfl (by decide) _ (outTxt false ds (k + 1)).length (cellsOf .u8 (outTxt false ds (k + 1))) rfl (hown.alloc _) ⟨wr.heap.size, 0, none⟩ 1 1 [.int .u8 (48 + (limb ds k : Nat))] rfl (by simp) (cell_one_new _ _ _) (by intro u hu; rw [List.mem_singleton] at hu; subst hu; rfl) (by unfold maxLen; omega) (by omega) (by simp; omega) ?_); intro v' w4 hown1 hgrow hnil; clear hnil)
            go_roundw
            case rel =>
              have e1 : (cellsOf .u8 (outTxt false ds (k + 1)) ++ [.int .u8 (48 + (limb ds k : Nat))]) = cellsOf .u8 (outTxt false ds k) := by rw [HST.out, cellsOf_append]; simp [cellsOf]
              have e2 : (outTxt false ds (k + 1)).length + 1 = (outTxt false ds k).length := by rw [HST.out]; simp
              rw [e1, e2] at hown1
              have hlo := hown.lt
              have hgrow' : World.grownBy _ w4 (Value.ownBlock _) := hgrow
              exact ⟨k, by omega, by go_num, hown1, (hbel.alloc hsz _).grown hgrow' (by simp; omega) (fun k hk => (hlo k hk).1)⟩
            case measure => simp only [intOf]; omega
      · have hn0 : w2.ownsRow w2.heap.size 5 1 (.slice none 0 0) 0 [] := World.ownsRow_nil _ _ _ _
        go_wp2_with (at_builtin; go_loud (refine wpList_append_own _ rfl _ _ 44 rfl w2.heap.size 5 i0 (.int .u8 0) 1 1 Tryd.underlying44 hi hz0 hz1 hz2 rfl (by decide) _ 0 [] rfl (hn0.alloc _) ⟨w2.heap.size, 0, none⟩ 1 1 [.int .u8 45] rfl (by simp) (cell_one_new _ _ _) (by intro u hu; rw [List.mem_singleton] at hu; subst hu; rfl) (by unfold maxLen; omega) (by omega) (by simp) ?_); intro v3 w3 hown0 hgrow0 hnil0; clear hnil0)
        have hbel0 : Below w2.heap.size w2 w3 := (below1 w2 _).grown hgrow0 (by simp) (fun k hk => (hn0.lt k hk).1)
        replace hown0 : w3.ownsRow w2.heap.size 5 1 v3 (pre true).length (cellsOf .u8 (pre true)) := hown0
        clear hgrow0 hn0
        go_loopw [4, 5] (fun v i wr => ∃ k : Nat, k ≤ ds.length ∧ i = .int .i64 ((k : Int) - 1) ∧ wr.ownsRow w2.heap.size 5 1 v (outTxt true ds k).length (cellsOf .u8 (outTxt true ds k)) ∧ Below w2.heap.size w2 wr) (fun _ i _ => (intOf i + 1).toNat)
        case atStart => exact ⟨ds.length, Nat.le_refl _, rfl, by rw [outTxt_start]; exact hown0, hbel0⟩
        case round =>
          clear hown0 hbel0
          obtain ⟨k, hk, rfl, hown, hbel⟩ := hrel
          rcases k with _ | k
          · have hsl := owns_sl hown
            have HK := Lib.hid (conv_sl Tryd.underlying44 Tryd.underlying5 Tryd.underlying9 hsl)
            have HO := Lib.hid (outTxt_done true G.out HDA.out HTA.out HVA.out HNE.out)
            clear hown
            obtain ⟨q1, ao3, cap3, rfl, q2, q3⟩ := hsl
            clear q1 q2 q3
            have hk := HK.out
            go_wp2
            go_ret
            exact ⟨by rw [HF.out, ← HO.out]; rfl, hbw.trans (hbel.mono hbw.size)⟩
          · have hdk := HDA.out k
            have hlen := outTxt_len true ds (k + 1)
            have HST := Lib.hid (outTxt_step true (ds := ds) (k := k) (by omega))
            obtain ⟨b2, o2, hao, hlt2, hc2⟩ := sl_at (HSA.out.below hbel) (show k < ds.length by omega)
            subst hao
            have hsz := hbel.size
            have hln : (outTxt true ds (k + 1)).length < 100000000 := by omega
            clear hlen
            go_wp2_with (at_builtin; go_loud (refine wpList_append_own _ rfl _ _ 44 rfl w2.heap.size 5 i0 (.int .u8 0) 1 1 Tryd.underlying44 hi hz0 hz1 hz2 rfl (by decide) _ (outTxt true ds (k + 1)).length (cellsOf .u8 (outTxt true ds (k + 1))) rfl (hown.alloc _) ⟨wr.heap.size, 0, none⟩ 1 1 [.int .u8 (48 + (limb ds k : Nat))] rfl (by simp) (cell_one_new _ _ _) (by intro u hu; rw [List.mem_singleton] at hu; subst hu; rfl) (by unfold maxLen; omega) (by omega) (by simp; omega) ?_); intro v' w4 hown1 hgrow hnil; clear hnil)
            go_roundw
            case rel =>
              have e1 : (cellsOf .u8 (outTxt true ds (k + 1)) ++ [.int .u8 (48 + (limb ds k : Nat))]) = cellsOf .u8 (outTxt true ds k) := by rw [HST.out, cellsOf_append]; simp [cellsOf]
              have e2 : (outTxt true ds (k + 1)).length + 1 = (outTxt true ds k).length := by rw [HST.out]; simp
              rw [e1, e2] at hown1
              have hlo := hown.lt
              have hgrow' : World.grownBy _ w4 (Value.ownBlock _) := hgrow
              exact ⟨k, by omega, by go_num, hown1, (hbel.alloc hsz _).grown hgrow' (by simp; omega) (fun k hk => (hlo k hk).1)⟩
            case measure => simp only [intOf]; omega
  · have G := Lib.hid g; clear g
    rw [txtA_not G.out]
    go_enter Tryd.func20, Tryd.ntmps20
    go_wp2_with fail
    refine (rsound_any neg _ rs _ (HS.out.below hb1) HX.out).mono ?_
    rintro e w1 ⟨rfl, hb2⟩
    rw [sndB_false G.out]
    go_wp2
    go_ret
    exact ⟨rfl, hb1.trans (hb2.mono (by simp))⟩
end Go.Proofs.YtommakdomnaclaaDoor
