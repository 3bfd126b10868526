/- UtfEncodes, walked -/
import Derived.Test.YtmbhkhjoibibnaaDoorUREnc
import Derived.Test.YtmbhkhjoibibnaaDoorConv
namespace Go.Proofs.YtmbhkhjoibibnaaDoor
open Go.RowKit

theorem owns_emptyI (w : World) (e : TypeId) : (w.alloc (.cells #[] e)).ownsRow w.heap.size e 1 (.slice (some ⟨w.heap.size, 0, none⟩) 0 0) 0 [] := owns_empty w e
theorem encA_err (zs : List Int) : (encA zs).2 ≤ 1 := by unfold encA; split <;> simp

set_option maxRecDepth 100000 in
set_option maxHeartbeats 4000000 in
theorem encodes_any (sv : Value) (zs : List Int) (w : World) (hs : SlV w sv (intCells zs)) (ht : Tabs w) :
    Calls Tryd.prog 4 #[sv] w (TruePost w) := by
  obtain ⟨i0, hi, hz0, hz1, hz2⟩ := info_parts infoInt
  have HS := Lib.hid hs
  have HT := Lib.hid ht; clear ht
  obtain ⟨hm, ao, cap, rfl, hcap, h⟩ := hs
  have hlen := intCells_len zs
  clear h hm
  rcases (by omega : 5000 < zs.length ∨ zs.length ≤ 5000) with hl | hl
  · have hd : decide ((5000 : Int) < ((intCells zs).length : Int)) = true := by simp; omega
    clear hl hlen
    go_enter Tryd.func4, Tryd.ntmps4
    go_wp2_with fail
    refine (answers_any _ HT.out).mono ?_
    rintro e w4 ⟨rfl, hb4⟩
    go_wp2
    go_ret
    exact ⟨rfl, hb4⟩
  · have hd : decide ((5000 : Int) < ((intCells zs).length : Int)) = false := by simp; omega
    have hl5 : (intCells zs).length ≤ 5000 := by omega
    have HLEN := Lib.hid hlen; clear hlen
    have hb0 := below1 w (.cells #[] 3)
    have HO0 := Lib.hid (owns_empty w 3)
    have HS0 := Lib.hid (HS.out.below hb0)
    go_enter Tryd.func4, Tryd.ntmps4
    go_wp2_with (at_builtin; go_loud (refine wpList_append_slv rfl _ _ 23 rfl w.heap.size 3 i0 (.int .i64 0) 8 Tryd.underlying23 hi hz0 hz1 hz2 rfl _ 0 [] rfl HO0.out _ (intCells zs) (intCells_one zs) rfl HS0.out (by unfold maxLen; omega) (by omega) (by simp) ?_); intro v' w1 hown1 hgrow)
    have hb1 := grown_own hgrow HO0.out hb0 (Nat.le_refl _) hb0.size
    have hs1 : SlV w1 v' (intCells zs) := owns_slv (base := w.heap.size) (n := 0 + (intCells zs).length) (e := 3) hown1
    have HS1 := Lib.hid (HS.out.below hb1)
    clear hown1 hgrow HO0 HS0 hb0
    refine (encode_any v' zs w1 hs1 (by omega)).mono ?_
    rintro e w2 ⟨v2, rfl, hs2, hb2⟩
    replace hb2 := hb1.trans (hb2.mono hb1.size)
    have HS2 := Lib.hid hs2
    have HS3 := Lib.hid (HS.out.below hb2)
    clear hs1 hs2 hb1 HS1
    have he1 := encA_err zs
    obtain ⟨er, her⟩ : ∃ er, er = (encA zs).2 := ⟨_, rfl⟩
    rw [← her] at he1 ⊢
    have HER := Lib.hid her; clear her
    go_wp2_with fail
    refine (rencode_any _ zs w2 HS3.out (by omega)).mono ?_
    rintro e w3 ⟨v3, rfl, hs3, hb3⟩
    rw [← HER.out]
    replace HS2 := Lib.hid (HS2.out.below hb3)
    replace hb3 := hb2.trans (hb3.mono hb2.size)
    have HS4 := Lib.hid hs3
    clear hs3 hb2 HS3
    go_wp2_with fail
    refine (answers_any _ (HT.out.below hb3 (Nat.le_refl _))).mono ?_
    rintro e w4 ⟨rfl, hb4⟩
    replace HS2 := Lib.hid (HS2.out.below hb4)
    replace HS4 := Lib.hid (HS4.out.below hb4)
    replace hb4 := hb3.trans (hb4.mono hb3.size)
    clear hb3
    have k1 := conv_sl Tryd.underlying22 Tryd.underlying5 Tryd.underlying9 HS2.out
    have k2 := conv_sl Tryd.underlying22 Tryd.underlying5 Tryd.underlying9 HS4.out
    generalize strOf (encA zs).1 = S at *
    have hee : ((er : Int) == (er : Int)) = true := by simp
    go_wp2
    go_ret
    exact ⟨rfl, hb4⟩
end Go.Proofs.YtmbhkhjoibibnaaDoor
