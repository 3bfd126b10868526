/- UtfNames, walked -/
import Derived.Test.YtimmjamackjkiaaDoorName
import Derived.Test.YtimmjamackjkiaaDoorRName2
import Derived.Test.YtimmjamackjkiaaDoorRNameT
import Derived.Test.YtimmjamackjkiaaDoorUAns
namespace Go.Proofs.YtimmjamackjkiaaDoor
open Go.RowKit Go.Lib

/-- What a law is to answer. -/
def TrueN (w : World) (e : Ending) (w' : World) : Prop := e = .returned (.bool true) ∧ Below w.heap.size w w'
theorem nameA_by {n : Nat} (h : n ≤ 1114111) : By (nameA n) := by
  unfold nameA
  have hx : ∀ d, d < 16 → hexc d < 256 := fun d hd => by unfold hexc; split <;> omega
  (repeat' split) <;> first
    | exact wName_by _
    | exact encN_by h
    | (rename_i h1 h2
       intro i
       rcases i with _ | _ | _ | i
       · show (120 : Nat) < 256; omega
       · show hexc _ < 256; exact hx _ (by omega)
       · first
           | (show hexc _ < 256; exact hx _ (by omega))
           | (rw [limb_out (by simp)]; omega)
       · rw [limb_out (by simp)]; omega)
    | (rename_i h1
       intro i
       rcases i with _ | _ | i
       · show (120 : Nat) < 256; omega
       · show hexc _ < 256; exact hx _ (by omega)
       · rw [limb_out (by simp)]; omega)

/-- A character. -/
structure ScYes (c : Int) : Prop where
  ok : scB c = true

set_option maxRecDepth 100000 in
set_option maxHeartbeats 4000000 in
theorem names_any (c : Int) (s : ByteArray) (w : World) (ht : Tabs2 w) (hw : Words w) (hs : s.size ≤ 1048576) :
    Calls Tryd.prog 3 #[.int .i64 c, .string s] w (TrueN w) := by
  have HT := Lib.hid ht; clear ht
  have HW := Lib.hid hw; clear hw
  go_enter Tryd.func3, Tryd.ntmps3
  go_wp2_with fail
  refine (name_any c _ HW.out).mono ?_
  rintro e w1 ⟨hres1, hb1⟩
  have hB := hb1
  obtain ⟨nm, er, he1, hkind⟩ : ∃ nm er, e = .returned (.tuple #[.string nm, .int .i64 er]) ∧ ((ScYes c ∧ nm = mkB (nameA c.toNat) ∧ er = 0) ∨ (ScNo c ∧ nm = ⟨#[]⟩ ∧ er = 1)) := by
    rcases hres1 with ⟨h1, h2⟩ | ⟨h1, h2⟩
    · exact ⟨_, _, h2, .inl ⟨⟨h1⟩, rfl, rfl⟩⟩
    · exact ⟨_, _, h2, .inr ⟨⟨h1⟩, rfl, rfl⟩⟩
  subst he1
  have HK := Lib.hid hkind
  clear hkind hres1 hb1
  go_wp2_with fail
  refine (rname_any c _).mono ?_
  rintro e w2 ⟨hres2, hb2⟩
  have he2 : e = .returned (.tuple #[.string nm, .int .i64 er]) := by
    rcases hres2 with ⟨h1, h2⟩ | ⟨h1, h2⟩ <;> rcases HK.out with ⟨g1, rfl, rfl⟩ | ⟨g1, rfl, rfl⟩
    · exact h2
    · exact absurd (h1.symm.trans g1.ok) (by simp)
    · exact absurd (g1.ok.symm.trans h1) (by simp)
    · exact h2
  subst he2
  replace hB := hB.trans (hb2.mono hB.size)
  clear hres2 hb2
  go_wp2_with fail
  refine (named_any s _ (HT.out.below hB) (HW.out.below hB)).mono ?_
  rintro e w3 ⟨rfl, hb⟩
  replace hB := hB.trans (hb.mono hB.size)
  clear hb
  obtain ⟨o, ho⟩ : ∃ o, o = namedA (byt s) := ⟨_, rfl⟩
  have HO := Lib.hid ho
  rw [← ho]
  clear ho
  obtain ⟨kk, hkk⟩ : ∃ kk : Int, kk = ((o.getD 0 : Nat) : Int) := ⟨_, rfl⟩
  obtain ⟨ok, hok⟩ : ∃ ok : Bool, ok = o.isSome := ⟨_, rfl⟩
  rw [← hkk, ← hok]
  have HKK := Lib.hid hkk
  have HOK := Lib.hid hok
  clear hkk hok
  go_wp2_with fail
  refine (rnamed_any s _ (by omega)).mono ?_
  rintro e w4 ⟨he4, hb⟩
  rw [← HO.out, ← HKK.out, ← HOK.out] at he4
  subst he4
  replace hB := hB.trans (hb.mono hB.size)
  clear hb
  go_wp2_with fail
  refine (answers_any _ (HT.out.below hB).utf).mono ?_
  rintro e w5 ⟨rfl, hb⟩
  replace hB := hB.trans (hb.mono hB.size)
  clear hb
  have q1 : (nm.toList != nm.toList) = false := by simp
  have q2 : (er != er) = false := by simp
  have q3 : (kk != kk) = false := by simp
  have q4 : (ok != ok) = false := by simp
  rcases HK.out with ⟨hy, hnm, her⟩ | ⟨_, hnm, her⟩
  · have HNM := Lib.hid hnm
    clear hnm HK
    subst her
    obtain ⟨r0, r1⟩ := scB_range hy.ok
    obtain ⟨n, hn⟩ : ∃ n : Nat, c = (n : Int) := ⟨c.toNat, by omega⟩
    have hsc : scN n := by
      have h := hy.ok
      rw [hn, scB_nat] at h
      exact of_decide_eq_true h
    have HBY : Hid (namedA (byt nm) = some n) := Lib.hid (by
      rw [HNM.out, hn]
      show namedA (byt (mkB (nameA n))) = _
      rw [byt_mk (nameA_by (by omega)), named_name hsc])
    subst hn
    clear r0 r1 hsc hy
    go_wp2_with fail
    refine (named_any nm _ (HT.out.below hB) (HW.out.below hB)).mono ?_
    rintro e w6 ⟨he6, hb⟩
    rw [HBY.out] at he6
    subst he6
    replace hB := hB.trans (hb.mono hB.size)
    clear hb
    go_wp2_with fail
    go_ret
    exact ⟨by simp, hB⟩
  · clear HK hnm
    subst her
    go_wp2_with fail
    go_ret
    exact ⟨rfl, hB⟩
end Go.Proofs.YtimmjamackjkiaaDoor
