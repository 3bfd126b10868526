/- (*scanner).next, until, take | (*scanner).skip, leaf -/
import Derived.Test.YtpahfhjgcflifaaGreatDoorTkSc
import Derived.Test.YtpahfhjgcflifaaGreatDoorTkMath
import Derived.Test.YtpahfhjgcflifaaGreatDoorUDec
import Derived.Deep.RegionHeld3
namespace Go.Proofs.YtpahfhjgcflifaaGreatDoor
open Go.RowKit

/-- What next answers: the character, one place on; or a panic at the end. -/
def NextPost (g : Nat) (sv : Value) (cs : List Nat) (f a : Nat) (w : World) (e : Ending) (w' : World) : Prop :=
  (a < cs.length ∧ e = .returned (.int .i64 ((limb cs a : Nat) : Int)) ∧ Sc w' g sv cs f (a + 1) ∧ Ks g w w') ∨ (a = cs.length ∧ e = .panicked (flt f) ∧ Ks g w w')

set_option maxRecDepth 100000 in
set_option maxHeartbeats 1000000 in
theorem next_any (g : Nat) (sv : Value) (cs : List Nat) (f a : Nat) (w : World) (hs : Sc w g sv cs f a) :
    Calls Tryz.prog 117 #[.pointer (some ⟨g, 0, none⟩)] w (NextPost g sv cs f a w) := by
  have HS := Lib.hid hs
  obtain ⟨ao, cap, rfl, hcap, hcell⟩ := hs.open'
  obtain ⟨c0, c1, c2, f1, f2⟩ := hs.box.facts
  have hlen := hs.small
  rcases Nat.lt_or_eq_of_le hs.le with hlt | heq
  · obtain ⟨b, off, rfl, hc⟩ := hcell a hlt
    have hbg : ¬ b = g := fun e => hs.apart (by intro h; rw [h] at hlt; simp at hlt) (by rw [e]; rfl)
    have hne : ((a : Int) == (cs.length : Int)) = false := by rw [beq_eq_false_iff_ne]; omega
    have hk := (Ks.refl g w)
    clear hs hcell
    go_enter Tryz.func117, Tryz.ntmps117
    go_wp2_with fail
    go_quiet (fail)
    go_wp2_with fail
    go_quiet (fail)
    go_wp2_with fail
    go_ret
    exact .inl ⟨hlt, rfl, ((HS.out.drewN _).setAt (a + 1) (by omega) (by omega)).drewN _, (((Ks.refl g w).drewN _).set 2 _).drewN _⟩
  · have hne : ((a : Int) == (cs.length : Int)) = true := by rw [beq_iff_eq]; omega
    clear hs hcell
    go_enter Tryz.func117, Tryz.ntmps117
    go_wp2_with fail
    go_quiet (fail)
    go_wp2_with fail
    exact ⟨rfl, .inr ⟨rfl, rfl, (Ks.refl g w).drewN _⟩⟩

/-- What until does: the scanner stands where p holds, or at the end. -/
def UntilPost (p : Nat → Bool) (g : Nat) (sv : Value) (cs : List Nat) (f a : Nat) (w : World) (e : Ending) (w' : World) : Prop :=
  e = .returned (.tuple #[]) ∧ Sc w' g sv cs f (til p cs a) ∧ Ks g w w'

set_option maxRecDepth 100000 in
set_option maxHeartbeats 2000000 in
theorem until_ends (p : Nat → Bool) (hp : ∀ (c : Nat) (w : World), Calls Tryz.prog 115 #[.int .i64 (c : Nat)] w fun e w' => e = .returned (.bool (p c)) ∧ w' = w) (g : Nat) (sv : Value) (cs : List Nat) (f a : Nat) (w : World) (hs : Sc w g sv cs f a) :
    Calls Tryz.prog 97 #[.pointer (some ⟨g, 0, none⟩), .func (.func 115) #[] #[]] w (UntilPost p g sv cs f a w) := by
  have HP := Lib.hid hp; clear hp
  have HS0 := Lib.hid hs
  obtain ⟨ao, cap, rfl, hcap, hcell0⟩ := hs.open'
  have hlen := hs.small
  clear hs hcell0
  go_enter Tryz.func97, Tryz.ntmps97
  go_wp2_with fail
  go_loopg [4] (cs.length - a) (fun gk _ wr => ∃ a', Sc wr g (.slice ao cs.length cap) cs f a' ∧ til p cs a' = til p cs a ∧ Ks g w wr ∧ cs.length - a' ≤ gk)
  case atStart => exact ⟨a, HS0.out, rfl, Ks.refl _ _, Nat.le_refl _⟩
  case round =>
    obtain ⟨a', hsc, htil, hks, hm⟩ := hrel
    have HSC := Lib.hid hsc
    obtain ⟨c0, c1, c2, f1, f2⟩ := hsc.box.facts
    have hle := hsc.le
    have HT := Lib.hid htil
    have HK := Lib.hid hks
    rcases Nat.lt_or_eq_of_le hle with hlt | heq
    · obtain ⟨ao', cap', he, _, hcell⟩ := hsc.open'
      obtain ⟨b, off, hao, hc⟩ := hcell a' hlt
      simp only [Value.slice.injEq, true_and] at he
      obtain ⟨rfl, rfl⟩ := he
      subst hao
      have hlt' : (a' : Int) < (cs.length : Int) := by omega
      clear hsc htil hks hcell
      cases hpc : p (limb cs a') with
      | true =>
        have hcall := HP.out (limb cs a')
        rw [hpc] at hcall
        have HCALL := Lib.hid hcall; clear hcall
        have HPC := Lib.hid hpc; clear hpc
        go_wp2_with fail
        go_quiet ((with_reducible exact Calls.quiet_of_same (HCALL.out _)))
        go_wp2_with fail
        go_end0
        exact ⟨rfl, by rw [← HT.out, til_stop hlt HPC.out]; exact HSC.out.drewN _, HK.out.drewN _⟩
      | false =>
        have hcall := HP.out (limb cs a')
        rw [hpc] at hcall
        have HCALL := Lib.hid hcall; clear hcall
        have HPC := Lib.hid hpc; clear hpc
        go_wp2_with fail
        go_quiet ((with_reducible exact Calls.quiet_of_same (HCALL.out _)))
        go_wp2_with fail
        go_roundg (cs.length - (a' + 1))
        case measure => omega
        case rel => exact ⟨a' + 1, (HSC.out.drewN _).setAt (a' + 1) (by omega) (by omega), by rw [← HT.out, til_step hlt HPC.out], (HK.out.drewN _).set 2 _, Nat.le_refl _⟩
    · have hlt' : ¬ (a' : Int) < (cs.length : Int) := by omega
      clear hsc htil hks
      go_wp2_with fail
      go_quiet (fail)
      go_wp2_with fail
      go_end0
      exact ⟨rfl, by rw [← HT.out, til_end (by omega)]; exact HSC.out.drewN _, HK.out.drewN _⟩
set_option maxRecDepth 100000 in
theorem skipnl_any (c : Nat) (w : World) : Calls Tryz.prog 98 #[.int .i64 (c : Nat)] w fun e w' => e = .returned (.bool (c == 10)) ∧ w' = w := by
  have hv : (((c : Int)) == 10) = (c == 10) := by rw [Bool.eq_iff_iff]; simp only [beq_iff_eq]; omega
  go_enter Tryz.func98, Tryz.ntmps98
  go_wp2
  go_ret
  exact ⟨rfl, rfl⟩

set_option maxRecDepth 100000 in
set_option maxHeartbeats 2000000 in
theorem until_nl (p : Nat → Bool) (hp : ∀ (c : Nat) (w : World), Calls Tryz.prog 98 #[.int .i64 (c : Nat)] w fun e w' => e = .returned (.bool (p c)) ∧ w' = w) (g : Nat) (sv : Value) (cs : List Nat) (f a : Nat) (w : World) (hs : Sc w g sv cs f a) :
    Calls Tryz.prog 97 #[.pointer (some ⟨g, 0, none⟩), .func (.func 98) #[] #[]] w (UntilPost p g sv cs f a w) := by
  have HP := Lib.hid hp; clear hp
  have HS0 := Lib.hid hs
  obtain ⟨ao, cap, rfl, hcap, hcell0⟩ := hs.open'
  have hlen := hs.small
  clear hs hcell0
  go_enter Tryz.func97, Tryz.ntmps97
  go_wp2_with fail
  go_loopg [4] (cs.length - a) (fun gk _ wr => ∃ a', Sc wr g (.slice ao cs.length cap) cs f a' ∧ til p cs a' = til p cs a ∧ Ks g w wr ∧ cs.length - a' ≤ gk)
  case atStart => exact ⟨a, HS0.out, rfl, Ks.refl _ _, Nat.le_refl _⟩
  case round =>
    obtain ⟨a', hsc, htil, hks, hm⟩ := hrel
    have HSC := Lib.hid hsc
    obtain ⟨c0, c1, c2, f1, f2⟩ := hsc.box.facts
    have hle := hsc.le
    have HT := Lib.hid htil
    have HK := Lib.hid hks
    rcases Nat.lt_or_eq_of_le hle with hlt | heq
    · obtain ⟨ao', cap', he, _, hcell⟩ := hsc.open'
      obtain ⟨b, off, hao, hc⟩ := hcell a' hlt
      simp only [Value.slice.injEq, true_and] at he
      obtain ⟨rfl, rfl⟩ := he
      subst hao
      have hlt' : (a' : Int) < (cs.length : Int) := by omega
      clear hsc htil hks hcell
      cases hpc : p (limb cs a') with
      | true =>
        have hcall := HP.out (limb cs a')
        rw [hpc] at hcall
        have HCALL := Lib.hid hcall; clear hcall
        have HPC := Lib.hid hpc; clear hpc
        go_wp2_with fail
        go_quiet ((with_reducible exact Calls.quiet_of_same (HCALL.out _)))
        go_wp2_with fail
        go_end0
        exact ⟨rfl, by rw [← HT.out, til_stop hlt HPC.out]; exact HSC.out.drewN _, HK.out.drewN _⟩
      | false =>
        have hcall := HP.out (limb cs a')
        rw [hpc] at hcall
        have HCALL := Lib.hid hcall; clear hcall
        have HPC := Lib.hid hpc; clear hpc
        go_wp2_with fail
        go_quiet ((with_reducible exact Calls.quiet_of_same (HCALL.out _)))
        go_wp2_with fail
        go_roundg (cs.length - (a' + 1))
        case measure => omega
        case rel => exact ⟨a' + 1, (HSC.out.drewN _).setAt (a' + 1) (by omega) (by omega), by rw [← HT.out, til_step hlt HPC.out], (HK.out.drewN _).set 2 _, Nat.le_refl _⟩
    · have hlt' : ¬ (a' : Int) < (cs.length : Int) := by omega
      clear hsc htil hks
      go_wp2_with fail
      go_quiet (fail)
      go_wp2_with fail
      go_end0
      exact ⟨rfl, by rw [← HT.out, til_end (by omega)]; exact HSC.out.drewN _, HK.out.drewN _⟩

/-- What take does. -/
def TakePost (t : List Nat) (g : Nat) (sv : Value) (cs : List Nat) (f a : Nat) (w : World) (e : Ending) (w' : World) : Prop :=
  e = .returned (.bool (pfx t cs a)) ∧ Sc w' g sv cs f (if pfx t cs a then a + t.length else a) ∧ Ks g w w'
theorem pfx_long {t cs : List Nat} {a : Nat} (ha : a ≤ cs.length) (h : cs.length < a + t.length) : pfx t cs a = false := by
  rw [Bool.eq_false_iff]
  intro hp
  rcases pfx_iff.1 hp with h1 | rfl
  · omega
  · simp at h; omega
theorem pfx_ne {t cs : List Nat} {a j : Nat} (hj : j < t.length) (h : limb cs (a + j) ≠ limb t j) : pfx t cs a = false := by
  rw [Bool.eq_false_iff]
  intro hp
  rcases pfx_iff.1 hp with h1 | rfl
  · exact h (h1.2 j hj)
  · simp at hj

set_option maxRecDepth 100000 in
set_option maxHeartbeats 2000000 in
theorem take_any (T : ByteArray) (t : List Nat) (hT : T.size = t.length) (ht : t.length ≤ 100) (hb : ∀ (j : Nat) (h : j < T.size), (T[j]'h).toNat = limb t j) (g : Nat) (sv : Value) (cs : List Nat) (f a : Nat) (w : World) (hs : Sc w g sv cs f a) :
    Calls Tryz.prog 100 #[.pointer (some ⟨g, 0, none⟩), .string T] w (TakePost t g sv cs f a w) := by
  have HS := Lib.hid hs
  have HB := Lib.hid hb; clear hb
  obtain ⟨ao, cap, rfl, hcap, hcell⟩ := hs.open'
  obtain ⟨c0, c1, c2, f1, f2⟩ := hs.box.facts
  have hlen := hs.small
  have hle := hs.le
  have HCELL := Lib.hid hcell; clear hcell hs
  rcases Nat.lt_or_ge cs.length (a + t.length) with hlt | hge
  · have HP := Lib.hid (pfx_long hle hlt)
    have hq : ((cs.length : Int) - (a : Int)) < ((T.size : Nat) : Int) := by omega
    clear hlt
    go_enter Tryz.func100, Tryz.ntmps100
    go_wp2_with fail
    go_quiet (fail)
    go_wp2_with fail
    go_ret
    unfold TakePost
    rw [HP.out]
    exact ⟨rfl, HS.out.drewN _, (Ks.refl g w).drewN _⟩
  · have hq : ¬ ((cs.length : Int) - (a : Int)) < ((T.size : Nat) : Int) := by omega
    go_enter Tryz.func100, Tryz.ntmps100
    go_wp2_with fail
    go_quiet (fail)
    go_wp2_with fail
    clear hq
    go_loopw [21] (fun i wr => ∃ k : Nat, i = .int .i64 (k : Nat) ∧ k ≤ T.size ∧ (∀ j, j < k → limb cs (a + j) = limb t j) ∧ ∃ m, wr = w.drewN m) (fun i _ => T.size - (intOf i).toNat)
    case atStart => exact ⟨0, rfl, by omega, fun j hj => by omega, _, rfl⟩
    case round =>
      obtain ⟨k, rfl, hk, hall, m, rfl⟩ := hrel
      have HA := Lib.hid hall; clear hall
      rcases Nat.lt_or_eq_of_le hk with hkt | hkt
      · obtain ⟨b, off, hao, hc⟩ := HCELL.out (a + k) (by omega)
        subst hao
        have hbt := HB.out k hkt
        have hka : ((a : Int) + (k : Int)) < (cs.length : Int) := by omega
        have hadd : ((a : Int) + (k : Int)).toNat = a + k := by omega
        have hka0 : 0 ≤ (a : Int) + (k : Int) := by omega
        have hlt256 : (T[k]'hkt).toNat < 256 := UInt8.toNat_lt _
        have hw : wrap64 (((T[k]'hkt).toNat : Nat) : Int) = ((limb t k : Nat) : Int) := by
          rw [hbt] at hlt256 ⊢
          unfold wrap64
          omega
        generalize hx : limb cs (a + k) = x at *
        generalize hy : limb t k = y at *
        have HX := Lib.hid hx
        have HY := Lib.hid hy
        clear hx hy
        by_cases hE : x = y
        · have HE := Lib.hid hE
          have hq : (((x : Nat) : Int) != ((y : Nat) : Int)) = false := by rw [hE]; simp
          clear hbt hE hlt256
          go_wp2_with fail
          go_quiet (fail)
          go_wp2_with fail
          refine ⟨⟨k + 1, by go_num, by omega, fun j hj => ?_, _, rfl⟩, by simp only [intOf]; omega⟩
          by_cases e : j = k
          · subst e; rw [HX.out, HY.out, HE.out]
          · exact HA.out j (by omega)
        · have HP := Lib.hid (pfx_ne (t := t) (cs := cs) (a := a) (j := k) (by omega) (by rw [HX.out, HY.out]; exact hE))
          have hq : (((x : Nat) : Int) != ((y : Nat) : Int)) = true := by rw [bne_iff_ne]; intro h; exact hE (by omega)
          clear hbt hE hlt256
          go_wp2_with fail
          go_quiet (fail)
          go_wp2_with fail
          go_ret
          unfold TakePost
          rw [HP.out]
          exact ⟨rfl, (HS.out.drewN _).drewN _, ((Ks.refl g w).drewN _).drewN _⟩
      · have hp : pfx t cs a = true := pfx_iff.2 (.inl ⟨hge, fun j hj => HA.out j (by omega)⟩)
        have HP := Lib.hid hp; clear hp
        have hkt' : ¬ (k : Int) < ((T.size : Nat) : Int) := by omega
        go_wp2_with fail
        go_ret
        unfold TakePost
        rw [HP.out]
        exact ⟨rfl, (HS.out.drewN _).setAt (a + t.length) (by omega) hge, ((Ks.refl g w).drewN _).set 2 _⟩
end Go.Proofs.YtpahfhjgcflifaaGreatDoor
namespace Go.Proofs.YtpahfhjgcflifaaGreatDoor
open Go.RowKit

/-- What skip does. -/
def SkipPost (g : Nat) (sv : Value) (cs : List Nat) (f a : Nat) (w : World) (e : Ending) (w' : World) : Prop :=
  e = .returned (.tuple #[]) ∧ Sc w' g sv cs f (skp cs a) ∧ Ks g w w'

set_option maxRecDepth 100000 in
set_option maxHeartbeats 2000000 in
theorem skip_any (g : Nat) (sv : Value) (cs : List Nat) (f a : Nat) (w : World) (hs : Sc w g sv cs f a) :
    Calls Tryz.prog 79 #[.pointer (some ⟨g, 0, none⟩)] w (SkipPost g sv cs f a w) := by
  have HS0 := Lib.hid hs
  obtain ⟨ao, cap, rfl, hcap, hcell0⟩ := hs.open'
  have hlen := hs.small
  clear hs hcell0
  go_enter Tryz.func79, Tryz.ntmps79
  go_wp2_with fail
  go_loopg [3] (cs.length - a) (fun gk _ wr => ∃ a', Sc wr g (.slice ao cs.length cap) cs f a' ∧ skp cs a' = skp cs a ∧ Ks g w wr ∧ cs.length - a' ≤ gk)
  case atStart => exact ⟨a, HS0.out, rfl, Ks.refl _ _, Nat.le_refl _⟩
  case round =>
    obtain ⟨a', hsc, htil, hks, hm⟩ := hrel
    have HSC := Lib.hid hsc
    obtain ⟨c0, c1, c2, f1, f2⟩ := hsc.box.facts
    have hle := hsc.le
    have HT := Lib.hid htil
    have HK := Lib.hid hks
    rcases Nat.lt_or_eq_of_le hle with hlt | heq
    · obtain ⟨ao', cap', he, _, hcell⟩ := hsc.open'
      obtain ⟨b, off, hao, hc⟩ := hcell a' hlt
      simp only [Value.slice.injEq, true_and] at he
      obtain ⟨rfl, rfl⟩ := he
      subst hao
      have hlt' : (a' : Int) < (cs.length : Int) := by omega
      clear hsc htil hks hcell
      generalize hx : limb cs a' = x at *
      have HX := Lib.hid hx
      clear hx
      by_cases h59 : x = 59
      · have hq : (((x : Nat) : Int) == 59) = true := by rw [beq_iff_eq]; omega
        have HN := Lib.hid (skp_semi hlt (by rw [HX.out]; exact h59))
        have HN2 := Lib.hid (nl_semi hlt (by rw [HX.out]; exact h59))
        have HG := Lib.hid (@til_ge' nlN cs (a' + 1))
        clear h59
        go_wp2_with fail
        go_quiet (fail)
        go_wp2_with fail
        go_quiet (fail)
        go_wp2_with fail
        refine (until_nl (fun c => c == 10) (fun c w => skipnl_any c w) g _ cs f a' _ (HSC.out.drewN _)).mono ?_
        rintro e w1 ⟨rfl, hs1, hk1⟩
        rw [show til (fun c => c == 10) cs a' = til nlN cs (a' + 1) from HN2.out] at hs1
        have HS1 := Lib.hid hs1
        have HK1 := Lib.hid hk1
        clear hs1 hk1
        go_wp2_with fail
        go_roundg (cs.length - til nlN cs (a' + 1))
        case measure => have := HG.out; omega
        case rel => exact ⟨_, HS1.out, by rw [← HN.out]; exact HT.out, (HK.out.drewN _).trans HK1.out, Nat.le_refl _⟩
      · have hq : (((x : Nat) : Int) == 59) = false := by rw [beq_eq_false_iff_ne]; omega
        cases hbl : blB ((x : Nat) : Int) with
        | true =>
          have HN := Lib.hid (skp_blank hlt (by rw [HX.out]; exact h59) (by unfold blN; rw [HX.out]; exact hbl))
          clear h59
          go_wp2_with fail
          go_quiet (fail)
          go_wp2_with fail
          go_quiet (fail)
          go_wp2_with fail
          refine (blank_any _ _).mono ?_
          rintro e w1 ⟨rfl, rfl⟩
          rw [hbl]
          go_wp2_with fail
          go_roundg (cs.length - (a' + 1))
          case measure => omega
          case rel => exact ⟨a' + 1, (HSC.out.drewN _).setAt (a' + 1) (by omega) (by omega), by rw [← HN.out]; exact HT.out, (HK.out.drewN _).set 2 _, Nat.le_refl _⟩
        | false =>
          have HN := Lib.hid (skp_stop hlt (by rw [HX.out]; exact h59) (by unfold blN; rw [HX.out]; exact hbl))
          clear h59
          go_wp2_with fail
          go_quiet (fail)
          go_wp2_with fail
          go_quiet (fail)
          go_wp2_with fail
          refine (blank_any _ _).mono ?_
          rintro e w1 ⟨rfl, rfl⟩
          rw [hbl]
          go_wp2_with fail
          first
            | go_end0
            | refine bodyPost_ret (results_none rfl _ _ _) rfl ?_
          exact ⟨rfl, by rw [← HT.out, HN.out]; exact HSC.out.drewN _, HK.out.drewN _⟩
    · have hlt' : ¬ (a' : Int) < (cs.length : Int) := by omega
      clear hsc htil hks
      go_wp2_with fail
      go_quiet (fail)
      go_wp2_with fail
      go_end0
      exact ⟨rfl, by rw [← HT.out, skp_end (by omega)]; exact HSC.out.drewN _, HK.out.drewN _⟩

/-- A datum, and a word, as values. -/
def datV (k : Nat) (t : ByteArray) (n : Bool) (lv : Value) (p : Nat) : Value := .agg #[.int .i64 (k : Nat), .string t, .bool n, lv, .slice none 0 0, .int .i64 (p : Nat)]
def tokV (k : Nat) (t : ByteArray) (dk : Nat) (dt : ByteArray) (n : Bool) (lv : Value) (dp p : Nat) : Value :=
  .agg #[.int .i64 (k : Nat), .string t, .int .i64 (dk : Nat), .string dt, .bool n, lv, .slice none 0 0, .int .i64 (dp : Nat), .int .i64 (p : Nat)]

set_option maxRecDepth 100000 in
set_option maxHeartbeats 2000000 in
theorem leaf_any (g : Nat) (sv : Value) (cs : List Nat) (f a : Nat) (w : World) (hs : Sc w g sv cs f a) (k : Nat) (t : ByteArray) (n : Bool) (ao : Option Addr) (len cap : Nat) :
    Calls Tryz.prog 119 #[.pointer (some ⟨g, 0, none⟩), .agg #[.int .i64 (k : Nat), .string t, .bool n, .slice ao len cap, .slice none 0 0, .int .i64 0]] w fun e w' =>
      e = .returned (.agg #[.int .i64 7, .string ⟨#[]⟩, .int .i64 (k : Nat), .string t, .bool n, .slice ao len cap, .slice none 0 0, .int .i64 (f : Nat), .int .i64 (f : Nat)]) ∧ Below w.heap.size w w' := by
  have hg := hs.lt
  obtain ⟨c0, c1, c2, f1, f2⟩ := hs.box.facts
  clear hs
  go_enter Tryz.func119, Tryz.ntmps119
  go_wp2_with fail
  go_region
  go_wp2_with fail
  refine bodyPost_ret (v := .agg #[.int .i64 7, .string ⟨#[]⟩, .int .i64 (k : Nat), .string t, .bool n, .slice ao len cap, .slice none 0 0, .int .i64 (f : Nat), .int .i64 (f : Nat)]) (by simp [results, Tryz.results119, go_sem]) rfl ⟨rfl, ?_⟩
  repeat (first | exact Below.refl _ _ | refine Below.setCell ?_ (by simp) _ | refine Below.alloc ?_ (by simp) _ | refine Below.drew ?_ | refine below_drewN ?_ _)
end Go.Proofs.YtpahfhjgcflifaaGreatDoor
