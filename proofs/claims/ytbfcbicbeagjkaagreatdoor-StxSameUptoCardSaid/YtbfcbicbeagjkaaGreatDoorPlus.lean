/- x -/
import Derived.Test.YtbfcbicbeagjkaaGreatDoorBase
namespace Go.Proofs.YtbfcbicbeagjkaaGreatDoor
open Go.RowKit
theorem look1_any (bx i : Nat) (v : Value) (xs : List Nat) (w : World) (_ : i < 9223372036854775808) (hc : w.cell? ⟨bx, 0, none⟩ = some v) (hs : Sl .u32 w v xs) (hx : ∀ i, limb xs i < 4294967296) :
 Calls Tryz.prog 218 #[.int .i64 i, .pointer (some ⟨bx, 0, none⟩)] w fun e w' => e = .returned (.int .u64 ((limb xs i : Nat) : Int)) ∧ w = w' := by
 obtain ⟨hm, ao, cap, rfl, hcap, h⟩ := hs
 unfold maxLen at hm
 by_cases hlt : i < xs.length
 . have hxi := hx i
   rcases h with ⟨rfl, _⟩ | ⟨b, off, rfl, hb, hcell⟩
   . simp at hlt
   have hci := hcell i hlt
   clear hcell hx
   go_enter Tryz.func218, Tryz.ntmps218
   go_wp2
   go_ret
   exact ⟨rfl, rfl⟩
 . have h0 : limb xs i = 0 := limb_out (by omega)
   go_enter Tryz.func218, Tryz.ntmps218
   go_wp2
   go_ret
   exact ⟨ret_int (by rw [h0]; rfl), rfl⟩
theorem Lb.wide {xs : List Nat} (h : Lb xs) (i : Nat) : limb xs i < 4294967296 := by have := h i; omega
theorem look_any (ao : Option Addr) (n c : Nat) (w : World) : Calls Tryz.prog 195 #[.slice ao n c] w fun e w' => e = .returned (.func (.func 218) #[] #[.pointer (some ⟨w.heap.size, 0, none⟩)]) ∧ w.alloc (.cells #[.slice ao n c] 22) = w' := by
 go_enter Tryz.func195, Tryz.ntmps195
 go_wp2
 go_ret
 exact ⟨rfl, rfl⟩
theorem infoU32 : (Tryz.prog.info? 140).map (fun i => (i.zero, i.size, i.bytes)) = some (some (.int .u32 0), 1, 4) := by kernel_rfl
end Go.Proofs.YtbfcbicbeagjkaaGreatDoor
namespace Go.Proofs.YtbfcbicbeagjkaaGreatDoor
open Go.RowKit
theorem Sl.take {k : IntKind} {w : World} {b off cap n : Nat} {xs : List Nat} (h : Sl k w (.slice (some ⟨b, off, none⟩) xs.length cap) xs) (hn : n ≤ xs.length) : Sl k w (.slice (some ⟨b, off, none⟩) n cap) (xs.take n) := by
 obtain ⟨hm, ao, c, hv, hc, h⟩ := h
 simp only [Value.slice.injEq, true_and] at hv
 obtain ⟨rfl, rfl⟩ := hv
 have e : (xs.take n).length = n := by simp; omega
 refine ⟨by omega, _, _, by rw [e], by omega, ?_⟩
 rcases h with ⟨rfl, hz⟩ | ⟨b', off', he, hb, hcell⟩
 . exact .inl ⟨by simp, hz⟩
 . refine .inr ⟨b', off', he, hb, fun j hj => ?_⟩
   rw [hcell j (by omega)]
   simp [limb, show j < n by omega]
def TrimPost (v : Value) (xs : List Nat) (w : World) (e : Ending) (w' : World) : Prop :=
 ∃ v' n, e = .returned v' ∧ n ≤ xs.length ∧ (n = 0 ∨ limb xs (n - 1) ≠ 0) ∧ (∀ i, n ≤ i → limb xs i = 0) ∧ (∀ w2, Sl .u32 w2 v xs → Sl .u32 w2 v' (xs.take n)) ∧ w = w'
set_option maxRecDepth 100000 in
set_option maxHeartbeats 1000000 in
theorem trim_any (v : Value) (xs : List Nat) (w : World) (hs : Sl .u32 w v xs) (hx : ∀ i, limb xs i < 4294967296) :
 Calls Tryz.prog 241 #[v] w (TrimPost v xs w) := by
 obtain ⟨hm, ao, cap, rfl, hcap, h⟩ := hs
 unfold maxLen at hm
 have HX := Lib.hid hx; clear hx
 rcases h with ⟨rfl, _⟩ | ⟨b, off, rfl, hb, hcell⟩
 . go_enter Tryz.func241, Tryz.ntmps241
   go_wp2
   refine wp_loop_rounds 1 ?_
   rw [rounds_succ]
   go_wp2
   go_ret
   exact ⟨_, 0, rfl, by omega, .inl rfl, fun i _ => limb_out (by simp), fun _ h => h, rfl⟩
 . have HC := Lib.hid hcell; clear hcell
   go_enter Tryz.func241, Tryz.ntmps241
   go_wp2
   go_loop [3] (fun i => ∃ n : Nat, n ≤ xs.length ∧ i = .int .i64 n ∧ ∀ j, n ≤ j → limb xs j = 0) (fun i => (intOf i).toNat)
   case atStart => exact ⟨xs.length, Nat.le_refl _, rfl, fun j hj => limb_out hj⟩
   case round =>
    obtain ⟨n, hn, rfl, hz⟩ := hrel
    have HZ := Lib.hid hz; clear hz
    rcases n with _ | m
    . go_wp2
      go_ret
      exact ⟨_, 0, rfl, by omega, .inl rfl, HZ.out, fun _ h => h.take (by omega), rfl⟩
    . have hcm := HC.out m (by omega)
      have hxm := HX.out m
      rcases Nat.eq_zero_or_pos (limb xs m) with h0 | hp
      . have h1 : limb xs m ≤ 0 := by omega
        have H0 := Lib.hid h0; clear h0
        go_wp2
        go_round
        case rel => exact ⟨m, by omega, by first | rfl | go_num, fun j hj => by
         by_cases e : j = m
         . subst e; exact H0.out
         . exact HZ.out j (by omega)⟩
        case measure => simp only [intOf]; omega
      . go_wp2
        go_ret
        exact ⟨_, m + 1, rfl, by omega, .inr (by rw [Nat.add_sub_cancel]; omega), HZ.out, fun _ h => h.take (by omega), rfl⟩
end Go.Proofs.YtbfcbicbeagjkaaGreatDoor
namespace Go.Proofs.YtbfcbicbeagjkaaGreatDoor
open Go.RowKit
def IntV (w : World) (v : Value) (neg : Bool) (xs : List Nat) : Prop := ∃ sv, v = .agg #[.bool neg, sv] ∧ Sl .u32 w sv xs
theorem Sl.nil (k : IntKind) (w : World) : Sl k w (.slice none 0 0) [] := ⟨by simp, none, 0, rfl, by simp, .inl ⟨rfl, fun _ => rfl⟩⟩
def Snd (neg : Bool) (rs : List Nat) : Prop := rs.length ≤ 64 ∧ Lb rs ∧ (rs = [] → neg = false) ∧ (rs ≠ [] → limb rs (rs.length - 1) ≠ 0)
theorem limb_take {xs : List Nat} {n i : Nat} : limb (xs.take n) i = if i < n then limb xs i else 0 := by
 unfold limb
 simp only [List.getD_eq_getElem?_getD, List.getElem?_take]
 split <;> simp
theorem val_take {xs : List Nat} {n : Nat} (hn : n ≤ xs.length) (hz : ∀ i, n ≤ i → limb xs i = 0) : val (xs.take n) = val xs := by
 have e : (xs.take n).length = n := by simp; omega
 unfold val
 rw [e, V_out hz hn]
 exact V_congr fun i hi => by rw [limb_take, if_pos hi]
theorem Lb.take {xs : List Nat} (h : Lb xs) (n : Nat) : Lb (xs.take n) := by
 intro i; rw [limb_take]; split
 . exact h i
 . omega
theorem V_mono (f : Nat → Nat) {n m : Nat} (h : n ≤ m) : V f n ≤ V f m := by
 induction m with
 | zero => obtain rfl : n = 0 := by omega
           exact Nat.le_refl _
 | succ m ih =>
  by_cases e : n = m + 1
  . rw [e]; exact Nat.le_refl _
  . simp only [V]; have := ih (by omega); omega
theorem val_ge {xs : List Nat} {n : Nat} (hn : n < xs.length) (h : limb xs n ≠ 0) : 1000000000 ^ n ≤ val xs := by
 have h1 : V (limb xs) (n + 1) ≤ val xs := by
  rw [← val_eq (Nat.le_refl _)]
  exact V_mono _ hn
 simp only [V] at h1
 have : 1 * 1000000000 ^ n ≤ limb xs n * 1000000000 ^ n := Nat.mul_le_mul_right _ (by omega)
 omega
def MadePost (neg : Bool) (N : Nat) (w : World) (e : Ending) (w' : World) : Prop :=
 ∃ v neg' rs c, e = .returned (.tuple #[v, .int .i64 c]) ∧ IntV w' v neg' rs ∧ Below w.heap.size w w' ∧
  ((c = 0 ∧ Snd neg' rs ∧ val rs = N ∧ (rs ≠ [] → neg' = neg)) ∨ (c = 6 ∧ neg' = false ∧ rs = [] ∧ 1000000000 ^ 64 ≤ N))
set_option maxRecDepth 100000 in
set_option maxHeartbeats 1000000 in
theorem made_any (neg : Bool) (v : Value) (xs : List Nat) (w : World) (hs : Sl .u32 w v xs) (hx : Lb xs) :
 Calls Tryz.prog 229 #[.bool neg, v] w (MadePost neg (val xs) w) := by
 have HS := Lib.hid hs
 obtain ⟨hm, ao, cap, rfl, hcap, h⟩ := hs
 clear h
 unfold maxLen at hm
 have HX := Lib.hid hx; clear hx
 go_enter Tryz.func229, Tryz.ntmps229
 go_wp2_with fail
 have hs' : Sl .u32 (w.alloc (.cells #[.bool false, .slice none 0 0] 24)) (.slice ao xs.length cap) xs := HS.out.below ((Below.refl _ w).alloc (Nat.le_refl _) _)
 refine (trim_any _ xs _ hs' HX.out.wide).mono ?_
 rintro e w' ⟨v', n, rfl, hn, htop, hz, hsl, rfl⟩
 have hlen : (xs.take n).length = n := by simp; omega
 have HSL := Lib.hid hsl
 obtain ⟨q1, ao', cap', rfl, q2, q3⟩ := hsl _ hs'
 clear hs' hsl q1 q2 q3
 rw [hlen]
 clear hlen
 have HT := Lib.hid htop; clear htop
 have HZ := Lib.hid hz; clear hz
 rcases (by omega : 64 < n ∨ (n ≤ 64 ∧ 1 ≤ n) ∨ n < 1) with h64 | ⟨h64, h1⟩ | h0
 . have hbig : 1000000000 ^ 64 ≤ val xs := by
    rcases HT.out with h | h
    . omega
    . exact Nat.le_trans (Nat.pow_le_pow_right (by omega) (by omega)) (val_ge (by omega) h)
   have HG := Lib.hid hbig; clear hbig
   go_wp2
   refine bodyPost_ret (v := .tuple #[.agg #[.bool false, .slice none 0 0], .int .i64 6]) (by simp [results, Tryz.results229, go_sem]) rfl ?_
   exact ⟨_, false, [], 6, rfl, ⟨_, rfl, Sl.nil _ _⟩, (Below.refl _ w).alloc (Nat.le_refl _) _, .inr ⟨rfl, rfl, rfl, HG.out⟩⟩
 . have hlen : (xs.take n).length = n := by simp; omega
   have HL := Lib.hid hlen; clear hlen
   go_wp2
   refine bodyPost_ret (v := .tuple #[.agg #[.bool neg, .slice ao' n cap'], .int .i64 0]) (by simp [results, Tryz.results229, go_sem]) rfl ?_
   refine ⟨_, neg, xs.take n, 0, rfl, ⟨_, rfl, ?_⟩, ?_, .inl ⟨rfl, ⟨by rw [HL.out]; exact h64, HX.out.take n, fun h => ?_, fun _ => ?_⟩, val_take hn HZ.out, fun _ => rfl⟩⟩
   . have := HSL.out
     rw [HL.out] at this
     exact this _ (HS.out.below ((Below.refl _ w).alloc (Nat.le_refl _) _))
   . exact (Below.refl _ w).alloc (Nat.le_refl _) _
   . rw [h] at HL; have := HL.out; simp at this; omega
   . rw [HL.out, limb_take, if_pos (by omega)]
     rcases HT.out with h | h
     . omega
     . exact h
 . obtain rfl : n = 0 := by omega
   have hv : val xs = 0 := by rw [← val_take hn HZ.out]; rfl
   have HV := Lib.hid hv; clear hv
   go_wp2
   refine bodyPost_ret (v := .tuple #[.agg #[.bool false, .slice none 0 0], .int .i64 0]) (by simp [results, Tryz.results229, go_sem]) rfl ?_
   exact ⟨_, false, [], 0, rfl, ⟨_, rfl, Sl.nil _ _⟩, (Below.refl _ w).alloc (Nat.le_refl _) _, .inl ⟨rfl, ⟨by simp, fun i => by rw [limb_out (by simp)]; omega, fun _ => rfl, fun h => absurd rfl h⟩, by rw [HV.out]; rfl, fun h => absurd rfl h⟩⟩
end Go.Proofs.YtbfcbicbeagjkaaGreatDoor
namespace Go.Proofs.YtbfcbicbeagjkaaGreatDoor
open Go.RowKit
open Classical in
noncomputable def sndB (neg : Bool) (xs : List Nat) : Bool := decide (Snd neg xs)
theorem sndB_true {neg : Bool} {xs : List Nat} (h : Snd neg xs) : sndB neg xs = true := by unfold sndB; simp [h]
theorem sndB_false {neg : Bool} {xs : List Nat} (h : ¬ Snd neg xs) : sndB neg xs = false := by unfold sndB; simp [h]
theorem ret_bool {a b : Bool} (h : a = b) : Ending.returned (.bool a) = .returned (.bool b) := by rw [h]
set_option maxRecDepth 100000 in
set_option maxHeartbeats 1000000 in
theorem sound_any (neg : Bool) (sv : Value) (xs : List Nat) (w : World) (hs : Sl .u32 w sv xs) (hx : ∀ i, limb xs i < 4294967296) :
 Calls Tryz.prog 164 #[.agg #[.bool neg, sv]] w fun e w' => e = .returned (.bool (sndB neg xs)) ∧ Below w.heap.size w w' := by
 have HS := Lib.hid hs
 obtain ⟨hm, ao, cap, rfl, hcap, h⟩ := hs
 unfold maxLen at hm
 have HX := Lib.hid hx; clear hx
 have hb1 : Below w.heap.size w (w.alloc (.cells #[.bool neg, .slice ao xs.length cap] 24)) := (Below.refl _ w).alloc (Nat.le_refl _) _
 rcases (by omega : xs.length < 1 ∨ 64 < xs.length ∨ (1 ≤ xs.length ∧ xs.length ≤ 64)) with h0 | h64 | ⟨h1, h64⟩
 . clear h
   obtain rfl : xs = [] := List.eq_nil_of_length_eq_zero (by omega)
   have hv : sndB neg [] = !neg := by
    cases neg
    . exact sndB_true ⟨by simp, fun i => by rw [limb_out (by simp)]; omega, fun _ => rfl, fun h => absurd rfl h⟩
    . exact sndB_false fun h => by have := h.2.2.1 rfl; cases this
   have HV := Lib.hid hv; clear hv
   go_enter Tryz.func164, Tryz.ntmps164
   go_wp2
   go_ret
   exact ⟨ret_bool HV.out.symm, hb1⟩
 . clear h
   have HV := Lib.hid (sndB_false (neg := neg) (xs := xs) fun h => by have := h.1; omega)
   go_enter Tryz.func164, Tryz.ntmps164
   go_wp2
   go_ret
   exact ⟨ret_bool HV.out.symm, hb1⟩
 . rcases h with ⟨h, _⟩ | ⟨b, off, rfl, hb, hcell⟩
   . rw [h] at h1; simp at h1
   have htop := hcell (xs.length - 1) (by omega)
   have htop2 : (w.alloc (.cells #[.bool neg, .slice (some ⟨b, off, none⟩) xs.length cap] 24)).cell? ⟨b, off + (xs.length - 1), none⟩ = some (.int .u32 (limb xs (xs.length - 1) : Nat)) := by
    rw [hb1.cell (p := ⟨b, off + (xs.length - 1), none⟩) hb]; exact htop
   clear hcell htop
   rcases Nat.eq_zero_or_pos (limb xs (xs.length - 1)) with hz | hp
   . have hz1 : limb xs (xs.length - 1) ≤ 0 := by omega
     have HV := Lib.hid (sndB_false (neg := neg) (xs := xs) fun h => by have := h.2.2.2 (by intro e; rw [e] at h1; simp at h1); omega)
     have hzb : (((limb xs (xs.length - 1) : Nat) : Int) == 0) = true := by rw [hz]; rfl
     have hd : decide ((64 : Int) < (xs.length : Int)) = false := by simp; omega
     clear hz
     go_enter Tryz.func164, Tryz.ntmps164
     go_wp2
     go_ret
     exact ⟨ret_bool HV.out.symm, hb1⟩
   . have hzb : (((limb xs (xs.length - 1) : Nat) : Int) == 0) = false := by simp; omega
     have hd : decide ((64 : Int) < (xs.length : Int)) = false := by simp; omega
     go_enter Tryz.func164, Tryz.ntmps164
     go_wp2_with fail
     refine (look_any _ _ _ _).mono ?_
     rintro e w' ⟨rfl, rfl⟩
     have hcA : ((w.alloc (.cells #[.bool neg, .slice (some ⟨b, off, none⟩) xs.length cap] 24)).alloc (.cells #[.slice (some ⟨b, off, none⟩) xs.length cap] 22)).cell? ⟨w.heap.size + 1, 0, none⟩ = some (.slice (some ⟨b, off, none⟩) xs.length cap) := by simp
     have hb2 := hb1.alloc (by simp) (.cells #[.slice (some ⟨b, off, none⟩) xs.length cap] 22)
     clear htop2 hb1
     generalize ((w.alloc (.cells #[.bool neg, .slice (some ⟨b, off, none⟩) xs.length cap] 24)).alloc (.cells #[.slice (some ⟨b, off, none⟩) xs.length cap] 22)) = w1 at *
     go_wp2_with fail
     go_loop [29] (fun i => ∃ k : Nat, k ≤ xs.length ∧ i = .int .i64 k ∧ ∀ j, j < k → limb xs j < 1000000000) (fun i => xs.length - (intOf i).toNat)
     case atStart => exact ⟨0, by omega, rfl, fun j hj => by omega⟩
     case round =>
      obtain ⟨k, hk, rfl, hall⟩ := hrel
      have HL := Lib.hid hall; clear hall
      by_cases hkl : k < xs.length
      . have hxk := HX.out k
        go_wp2_with fail
        refine (look1_any (w.heap.size + 1) k _ xs w1 (by omega) hcA (HS.out.below hb2) HX.out).mono ?_
        rintro e w' ⟨rfl, rfl⟩
        rcases Nat.lt_or_ge (limb xs k) 1000000000 with hlt | hge
        . have hd2 : decide ((1000000000 : Int) ≤ ((limb xs k : Nat) : Int)) = false := by rw [decide_eq_false_iff_not]; omega
          have HT := Lib.hid hlt; clear hlt
          go_wp2
          go_round
          case rel => exact ⟨k + 1, by omega, by first | rfl | go_num, fun j hj => by
           by_cases e : j = k
           . subst e; exact HT.out
           . exact HL.out j (by omega)⟩
          case measure => simp only [intOf]; omega
        . have HV := Lib.hid (sndB_false (neg := neg) (xs := xs) fun h => by have := h.2.1 k; omega)
          have hd2 : decide ((1000000000 : Int) ≤ ((limb xs k : Nat) : Int)) = true := by rw [decide_eq_true_iff]; omega
          clear hge
          go_wp2
          go_ret
          exact ⟨ret_bool HV.out.symm, hb2⟩
      . have HV := Lib.hid (sndB_true (neg := neg) (xs := xs) ⟨h64, fun i => by
         by_cases e : i < xs.length
         . exact HL.out i (by omega)
         . rw [limb_out (by omega)]; omega, fun e => by rw [e] at h1; simp at h1, fun _ => by omega⟩)
        go_wp2
        go_ret
        exact ⟨ret_bool HV.out.symm, hb2⟩
end Go.Proofs.YtbfcbicbeagjkaaGreatDoor
namespace Go.Proofs.YtbfcbicbeagjkaaGreatDoor
open Go.RowKit
def PlusInv (xs ys rs : List Nat) (k cc : Nat) : Prop :=
 Lb rs ∧ cc ≤ 1 ∧ V (limb rs) k + cc * 1000000000 ^ k = V (limb xs) k + V (limb ys) k
end Go.Proofs.YtbfcbicbeagjkaaGreatDoor
namespace Go.Proofs.YtbfcbicbeagjkaaGreatDoor
open Go.RowKit
def MinusInv (xs ys rs : List Nat) (k cc : Nat) : Prop :=
 Lb rs ∧ cc ≤ 1 ∧ V (limb rs) k + V (limb ys) k = V (limb xs) k + cc * 1000000000 ^ k
end Go.Proofs.YtbfcbicbeagjkaaGreatDoor
namespace Go.Proofs.YtbfcbicbeagjkaaGreatDoor
open Go.RowKit
end Go.Proofs.YtbfcbicbeagjkaaGreatDoor
