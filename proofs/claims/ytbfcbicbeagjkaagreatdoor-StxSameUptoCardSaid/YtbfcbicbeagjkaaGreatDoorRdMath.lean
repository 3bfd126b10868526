/- x -/
import Derived.Test.YtbfcbicbeagjkaaGreatDoorPlus
import Derived.Deep.QuietTactic
import Derived.BigQuiet
import Derived.Test.YtbfcbicbeagjkaaGreatDoorDm
namespace Go.Proofs.YtbfcbicbeagjkaaGreatDoor
open Go.RowKit
set_option maxRecDepth 100000 in
set_option maxHeartbeats 1000000 in
theorem rsound_any (neg : Bool) (sv : Value) (xs : List Nat) (w : World) (hs : Sl .u32 w sv xs) (hx : ∀ i, limb xs i < 4294967296) :
 Calls Tryz.prog 101 #[.agg #[.bool neg, sv]] w fun e w' => e = .returned (.bool (sndB neg xs)) ∧ Below w.heap.size w w' := by
 obtain ⟨hm, ao, cap, rfl, hcap, h⟩ := hs
 unfold maxLen at hm
 have HX := Lib.hid hx; clear hx
 have hb1 : Below w.heap.size w (w.alloc (.cells #[.bool neg, .slice ao xs.length cap] 24)) := (Below.refl _ w).alloc (Nat.le_refl _) _
 rcases (by omega : xs.length < 1 ∨ 64 < xs.length ∨ (1 ≤ xs.length ∧ xs.length ≤ 64)) with h0 | h64 | ⟨h1, h64⟩
 . clear h
   obtain rfl : xs = [] := List.eq_nil_of_length_eq_zero (by omega)
   have hv : sndB neg [] = !neg := by
    cases neg
    . exact sndB_true ⟨by simp, fun i => by rw [limb_out (by simp)]; omega, fun _ => rfl, fun h => absurd rfl h⟩
    . exact sndB_false fun h => by have := h.2.2.1 rfl; cases this
   have HV := Lib.hid hv; clear hv
   cases neg
   . go_enter Tryz.func101, Tryz.ntmps101
     go_wp2
     refine wp_loop_rounds 1 ?_
     rw [rounds_succ]
     go_wp2
     go_ret
     exact ⟨ret_bool HV.out.symm, hb1⟩
   . go_enter Tryz.func101, Tryz.ntmps101
     go_wp2
     go_ret
     exact ⟨ret_bool HV.out.symm, hb1⟩
 . clear h
   have HV := Lib.hid (sndB_false (neg := neg) (xs := xs) fun h => by have := h.1; omega)
   have hd : decide ((64 : Int) < (xs.length : Int)) = true := by simp; omega
   go_enter Tryz.func101, Tryz.ntmps101
   go_wp2
   go_ret
   exact ⟨ret_bool HV.out.symm, hb1⟩
 . rcases h with ⟨h, _⟩ | ⟨b, off, rfl, hb, hcell⟩
   . rw [h] at h1; simp at h1
   have HC : Hid (∀ j, j < xs.length → (w.alloc (.cells #[.bool neg, .slice (some ⟨b, off, none⟩) xs.length cap] 24)).cell? ⟨b, off + j, none⟩ = some (.int .u32 (limb xs j : Nat))) := Lib.hid fun j hj => by
    rw [hb1.cell (p := ⟨b, off + j, none⟩) hb]; exact hcell j hj
   clear hcell
   have hd : decide ((64 : Int) < (xs.length : Int)) = false := by simp; omega
   have hd0 : ((xs.length : Int) == 0) = false := by rw [beq_eq_false_iff_ne]; omega
   go_enter Tryz.func101, Tryz.ntmps101
   go_wp2
   go_loop [4] (fun i => ∃ k : Nat, k ≤ xs.length ∧ i = .int .i64 k ∧ ∀ j, j < k → limb xs j < 1000000000) (fun i => xs.length - (intOf i).toNat)
   case atStart => exact ⟨0, by omega, rfl, fun j hj => by omega⟩
   case round =>
    obtain ⟨k, hk, rfl, hall⟩ := hrel
    have HL := Lib.hid hall; clear hall
    by_cases hkl : k < xs.length
    . have hxk := HX.out k
      have hck := HC.out k hkl
      rcases Nat.lt_or_ge (limb xs k) 1000000000 with hlt | hge
      . have hd2 : decide ((1000000000 : Int) ≤ ((limb xs k : Nat) : Int)) = false := by rw [decide_eq_false_iff_not]; omega
        have HT := Lib.hid hlt; clear hlt
        go_wp2
        go_round
        case rel => exact ⟨k + 1, by omega, by first | rfl | go_num, fun j hj => by
         by_cases e : j = k
         . subst e; exact HT.out
         . exact HL.out j (by omega)⟩
        case measure => simp only [intOf]; omega
      . have HV := Lib.hid (sndB_false (neg := neg) (xs := xs) fun h => by have := h.2.1 k; omega)
        have hd2 : decide ((1000000000 : Int) ≤ ((limb xs k : Nat) : Int)) = true := by rw [decide_eq_true_iff]; omega
        clear hge
        go_wp2
        go_ret
        exact ⟨ret_bool HV.out.symm, hb1⟩
    . have hall : Lb xs := fun i => by
       by_cases e : i < xs.length
       . exact HL.out i (by omega)
       . rw [limb_out (by omega)]; omega
      have hct := HC.out (xs.length - 1) (by omega)
      rcases Nat.eq_zero_or_pos (limb xs (xs.length - 1)) with hz | hp
      . have hzb : (((limb xs (xs.length - 1) : Nat) : Int) != 0) = false := by rw [hz]; rfl
        have HV := Lib.hid (sndB_false (neg := neg) (xs := xs) fun h => by have := h.2.2.2 (by intro e; rw [e] at h1; simp at h1); omega)
        clear hz hall
        go_wp2
        go_ret
        exact ⟨ret_bool HV.out.symm, hb1⟩
      . have hzb : (((limb xs (xs.length - 1) : Nat) : Int) != 0) = true := by simp; omega
        have HV := Lib.hid (sndB_true (neg := neg) (xs := xs) ⟨h64, hall, fun e => by rw [e] at h1; simp at h1, fun _ => by omega⟩)
        clear hall
        go_wp2
        go_ret
        exact ⟨ret_bool HV.out.symm, hb1⟩
end Go.Proofs.YtbfcbicbeagjkaaGreatDoor
namespace Go.Proofs.YtbfcbicbeagjkaaGreatDoor
open Go.RowKit
def sameB (n1 : Bool) (xs : List Nat) (n2 : Bool) (ys : List Nat) : Bool := decide (n1 = n2 ∧ xs = ys)
theorem sameB_true {n1 n2 : Bool} {xs ys : List Nat} (h : n1 = n2 ∧ xs = ys) : sameB n1 xs n2 ys = true := by unfold sameB; simp [h]
theorem sameB_false {n1 n2 : Bool} {xs ys : List Nat} (h : ¬ (n1 = n2 ∧ xs = ys)) : sameB n1 xs n2 ys = false := by unfold sameB; exact decide_eq_false h
theorem list_eq {xs ys : List Nat} (hl : xs.length = ys.length) (h : ∀ i, i < xs.length → limb xs i = limb ys i) : xs = ys := by
 apply List.ext_getElem hl
 intro i h1 h2
 have := h i h1
 rwa [limb_lt h1, limb_lt h2] at this
set_option maxRecDepth 100000 in
set_option maxHeartbeats 1000000 in
theorem same_any (n1 n2 : Bool) (s1 s2 : Value) (xs ys : List Nat) (w : World) (hs1 : Sl .u32 w s1 xs) (hs2 : Sl .u32 w s2 ys) :
 Calls Tryz.prog 60 #[.agg #[.bool n1, s1], .agg #[.bool n2, s2]] w fun e w' => e = .returned (.bool (sameB n1 xs n2 ys)) ∧ Below w.heap.size w w' := by
 obtain ⟨hm1, ao1, cap1, rfl, hcap1, h1⟩ := hs1
 obtain ⟨hm2, ao2, cap2, rfl, hcap2, h2⟩ := hs2
 unfold maxLen at hm1 hm2
 have hb1 : Below w.heap.size w ((w.alloc (.cells #[.bool n1, .slice ao1 xs.length cap1] 24)).alloc (.cells #[.bool n2, .slice ao2 ys.length cap2] 24)) := ((Below.refl _ w).alloc (Nat.le_refl _) _).alloc (by simp) _
 by_cases hn : n1 = n2
 . by_cases hl : xs.length = ys.length
   . subst hn
     have hnb : (n1 != n1) = false := by simp
     have hlb : ((xs.length : Int) != (ys.length : Int)) = false := by rw [hl]; simp
     have hle1 : xs.length ≤ ys.length := by omega
     have hle2 : ys.length ≤ xs.length := by omega
     have HE := Lib.hid hl; clear hl
     rcases Nat.eq_zero_or_pos xs.length with h0 | hp
     . have h0' : xs.length ≤ 0 := by omega
       clear h0
       have HV := Lib.hid (sameB_true (n1 := n1) (n2 := n1) (xs := xs) (ys := ys) ⟨rfl, list_eq HE.out fun i hi => by omega⟩)
       clear h1 h2
       go_enter Tryz.func60, Tryz.ntmps60
       go_wp2
       refine wp_loop_rounds 1 ?_
       rw [rounds_succ]
       go_wp2
       go_ret
       exact ⟨ret_bool HV.out.symm, hb1⟩
     . rcases h1 with ⟨h, _⟩ | ⟨b1, o1, rfl, hlt1, hc1⟩
       . rw [h] at hp; exact absurd hp (by simp)
       rcases h2 with ⟨h, _⟩ | ⟨b2, o2, rfl, hlt2, hc2⟩
       . rw [h] at hle1; exact absurd hle1 (by rw [List.length_nil]; omega)
       have HC1 : Hid (∀ j, j < xs.length → ((w.alloc (.cells #[.bool n1, .slice (some ⟨b1, o1, none⟩) xs.length cap1] 24)).alloc (.cells #[.bool n1, .slice (some ⟨b2, o2, none⟩) ys.length cap2] 24)).cell? ⟨b1, o1 + j, none⟩ = some (.int .u32 (limb xs j : Nat))) := Lib.hid fun j hj => by
        rw [hb1.cell (p := ⟨b1, o1 + j, none⟩) hlt1]; exact hc1 j hj
       have HC2 : Hid (∀ j, j < ys.length → ((w.alloc (.cells #[.bool n1, .slice (some ⟨b1, o1, none⟩) xs.length cap1] 24)).alloc (.cells #[.bool n1, .slice (some ⟨b2, o2, none⟩) ys.length cap2] 24)).cell? ⟨b2, o2 + j, none⟩ = some (.int .u32 (limb ys j : Nat))) := Lib.hid fun j hj => by
        rw [hb1.cell (p := ⟨b2, o2 + j, none⟩) hlt2]; exact hc2 j hj
       clear hc1 hc2
       go_enter Tryz.func60, Tryz.ntmps60
       go_wp2
       have hB1 : ((w.alloc (.cells #[.bool n1, .slice (some ⟨b1, o1, none⟩) xs.length cap1] 24)).alloc (.cells #[.bool n1, .slice (some ⟨b2, o2, none⟩) ys.length cap2] 24)).cell? ⟨w.heap.size, 1, none⟩ = some (.slice (some ⟨b1, o1, none⟩) xs.length cap1) := by simp
       have hB2 : ((w.alloc (.cells #[.bool n1, .slice (some ⟨b1, o1, none⟩) xs.length cap1] 24)).alloc (.cells #[.bool n1, .slice (some ⟨b2, o2, none⟩) ys.length cap2] 24)).cell? ⟨w.heap.size + 1, 1, none⟩ = some (.slice (some ⟨b2, o2, none⟩) ys.length cap2) := by simp
       generalize ((w.alloc (.cells #[.bool n1, .slice (some ⟨b1, o1, none⟩) xs.length cap1] 24)).alloc (.cells #[.bool n1, .slice (some ⟨b2, o2, none⟩) ys.length cap2] 24)) = W1 at *
       go_loopw [5] (fun i wr => ∃ k q : Nat, k ≤ xs.length ∧ i = .int .i64 k ∧ wr = W1.drewN q ∧ ∀ j, j < k → limb xs j = limb ys j) (fun i _ => xs.length - (intOf i).toNat)
       case atStart => exact ⟨0, 0, by omega, rfl, rfl, fun j hj => by omega⟩
       case round =>
        obtain ⟨k, q, hk, rfl, rfl, hall⟩ := hrel
        have HL := Lib.hid hall; clear hall
        by_cases hkl : k < xs.length
        . have c1 := HC1.out k hkl
          have c2 := HC2.out k (by omega)
          by_cases he : limb xs k = limb ys k
          . have hd : (((limb xs k : Nat) : Int) != ((limb ys k : Nat) : Int)) = false := by rw [he]; simp
            have HQ := Lib.hid he; clear he
            go_wp2
            go_quiet (fail)
            go_wp2
            go_roundw
            case rel => exact ⟨k + 1, _, by omega, by go_num, rfl, fun j hj => by
             by_cases e : j = k
             . subst e; exact HQ.out
             . exact HL.out j (by omega)⟩
            case measure => simp only [intOf]; omega
          . have hd : (((limb xs k : Nat) : Int) != ((limb ys k : Nat) : Int)) = true := by rw [bne_iff_ne]; omega
            have HV := Lib.hid (sameB_false (n1 := n1) (n2 := n1) (xs := xs) (ys := ys) fun h => he (by rw [h.2]))
            clear he
            go_wp2
            go_quiet (fail)
            go_wp2
            go_ret
            exact ⟨ret_bool HV.out.symm, below_drewN (below_drewN hb1 _) _⟩
        . have HV := Lib.hid (sameB_true (n1 := n1) (n2 := n1) (xs := xs) (ys := ys) ⟨rfl, list_eq HE.out fun i hi => HL.out i (by omega)⟩)
          go_wp2
          go_ret
          exact ⟨ret_bool HV.out.symm, below_drewN hb1 _⟩
   . have hlb : ((xs.length : Int) != (ys.length : Int)) = true := by rw [bne_iff_ne]; omega
     subst hn
     have hnb : (n1 != n1) = false := by simp
     have HV := Lib.hid (sameB_false (n1 := n1) (n2 := n1) (xs := xs) (ys := ys) fun h => hl (by rw [h.2]))
     clear h1 h2 hl
     go_enter Tryz.func60, Tryz.ntmps60
     go_wp2
     go_ret
     exact ⟨ret_bool HV.out.symm, hb1⟩
 . have HV := Lib.hid (sameB_false (n1 := n1) (n2 := n2) (xs := xs) (ys := ys) fun h => hn h.1)
   clear h1 h2
   cases n1 <;> cases n2
   . exact absurd rfl hn
   . go_enter Tryz.func60, Tryz.ntmps60
     go_wp2
     go_ret
     exact ⟨ret_bool HV.out.symm, hb1⟩
   . go_enter Tryz.func60, Tryz.ntmps60
     go_wp2
     go_ret
     exact ⟨ret_bool HV.out.symm, hb1⟩
   . exact absurd rfl hn
end Go.Proofs.YtbfcbicbeagjkaaGreatDoor
namespace Go.Proofs.YtbfcbicbeagjkaaGreatDoor
open Go.RowKit
def blankA (n : Bool) (r : List Nat) : Bool := !n && decide (r.length = 0)
noncomputable def symbA (t : List Nat) : Bool := match atmA t with
 | some d => decide (d.k = 4)
 | none => false
noncomputable def lenA (t : List Nat) : Option Nat := if 65536 < t.length then none else if (chars t 0).2 = none then some (chars t 0).1.length else none
noncomputable def wrtA (k : Int) (t : List Nat) : Bool :=
 if k = 4 then symbA t else if k = 5 then (match lenA t with | some n => decide (n ≤ 4096) | none => false) else if k = 6 then (match lenA t with | some n => decide (n = 1) | none => false)
 else if k = 8 ∨ k = 9 ∨ k = 10 then decide (t = []) else decide (k = 11)
def endA (k : Int) (l : List Dm) : Bool := if k = 2 then match l.getLast? with
 | some x => decide (2 ≤ l.length) && !decide (x.k = 1 ∨ x.k = 2)
 | none => false
 else true
noncomputable def okD : Nat → Dm → Bool
 | 0, _ => false
 | f + 1, d =>
  if d.k = 1 ∨ d.k = 2 ∨ d.k = 3 then decide (d.t = []) && blankA d.n d.r && endA d.k d.l && d.l.all (okD f)
  else if d.k = 7 then decide (d.t = []) && sndB d.n d.r && decide (d.l.length = 0)
  else wrtA d.k d.t && blankA d.n d.r && decide (d.l.length = 0)
noncomputable def sndD (d : Dm) : Bool := okD 64 d && decide (d.sz ≤ 8192)
theorem okD_zero (d : Dm) : okD 0 d = false := rfl
theorem okD_node {f : Nat} {k : Int} {t : List Nat} {n : Bool} {r : List Nat} {l : List Dm} {a : Int} (hk : k = 1 ∨ k = 2 ∨ k = 3) : okD (f + 1) (.mk k t n r l a) = (decide (t = []) && blankA n r && endA k l && l.all (okD f)) := by
 unfold okD
 exact if_pos hk
theorem okD_int {f : Nat} {t : List Nat} {n : Bool} {r : List Nat} {l : List Dm} {a : Int} : okD (f + 1) (.mk 7 t n r l a) = (decide (t = []) && sndB n r && decide (l.length = 0)) := by
 unfold okD
 show (if (7 : Int) = 1 ∨ (7 : Int) = 2 ∨ (7 : Int) = 3 then _ else if (7 : Int) = 7 then _ else _) = _
 rw [if_neg (by omega), if_pos rfl]
 rfl
theorem okD_leaf {f : Nat} {k : Int} {t : List Nat} {n : Bool} {r : List Nat} {l : List Dm} {a : Int} (hk : ¬ (k = 1 ∨ k = 2 ∨ k = 3)) (h7 : k ≠ 7) : okD (f + 1) (.mk k t n r l a) = (wrtA k t && blankA n r && decide (l.length = 0)) := by
 unfold okD
 show (if k = 1 ∨ k = 2 ∨ k = 3 then _ else if k = 7 then _ else _) = _
 rw [if_neg hk, if_neg h7]
 rfl
theorem sz_pos (d : Dm) : 1 ≤ d.sz := by rw [Dm.sz_eq]; omega
def szs (l : List Dm) (i : Nat) : Nat := ((l.take i).map Dm.sz).sum
theorem szs_zero (l : List Dm) : szs l 0 = 0 := by simp [szs]
theorem szs_succ {l : List Dm} {i : Nat} (h : i < l.length) : szs l (i + 1) = szs l i + (l[i]'h).sz := by
 unfold szs
 rw [List.take_add_one, List.getElem?_eq_getElem h, List.map_append, List.sum_append]
 simp
theorem szs_all (l : List Dm) : szs l l.length = (l.map Dm.sz).sum := by simp [szs]
theorem szs_mono {l : List Dm} : ∀ {j i : Nat}, i ≤ j → j ≤ l.length → szs l i ≤ szs l j := by
 intro j
 induction j with
 | zero => intro i h _; obtain rfl : i = 0 := by omega
           exact Nat.le_refl _
 | succ j ih =>
  intro i h hj
  rcases Nat.lt_or_ge j i with h2 | h2
  . obtain rfl : i = j + 1 := by omega
    exact Nat.le_refl _
  . rw [szs_succ (by omega)]
    have := ih h2 (by omega)
    omega
theorem sz_node {k : Int} {t : List Nat} {n : Bool} {r : List Nat} {l : List Dm} {a : Int} : (Dm.mk k t n r l a).sz = 1 + szs l l.length := by rw [Dm.sz_eq, szs_all]; rfl
theorem all_upto {p : Dm → Bool} {l : List Dm} (h : ∀ (j : Nat) (hj : j < l.length), p (l[j]'hj) = true) : l.all p = true := by
 rw [List.all_eq_true]
 intro x hx
 obtain ⟨j, hj, rfl⟩ := List.mem_iff_getElem.1 hx
 exact h j hj
theorem all_not {p : Dm → Bool} {l : List Dm} {j : Nat} (hj : j < l.length) (h : p (l[j]'hj) = false) : l.all p = false := by
 rw [List.all_eq_false]
 exact ⟨l[j], List.getElem_mem hj, by simp [h]⟩
end Go.Proofs.YtbfcbicbeagjkaaGreatDoor
namespace Go.Proofs.YtbfcbicbeagjkaaGreatDoor
open Go.RowKit
structure Pt where
 w : Wd
 l : List Dm
 dot : Nat
def zW : Wd := ⟨0, [], zD, 0, 0⟩
def zP : Pt := ⟨zW, [], 0⟩
def Base (ps : List Pt) : Prop := ∃ qs p, ps = qs ++ [p] ∧ p.w.kind = 0 ∧ (∀ q ∈ qs, q.w.kind ≠ 0) ∧ p.dot = 0
end Go.Proofs.YtbfcbicbeagjkaaGreatDoor
