/- x -/
import Derived.Test.YtbfcbicbeagjkaaGreatDoorPlus
import Derived.Deep.RegionWith
import Derived.LoopTactic
namespace Go.Proofs.YtbfcbicbeagjkaaGreatDoor
open Go.RowKit
theorem val_pos {xs : List Nat} (h : xs ≠ []) (ht : limb xs (xs.length - 1) ≠ 0) : 1000000000 ^ (xs.length - 1) ≤ val xs := by
 have : 0 < xs.length := List.length_pos_iff.2 h
 exact val_ge (by omega) ht
theorem len_le_of_val {n1 n2 : Bool} {xs ys : List Nat} (hx : Snd n1 xs) (hy : Snd n2 ys) (h : val ys ≤ val xs) : ys.length ≤ xs.length := by
 by_cases e : ys = []
 . subst e; simp
 . have h1 := val_pos e (hy.2.2.2 e)
   have h2 := val_lt hx.2.1
   have : 0 < ys.length := List.length_pos_iff.2 e
   have h3 : 1000000000 ^ (ys.length - 1) < 1000000000 ^ xs.length := by omega
   have := (Nat.pow_lt_pow_iff_right (by omega)).1 h3
   omega
structure Boxes (w w2 : World) (n1 : Bool) (s1 : Value) (n2 : Bool) (s2 : Value) : Prop where
 a : w2.heap[w.heap.size]? = some (.cells #[.bool n1, s1] 24 (0, 0))
 b : w2.heap[w.heap.size + 1]? = some (.cells #[.bool n2, s2] 24 (0, 0))
 r : w2.heap[w.heap.size + 1 + 1]? = some (.cells #[.bool false, .slice none 0 0] 24 (0, 0))
 lt : w.heap.size + 1 + 1 < w2.heap.size
 bel : Below w.heap.size w w2
theorem Sl.box {k : IntKind} {w : World} {v : Value} {xs : List Nat} (h : Sl k w v xs) {g : Nat} {a : Bool} {s : Option Addr} {l c : Nat} {e : TypeId} (hg : w.heap[g]? = some (.cells #[.bool a, .slice s l c] e (0, 0))) (x y : Value) :
 Sl k ((w.setCell ⟨g, 0, none⟩ x).setCell ⟨g, 1, none⟩ y) v xs := by
 obtain ⟨hm, ao, cap, hv, hc, h⟩ := h
 refine ⟨hm, ao, cap, hv, hc, ?_⟩
 rcases h with h | ⟨b, off, ha, hlt, hcell⟩
 . exact .inl h
 . by_cases hx : xs = []
   . subst hx
     refine .inr ⟨b, off, ha, by simpa using hlt, fun j hj => absurd hj (by simp)⟩
   . have hne : b ≠ g := by
      intro e
      subst e
      have := hcell 0 (List.length_pos_iff.2 hx)
      rw [cell_heap hg] at this
      rcases (by omega : off + 0 = 0 ∨ off + 0 = 1 ∨ 2 ≤ off + 0) with e | e | e
      . rw [e] at this; simp at this
      . rw [e] at this; simp at this
      . rw [Array.getElem?_eq_none (by simpa using e)] at this; cases this
     refine .inr ⟨b, off, ha, by simpa using hlt, fun j hj => ?_⟩
     rw [cell_other (by simpa using hne), cell_other (by simpa using hne)]
     exact hcell j hj
end Go.Proofs.YtbfcbicbeagjkaaGreatDoor
namespace Go.Proofs.YtbfcbicbeagjkaaGreatDoor
open Go.RowKit
structure OfInv (N : Nat) (rs : List Nat) (s : Nat) : Prop where
 lb : Lb rs
 eq : val rs + s * 1000000000 ^ rs.length = N
 top : s = 0 → rs ≠ [] → limb rs (rs.length - 1) ≠ 0
 len : rs.length ≤ 3
 small : 1 ≤ s → rs.length ≤ 2
theorem limb_snoc {rs : List Nat} {d i : Nat} : limb (rs ++ [d]) i = if i < rs.length then limb rs i else if i = rs.length then d else 0 := by
 unfold limb
 simp only [List.getD_eq_getElem?_getD, List.getElem?_append]
 split
 . rfl
 . split
   . next h => subst h; simp
   . rw [List.getElem?_eq_none (by simp; omega)]; rfl
theorem val_snoc (rs : List Nat) (d : Nat) : val (rs ++ [d]) = val rs + d * 1000000000 ^ rs.length := by
 unfold val
 have e : (rs ++ [d]).length = rs.length + 1 := by simp
 rw [e]
 simp only [V]
 rw [limb_snoc, if_neg (by omega), if_pos rfl]
 congr 1
 exact V_congr fun i hi => by rw [limb_snoc, if_pos hi]
theorem Lb.snoc {rs : List Nat} (h : Lb rs) {d : Nat} (hd : d < 1000000000) : Lb (rs ++ [d]) := by
 intro i; rw [limb_snoc]; split
 . exact h i
 . split <;> omega
theorem OfInv.start (N : Nat) : OfInv N [] N := ⟨fun i => by rw [limb_out (by simp)]; omega, by simp [val, V], fun _ h => absurd rfl h, by simp, fun _ => by simp⟩
end Go.Proofs.YtbfcbicbeagjkaaGreatDoor
namespace Go.Proofs.YtbfcbicbeagjkaaGreatDoor
open Go.RowKit
def D (f : Nat → Nat) : Nat → Nat
 | 0 => 0
 | n + 1 => D f n + f n * 10 ^ n
def dval (ds : List Nat) : Nat := D (limb ds) ds.length
def Db (ds : List Nat) : Prop := ∀ i, limb ds i < 10
def Top (ds : List Nat) : Prop := ds ≠ [] → limb ds (ds.length - 1) ≠ 0
theorem D_congr {f g : Nat → Nat} {n : Nat} (h : ∀ i, i < n → f i = g i) : D f n = D g n := by
 induction n with
 | zero => rfl
 | succ n ih => simp only [D]; rw [ih (fun i hi => h i (by omega)), h n (by omega)]
theorem D_out {f : Nat → Nat} {m : Nat} (h : ∀ i, m ≤ i → f i = 0) {n : Nat} (hn : m ≤ n) : D f n = D f m := by
 induction n with
 | zero => obtain rfl : m = 0 := by omega
           rfl
 | succ n ih =>
  by_cases e : m = n + 1
  . rw [e]
  . simp only [D]; rw [ih (by omega), h n (by omega)]; omega
theorem D_lt {f : Nat → Nat} (h : ∀ i, f i < 10) (n : Nat) : D f n < 10 ^ n := by
 induction n with
 | zero => simp [D]
 | succ n ih =>
  simp only [D]
  have h1 : f n * 10 ^ n ≤ 9 * 10 ^ n := Nat.mul_le_mul_right _ (by have := h n; omega)
  rw [Nat.pow_succ]; omega
theorem dval_lt {ds : List Nat} (h : Db ds) : dval ds < 10 ^ ds.length := D_lt h _
theorem dval_eq {ds : List Nat} {n : Nat} (h : ds.length ≤ n) : D (limb ds) n = dval ds := D_out (fun _ hi => limb_out hi) h
theorem dval_snoc (ds : List Nat) (d : Nat) : dval (ds ++ [d]) = dval ds + d * 10 ^ ds.length := by
 unfold dval
 have e : (ds ++ [d]).length = ds.length + 1 := by simp
 rw [e]
 simp only [D]
 rw [limb_snoc, if_neg (by omega), if_pos rfl]
 congr 1
 exact D_congr fun i hi => by rw [limb_snoc, if_pos hi]
theorem Db.wide {ds : List Nat} (h : Db ds) : ∀ i, limb ds i < 256 := fun i => by have := h i; omega
theorem dlimb_take {xs : List Nat} {n i : Nat} : limb (xs.take n) i = if i < n then limb xs i else 0 := by
 unfold limb
 simp only [List.getD_eq_getElem?_getD, List.getElem?_take]
 split <;> rfl
theorem Db.take {ds : List Nat} (h : Db ds) (n : Nat) : Db (ds.take n) := by
 intro i; rw [dlimb_take]; split
 . exact h i
 . omega
theorem dval_take {ds : List Nat} {n : Nat} (hn : n ≤ ds.length) (hz : ∀ i, n ≤ i → limb ds i = 0) : dval (ds.take n) = dval ds := by
 have e : (ds.take n).length = n := by simp; omega
 unfold dval
 rw [e, D_out hz hn]
 exact D_congr fun i hi => by rw [dlimb_take, if_pos hi]
theorem Top.take {ds : List Nat} {n : Nat} (hn : n ≤ ds.length) (h : n = 0 ∨ limb ds (n - 1) ≠ 0) : Top (ds.take n) := by
 intro hne
 have e : (ds.take n).length = n := by simp; omega
 rcases h with h | h
 . subst h; simp at hne
 . by_cases h0 : n = 0
   . subst h0; simp at hne
   . rw [e, dlimb_take, if_pos (by omega)]; exact h
theorem Top.le {ds : List Nat} (h : Top ds) (hne : ds ≠ []) : 10 ^ (ds.length - 1) ≤ dval ds := by
 have h1 := h hne
 have hl : 0 < ds.length := List.length_pos_iff.2 hne
 obtain ⟨k, hk⟩ : ∃ k, ds.length = k + 1 := ⟨ds.length - 1, by omega⟩
 unfold dval
 rw [hk] at h1 ⊢
 simp only [Nat.add_sub_cancel, D] at h1 ⊢
 have : 1 * 10 ^ k ≤ limb ds k * 10 ^ k := Nat.mul_le_mul_right _ (by omega)
 omega
theorem Top.len {ds : List Nat} (h : Top ds) (hb : Db ds) {n : Nat} : ds.length ≤ n ↔ dval ds < 10 ^ n := by
 constructor
 . intro hl
   exact Nat.lt_of_lt_of_le (dval_lt hb) (Nat.pow_le_pow_right (by omega) hl)
 . intro hv
   by_cases hne : ds = []
   . subst hne; simp
   . have h1 := h.le hne
     by_cases hl : ds.length ≤ n
     . exact hl
     . have : 10 ^ n ≤ 10 ^ (ds.length - 1) := Nat.pow_le_pow_right (by omega) (by omega)
       omega
theorem Top.zero {ds : List Nat} (h : Top ds) (h0 : dval ds = 0) : ds = [] := by
 apply Classical.byContradiction
 intro hne
 have h1 := h.le hne
 have : 0 < 10 ^ (ds.length - 1) := Nat.pow_pos (by omega)
 omega
theorem pow9 (n : Nat) : 10 ^ (9 * n) = 1000000000 ^ n := by rw [Nat.pow_mul]
structure DigOut (xs ds : List Nat) (i : Nat) : Prop where
 b : Db ds
 len : ds.length = 9 * i
 eq : dval ds = V (limb xs) i
structure DigIn (xs ds : List Nat) (i l k : Nat) : Prop where
 b : Db ds
 len : ds.length = 9 * i + k
 eq : dval ds + l * 10 ^ (9 * i + k) = V (limb xs) (i + 1)
 small : l * 10 ^ k < 1000000000
theorem DigIn.lt {xs ds : List Nat} {i l k : Nat} (h : DigIn xs ds i l k) : l < 1000000000 := by
 have := h.small
 have h2 : l * 1 ≤ l * 10 ^ k := Nat.mul_le_mul_left _ (Nat.pow_pos (by omega))
 omega
end Go.Proofs.YtbfcbicbeagjkaaGreatDoor
namespace Go.Proofs.YtbfcbicbeagjkaaGreatDoor
open Go.RowKit
structure MkOut (ds rs : List Nat) (q : Nat) : Prop where
 b : Lb rs
 len : rs.length = q
 eq : val rs = D (limb ds) (9 * q)
 most : q = 0 ∨ 9 * q < ds.length + 9
structure MkIn (ds : List Nat) (q x k : Nat) : Prop where
 eq : x * 10 ^ (9 * q + k) + D (limb ds) (9 * q + k) = D (limb ds) (9 * q + 9)
 small : x * 10 ^ k < 1000000000
theorem MkOut.start (ds : List Nat) : MkOut ds [] 0 := ⟨fun i => by rw [limb_out (by simp)]; omega, rfl, rfl, .inl rfl⟩
theorem MkIn.start (ds : List Nat) (q : Nat) : MkIn ds q 0 9 := ⟨by omega, by omega⟩
theorem MkIn.lt {ds : List Nat} {q x k : Nat} (h : MkIn ds q x k) : x < 1000000000 := by
 have := h.small
 have h2 : x * 1 ≤ x * 10 ^ k := Nat.mul_le_mul_left _ (Nat.pow_pos (by omega))
 omega
theorem MkIn.ten {ds : List Nat} {q x k : Nat} (h : MkIn ds q x (k + 1)) : x * 10 < 1000000000 := by
 have := h.small
 rw [Nat.pow_succ] at this
 have h2 : x * 10 * 1 ≤ x * 10 * 10 ^ k := Nat.mul_le_mul_left _ (Nat.pow_pos (by omega))
 have e : x * (10 ^ k * 10) = x * 10 * 10 ^ k := by rw [Nat.mul_comm (10 ^ k), Nat.mul_assoc]
 omega
theorem ten_step {x d k : Nat} (hd : d < 10) (hk : k < 9) (h : x * (10 ^ k * 10) < 1000000000) : (x * 10 + d) * 10 ^ k < 1000000000 := by
 have e : 10 ^ (8 - k) * (10 ^ k * 10) = 1000000000 := by
  rw [← Nat.mul_assoc, ← Nat.pow_add, show 8 - k + k = 8 by omega]
 have hP : 0 < 10 ^ k := Nat.pow_pos (by omega)
 rw [← e] at h ⊢
 have h1 : x < 10 ^ (8 - k) := Nat.lt_of_mul_lt_mul_right h
 have h2 : (x + 1) * (10 ^ k * 10) ≤ 10 ^ (8 - k) * (10 ^ k * 10) := Nat.mul_le_mul_right _ h1
 refine Nat.lt_of_lt_of_le ?_ h2
 rw [← Nat.mul_assoc, Nat.mul_right_comm]
 exact Nat.mul_lt_mul_of_pos_right (by omega) hP
theorem MkIn.step {ds : List Nat} {q x k : Nat} (h : MkIn ds q x (k + 1)) (hb : Db ds) (hk : k < 9) : MkIn ds q (x * 10 + limb ds (9 * q + k)) k := by
 have he := h.eq
 have hs := h.small
 have hd := hb (9 * q + k)
 rw [← Nat.add_assoc (9 * q), Nat.pow_succ] at he
 rw [Nat.pow_succ] at hs
 refine ⟨?_, ?_⟩
 . rw [← he]
   simp only [D]
   generalize limb ds (9 * q + k) = d
   generalize D (limb ds) (9 * q + k) = s
   generalize 10 ^ (9 * q + k) = P
   clear he hs hd
   grind
 . exact ten_step hd hk hs
theorem MkIn.step0 {ds : List Nat} {q x k : Nat} (h : MkIn ds q x (k + 1)) (hb : Db ds) (hk : k < 9) (hl : ds.length ≤ 9 * q + k) : MkIn ds q (x * 10) k := by
 have := h.step hb hk
 rwa [limb_out hl, Nat.add_zero] at this
theorem MkIn.next {ds rs : List Nat} {q x : Nat} (h : MkIn ds q x 0) (ho : MkOut ds rs q) (hl : 9 * q < ds.length) : MkOut ds (rs ++ [x]) (q + 1) := by
 have he := h.eq
 refine ⟨ho.b.snoc h.lt, by simp [ho.len], ?_, .inr (by omega)⟩
 rw [val_snoc, ho.eq, ho.len, show 9 * (q + 1) = 9 * q + 9 by omega, ← he, Nat.add_zero, pow9]
 omega
theorem MkOut.done {ds rs : List Nat} {q : Nat} (h : MkOut ds rs q) (ht : Top ds) (hl : ds.length ≤ 9 * q) (h64 : ds.length ≤ 576) {neg neg' : Bool} (hn : neg' = (neg && decide (0 < ds.length))) :
 Snd neg' rs ∧ val rs = dval ds ∧ (rs ≠ [] → neg' = neg) := by
 have hm := h.most
 have hv : val rs = dval ds := by rw [h.eq, dval_eq hl]
 have hlen := h.len
 refine ⟨⟨by omega, h.b, fun e => ?_, fun e => ?_⟩, hv, fun e => ?_⟩
 . subst e
   have : ds = [] := ht.zero (by rw [← hv]; rfl)
   subst this
   simp [hn]
 . have hq : 0 < rs.length := List.length_pos_iff.2 e
   intro h0
   obtain ⟨p, hp⟩ : ∃ p, rs.length = p + 1 := ⟨rs.length - 1, by omega⟩
   have hne : ds ≠ [] := by intro h; rw [h] at hm; simp at hm; omega
   have hg := ht.le hne
   have hlt : val rs < 1000000000 ^ p := by
    unfold val
    rw [hp] at h0 ⊢
    simp only [Nat.add_sub_cancel] at h0
    simp only [V, h0]
    have := V_lt h.b p
    omega
   have : 10 ^ (9 * p) ≤ 10 ^ (ds.length - 1) := Nat.pow_le_pow_right (by omega) (by omega)
   rw [pow9] at this
   omega
 . have : 0 < ds.length := by
    have hq : 0 < rs.length := List.length_pos_iff.2 e
    omega
   simp [hn, this]
end Go.Proofs.YtbfcbicbeagjkaaGreatDoor
namespace Go.Proofs.YtbfcbicbeagjkaaGreatDoor
open Go.RowKit
structure SumInv (xs ys rs : List Nat) (i c : Nat) : Prop where
 b : Db rs
 len : rs.length = i
 eq : dval rs + c * 10 ^ i = D (limb xs) i + D (limb ys) i
 small : c ≤ 1
structure DifInv (xs ys rs : List Nat) (i c : Nat) : Prop where
 b : Db rs
 len : rs.length = i
 eq : dval rs + D (limb ys) i = D (limb xs) i + c * 10 ^ i
 small : c ≤ 1
end Go.Proofs.YtbfcbicbeagjkaaGreatDoor
namespace Go.Proofs.YtbfcbicbeagjkaaGreatDoor
open Go.RowKit
def bt (s : ByteArray) (j : Nat) : Nat := (s.data.toList.getD j 0).toNat
theorem bt_at {s : ByteArray} {j : Nat} (h : j < s.size) : bt s j = s[j].toNat := by
 unfold bt
 have hl : j < s.data.toList.length := by simpa using h
 simp [List.getD_eq_getElem?_getD, List.getElem?_eq_getElem hl]
 rfl
theorem bt_lt (s : ByteArray) (j : Nat) : bt s j < 256 := by unfold bt; exact UInt8.toNat_lt _
def dgB (n : Nat) : Bool := decide (48 ≤ n ∧ n ≤ 57)
def allD (s : ByteArray) : Bool := s.data.toList.all fun c => dgB c.toNat
theorem ret_bool' {a b : Bool} (h : a = b) : Ending.returned (.bool a) = .returned (.bool b) := by rw [h]
theorem allD_true {s : ByteArray} (h : ∀ j, j < s.size → 48 ≤ bt s j ∧ bt s j ≤ 57) : allD s = true := by
 unfold allD
 rw [List.all_eq_true]
 intro c hc
 obtain ⟨j, hj, rfl⟩ := List.getElem_of_mem hc
 have := h j (by simpa using hj)
 unfold bt at this
 unfold dgB
 simp [List.getD_eq_getElem?_getD, List.getElem?_eq_getElem hj] at this
 simpa using this
theorem allD_false {s : ByteArray} {j : Nat} (hj : j < s.size) (h : ¬ (48 ≤ bt s j ∧ bt s j ≤ 57)) : allD s = false := by
 unfold allD
 rw [List.all_eq_false]
 have hl : j < s.data.toList.length := by simpa using hj
 refine ⟨s.data.toList[j], List.getElem_mem hl, ?_⟩
 unfold bt at h
 unfold dgB
 simp [List.getD_eq_getElem?_getD, List.getElem?_eq_getElem hl] at h
 simpa using h
set_option maxRecDepth 100000 in
set_option maxHeartbeats 1000000 in
theorem decimal_any (s : ByteArray) (w : World) (hs : s.size ≤ maxLen) :
 Calls Tryz.prog 227 #[.string s] w fun e w' => e = .returned (.bool (allD s)) ∧ w = w' := by
 unfold maxLen at hs
 go_enter Tryz.func227, Tryz.ntmps227
 go_wp2
 go_loop [6] (fun i => ∃ k : Nat, k ≤ s.size ∧ i = .int .i64 (k : Int) ∧ ∀ j, j < k → 48 ≤ bt s j ∧ bt s j ≤ 57) (fun i => s.size - (intOf i).toNat)
 case atStart => exact ⟨0, by omega, rfl, fun j hj => by omega⟩
 case round =>
  obtain ⟨k, hk, rfl, hall⟩ := hrel
  have HA := Lib.hid hall; clear hall
  by_cases hlt : k < s.size
  . have HB := Lib.hid (bt_at hlt)
    have hbl := bt_lt s k
    go_wp2
    all_goals have e := HB.out
    all_goals first
     | (go_ret
        exact ⟨ret_bool' (allD_false hlt (by omega)).symm, rfl⟩)
     | (go_round
        case rel => exact ⟨k + 1, by omega, by go_num, fun j hj => by
         by_cases e2 : j = k
         . subst e2; omega
         . exact HA.out j (by omega)⟩
        case measure => simp only [intOf]; omega)
  . have HV := Lib.hid (allD_true (s := s) fun j hj => HA.out j (by omega))
    go_wp2
    go_ret
    exact ⟨ret_bool' HV.out.symm, rfl⟩
def digs (s : ByteArray) : List Nat := (List.range s.size).map fun j => bt s (s.size - 1 - j) - 48
theorem digs_len (s : ByteArray) : (digs s).length = s.size := by simp [digs]
theorem digs_at {s : ByteArray} {p n : Nat} (h : p + (n + 1) = s.size) : limb (digs s) n = bt s p - 48 := by
 have hn : n < (digs s).length := by rw [digs_len]; omega
 rw [limb_lt hn]
 simp only [digs, List.getElem_map, List.getElem_range]
 rw [show s.size - 1 - n = p by omega]
theorem digs_db {s : ByteArray} (h : ∀ j, j < s.size → 48 ≤ bt s j ∧ bt s j ≤ 57) : Db (digs s) := by
 intro i
 by_cases hi : i < s.size
 . rw [digs_at (p := s.size - 1 - i) (by omega)]
   have := h (s.size - 1 - i) (by omega)
   omega
 . rw [limb_out (by rw [digs_len]; omega)]; omega
theorem MkIn.part {ds : List Nat} {q k : Nat} (hl : ds.length ≤ 9 * q + k) (hk : k ≤ 9) : MkIn ds q 0 k := by
 refine ⟨?_, by omega⟩
 have h1 := dval_eq (ds := ds) hl
 have h2 := dval_eq (ds := ds) (n := 9 * q + 9) (by omega)
 rw [h1, h2]
 omega
def CutPost (s : ByteArray) (w : World) (e : Ending) (w' : World) : Prop :=
 ∃ v rs, e = .returned v ∧ Sl .u32 w' v rs ∧ Lb rs ∧ val rs = dval (digs s) ∧ Below w.heap.size w w'
set_option maxRecDepth 100000 in
set_option maxHeartbeats 1000000 in
theorem cut_any (s : ByteArray) (w : World) (hs : s.size ≤ 576) (hd : ∀ j, j < s.size → 48 ≤ bt s j ∧ bt s j ≤ 57) :
 Calls Tryz.prog 230 #[.string s] w (CutPost s w) := by
 obtain ⟨i0, hi, hz0, hz1, hz2⟩ := info_parts infoU32
 have HD := Lib.hid hd; clear hd
 have HDB := Lib.hid (digs_db HD.out)
 go_enter Tryz.func230, Tryz.ntmps230
 go_wp2_with fail
 go_loopw [3, 4] (fun v i wr => ∃ (rs : List Nat) (q : Nat) (z : Int), i = .int .i64 z ∧ z + 9 * (q : Int) = (s.size : Int) ∧ -9 ≤ z ∧ MkOut (digs s) rs q ∧ wr.ownsRow w.heap.size 140 1 v rs.length (rs.map fun (x : Nat) => Value.int .u32 (x : Int)) ∧ Below w.heap.size w wr) (fun _ i _ => (intOf i + 9).toNat)
 case atStart => exact ⟨[], 0, s.size, rfl, by omega, by omega, MkOut.start _, World.ownsRow_nil _ _ _ _, Below.refl _ _⟩
 case round =>
  obtain ⟨rs, q, z, rfl, hz, hz9, hout, hown, hbel⟩ := hrel
  have hz5 : z ≤ (s.size : Int) := by omega
  have HZ := Lib.hid hz; clear hz
  have HO := Lib.hid hout; clear hout
  rcases (by omega : z ≤ 0 ∨ (0 < z ∧ z ≤ 9) ∨ 9 < z) with h0 | ⟨h0, h9⟩ | h9
  . have hd0 : decide (0 < z) = false := by rw [decide_eq_false_iff_not]; omega
    have hq : s.size ≤ 9 * q := by have := HZ.out; omega
    have hsl := owns_sl hown
    obtain ⟨a', c', rfl⟩ := owns_slice hown
    clear hown
    go_wp2
    go_ret
    exact ⟨_, rs, rfl, hsl, HO.out.b, by rw [HO.out.eq, dval_eq (by rw [digs_len]; omega)], hbel⟩
  . have hd0 : decide (0 < z) = true := by rw [decide_eq_true_iff]; omega
    go_wp2_with fail
    go_loopw [5, 6] (fun l i wx => ∃ (x kk p : Nat), kk ≤ 9 ∧ p + (9 * q + kk) = s.size ∧ l = .int .u32 (x : Nat) ∧ i = .int .i64 (p : Int) ∧ MkIn (digs s) q x kk ∧ wx = wr) (fun _ i _ => (z - intOf i).toNat)
    case atStart => exact ⟨0, z.toNat, 0, by omega, by have := HZ.out; omega, rfl, by go_num, MkIn.part (by rw [digs_len]; have := HZ.out; omega) (by omega), rfl⟩
    case round =>
     obtain ⟨x, kk, p, hkk, hp, rfl, rfl, hin, rfl⟩ := hrel
     have HP := Lib.hid hp
     rcases kk with _ | k
     . have hx := hin.lt
       have hlq : 9 * q < s.size := by have := HZ.out; omega
       have HN := Lib.hid (hin.next HO.out (by rw [digs_len]; exact hlq)); clear hin
       have hlen := HO.out.len
       have hsm : rs.length < 1000 := by omega
       have hpz1 : (p : Int) ≤ z := by have := HZ.out; omega
       have hpz2 : z ≤ (p : Int) := by have := HZ.out; omega
       have hsz := hbel.size
       clear hlen hp
       go_wp2_with (at_builtin; go_loud (refine wpList_append_own _ rfl _ _ 22 rfl w.heap.size 140 i0 (.int .u32 0) 1 4 Tryz.underlying22 hi hz0 hz1 hz2 rfl (by decide) _ rs.length (rs.map fun (x : Nat) => Value.int .u32 (x : Int)) rfl (hown.alloc _) ⟨wr.heap.size, 0, none⟩ 1 1 [.int .u32 (x : Int)] rfl (by simp) (cell_one_new _ _ _) (by intro u hu; rw [List.mem_singleton] at hu; subst hu; rfl) (by unfold maxLen; omega) (by omega) (by simp; omega) ?_); intro v' w2 hown1 hgrow hnil; clear hnil)
       go_roundw
       case rel =>
        have e1 : (List.map (fun (x : Nat) => Value.int .u32 (x : Int)) rs ++ [.int .u32 (x : Int)]) = (rs ++ [x]).map fun (x : Nat) => Value.int .u32 (x : Int) := by simp
        have e2 : rs.length + 1 = (rs ++ [x]).length := by simp
        rw [e1, e2] at hown1
        have hlo := hown.lt
        have hgrow' : World.grownBy _ w2 (Value.ownBlock _) := hgrow
        exact ⟨rs ++ [x], q + 1, z - 9, by go_num, by have := HZ.out; omega, by omega, HN.out, hown1, (hbel.alloc hsz _).grown hgrow' (by simp; omega) (fun k hk => (hlo k hk).1)⟩
       case measure => simp only [intOf]; omega
     . have h10 := hin.ten
       have hps : p < s.size := by omega
       have hpz : (p : Int) < z := by have := HZ.out; omega
       have HB := Lib.hid (bt_at hps)
       have hdg := HD.out p hps
       have HL := Lib.hid (digs_at (s := s) (p := p) (n := 9 * q + k) (by omega))
       have HN := Lib.hid (hin.step HDB.out (by omega)); clear hin
       have hb1 : 48 ≤ ((s[p].toNat : Nat) : Int) := by have := HB.out; omega
       have hb2 : ((s[p].toNat : Nat) : Int) ≤ 57 := by have := HB.out; omega
       clear hdg hp
       go_wp2_with fail
       go_roundw
       case rel =>
        have e := HB.out
        have e2 := HN.out
        rw [HL.out] at e2
        exact ⟨x * 10 + (bt s p - 48), k, p + 1, by omega, by have := HP.out; omega, by go_num, by go_num, e2, trivial⟩
       case measure => simp only [intOf]; omega
  . have hd0 : decide (0 < z) = true := by rw [decide_eq_true_iff]; omega
    go_wp2_with fail
    go_loopw [5, 6] (fun l i wx => ∃ (x kk p : Nat), kk ≤ 9 ∧ p + (9 * q + kk) = s.size ∧ l = .int .u32 (x : Nat) ∧ i = .int .i64 (p : Int) ∧ MkIn (digs s) q x kk ∧ wx = wr) (fun _ i _ => (z - intOf i).toNat)
    case atStart => exact ⟨0, 9, (z - 9).toNat, by omega, by have := HZ.out; omega, rfl, by go_num, MkIn.start _ _, rfl⟩
    case round =>
     obtain ⟨x, kk, p, hkk, hp, rfl, rfl, hin, rfl⟩ := hrel
     have HP := Lib.hid hp
     rcases kk with _ | k
     . have hx := hin.lt
       have hlq : 9 * q < s.size := by have := HZ.out; omega
       have HN := Lib.hid (hin.next HO.out (by rw [digs_len]; exact hlq)); clear hin
       have hlen := HO.out.len
       have hsm : rs.length < 1000 := by omega
       have hpz1 : (p : Int) ≤ z := by have := HZ.out; omega
       have hpz2 : z ≤ (p : Int) := by have := HZ.out; omega
       have hsz := hbel.size
       clear hlen hp
       go_wp2_with (at_builtin; go_loud (refine wpList_append_own _ rfl _ _ 22 rfl w.heap.size 140 i0 (.int .u32 0) 1 4 Tryz.underlying22 hi hz0 hz1 hz2 rfl (by decide) _ rs.length (rs.map fun (x : Nat) => Value.int .u32 (x : Int)) rfl (hown.alloc _) ⟨wr.heap.size, 0, none⟩ 1 1 [.int .u32 (x : Int)] rfl (by simp) (cell_one_new _ _ _) (by intro u hu; rw [List.mem_singleton] at hu; subst hu; rfl) (by unfold maxLen; omega) (by omega) (by simp; omega) ?_); intro v' w2 hown1 hgrow hnil; clear hnil)
       go_roundw
       case rel =>
        have e1 : (List.map (fun (x : Nat) => Value.int .u32 (x : Int)) rs ++ [.int .u32 (x : Int)]) = (rs ++ [x]).map fun (x : Nat) => Value.int .u32 (x : Int) := by simp
        have e2 : rs.length + 1 = (rs ++ [x]).length := by simp
        rw [e1, e2] at hown1
        have hlo := hown.lt
        have hgrow' : World.grownBy _ w2 (Value.ownBlock _) := hgrow
        exact ⟨rs ++ [x], q + 1, z - 9, by go_num, by have := HZ.out; omega, by omega, HN.out, hown1, (hbel.alloc hsz _).grown hgrow' (by simp; omega) (fun k hk => (hlo k hk).1)⟩
       case measure => simp only [intOf]; omega
     . have h10 := hin.ten
       have hps : p < s.size := by omega
       have hpz : (p : Int) < z := by have := HZ.out; omega
       have HB := Lib.hid (bt_at hps)
       have hdg := HD.out p hps
       have HL := Lib.hid (digs_at (s := s) (p := p) (n := 9 * q + k) (by omega))
       have HN := Lib.hid (hin.step HDB.out (by omega)); clear hin
       have hb1 : 48 ≤ ((s[p].toNat : Nat) : Int) := by have := HB.out; omega
       have hb2 : ((s[p].toNat : Nat) : Int) ≤ 57 := by have := HB.out; omega
       clear hdg hp
       go_wp2_with fail
       go_roundw
       case rel =>
        have e := HB.out
        have e2 := HN.out
        rw [HL.out] at e2
        exact ⟨x * 10 + (bt s p - 48), k, p + 1, by omega, by have := HP.out; omega, by go_num, by go_num, e2, trivial⟩
       case measure => simp only [intOf]; omega
end Go.Proofs.YtbfcbicbeagjkaaGreatDoor
