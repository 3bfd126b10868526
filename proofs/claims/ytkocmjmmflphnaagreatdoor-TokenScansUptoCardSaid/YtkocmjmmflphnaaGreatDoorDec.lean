/- num.decimal, num.cut -/
import Derived.Test.YtkocmjmmflphnaaGreatDoorDigMath
import Derived.LoopTactic
namespace Go.Proofs.YtkocmjmmflphnaaGreatDoor
open Go.RowKit

/-- A text's byte. -/
def bt (s : ByteArray) (j : Nat) : Nat := (s.data.toList.getD j 0).toNat
theorem bt_at {s : ByteArray} {j : Nat} (h : j < s.size) : bt s j = s[j].toNat := by
  unfold bt
  have hl : j < s.data.toList.length := by simpa using h
  simp [List.getD_eq_getElem?_getD, List.getElem?_eq_getElem hl]
  rfl
theorem bt_lt (s : ByteArray) (j : Nat) : bt s j < 256 := by unfold bt; exact UInt8.toNat_lt _
def dgB (n : Nat) : Bool := decide (48 ≤ n ∧ n ≤ 57)
/-- Digits alone. -/
def allD (s : ByteArray) : Bool := s.data.toList.all fun c => dgB c.toNat
theorem ret_bool' {a b : Bool} (h : a = b) : Ending.returned (.bool a) = .returned (.bool b) := by rw [h]
theorem allD_true {s : ByteArray} (h : ∀ j, j < s.size → 48 ≤ bt s j ∧ bt s j ≤ 57) : allD s = true := by
  unfold allD
  rw [List.all_eq_true]
  intro c hc
  obtain ⟨j, hj, rfl⟩ := List.getElem_of_mem hc
  have := h j (by simpa using hj)
  unfold bt at this
  unfold dgB
  simp [List.getD_eq_getElem?_getD, List.getElem?_eq_getElem hj] at this
  simpa using this
theorem allD_false {s : ByteArray} {j : Nat} (hj : j < s.size) (h : ¬ (48 ≤ bt s j ∧ bt s j ≤ 57)) : allD s = false := by
  unfold allD
  rw [List.all_eq_false]
  have hl : j < s.data.toList.length := by simpa using hj
  refine ⟨s.data.toList[j], List.getElem_mem hl, ?_⟩
  unfold bt at h
  unfold dgB
  simp [List.getD_eq_getElem?_getD, List.getElem?_eq_getElem hl] at h
  simpa using h

set_option maxRecDepth 100000 in
set_option maxHeartbeats 1000000 in
theorem decimal_any (s : ByteArray) (w : World) (hs : s.size ≤ maxLen) :
    Calls Tryz.prog 65 #[.string s] w fun e w' => e = .returned (.bool (allD s)) ∧ w = w' := by
  unfold maxLen at hs
  go_enter Tryz.func65, Tryz.ntmps65
  go_wp2
  go_loop [6] (fun i => ∃ k : Nat, k ≤ s.size ∧ i = .int .i64 (k : Int) ∧ ∀ j, j < k → 48 ≤ bt s j ∧ bt s j ≤ 57) (fun i => s.size - (intOf i).toNat)
  case atStart => exact ⟨0, by omega, rfl, fun j hj => by omega⟩
  case round =>
    obtain ⟨k, hk, rfl, hall⟩ := hrel
    have HA := Lib.hid hall; clear hall
    by_cases hlt : k < s.size
    · have HB := Lib.hid (bt_at hlt)
      have hbl := bt_lt s k
      go_wp2
      all_goals have e := HB.out
      all_goals first
        | (go_ret
           exact ⟨ret_bool' (allD_false hlt (by omega)).symm, rfl⟩)
        | (go_round
           case rel => exact ⟨k + 1, by omega, by go_num, fun j hj => by
             by_cases e2 : j = k
             · subst e2; omega
             · exact HA.out j (by omega)⟩
           case measure => simp only [intOf]; omega)
    · have HV := Lib.hid (allD_true (s := s) fun j hj => HA.out j (by omega))
      go_wp2
      go_ret
      exact ⟨ret_bool' HV.out.symm, rfl⟩
/-- A text's digits, the lowest first. -/
def digs (s : ByteArray) : List Nat := (List.range s.size).map fun j => bt s (s.size - 1 - j) - 48
theorem digs_len (s : ByteArray) : (digs s).length = s.size := by simp [digs]
theorem digs_at {s : ByteArray} {p n : Nat} (h : p + (n + 1) = s.size) : limb (digs s) n = bt s p - 48 := by
  have hn : n < (digs s).length := by rw [digs_len]; omega
  rw [limb_lt hn]
  simp only [digs, List.getElem_map, List.getElem_range]
  rw [show s.size - 1 - n = p by omega]
theorem digs_db {s : ByteArray} (h : ∀ j, j < s.size → 48 ≤ bt s j ∧ bt s j ≤ 57) : Db (digs s) := by
  intro i
  by_cases hi : i < s.size
  · rw [digs_at (p := s.size - 1 - i) (by omega)]
    have := h (s.size - 1 - i) (by omega)
    omega
  · rw [limb_out (by rw [digs_len]; omega)]; omega
theorem MkIn.part {ds : List Nat} {q k : Nat} (hl : ds.length ≤ 9 * q + k) (hk : k ≤ 9) : MkIn ds q 0 k := by
  refine ⟨?_, by omega⟩
  have h1 := dval_eq (ds := ds) hl
  have h2 := dval_eq (ds := ds) (n := 9 * q + 9) (by omega)
  rw [h1, h2]
  omega

/-- What cut answers. -/
def CutPost (s : ByteArray) (w : World) (e : Ending) (w' : World) : Prop :=
  ∃ v rs, e = .returned v ∧ Sl .u32 w' v rs ∧ Lb rs ∧ val rs = dval (digs s) ∧ Below w.heap.size w w'
set_option maxRecDepth 100000 in
set_option maxHeartbeats 1000000 in
theorem cut_any (s : ByteArray) (w : World) (hs : s.size ≤ 576) (hd : ∀ j, j < s.size → 48 ≤ bt s j ∧ bt s j ≤ 57) :
    Calls Tryz.prog 68 #[.string s] w (CutPost s w) := by
  obtain ⟨i0, hi, hz0, hz1, hz2⟩ := info_parts infoU32
  have HD := Lib.hid hd; clear hd
  have HDB := Lib.hid (digs_db HD.out)
  go_enter Tryz.func68, Tryz.ntmps68
  go_wp2_with fail
  go_loopw [3, 4] (fun v i wr => ∃ (rs : List Nat) (q : Nat) (z : Int), i = .int .i64 z ∧ z + 9 * (q : Int) = (s.size : Int) ∧ -9 ≤ z ∧ MkOut (digs s) rs q ∧ wr.ownsRow w.heap.size 82 1 v rs.length (rs.map fun (x : Nat) => Value.int .u32 (x : Int)) ∧ Below w.heap.size w wr) (fun _ i _ => (intOf i + 9).toNat)
  case atStart => exact ⟨[], 0, s.size, rfl, by omega, by omega, MkOut.start _, World.ownsRow_nil _ _ _ _, Below.refl _ _⟩
  case round =>
    obtain ⟨rs, q, z, rfl, hz, hz9, hout, hown, hbel⟩ := hrel
    have hz5 : z ≤ (s.size : Int) := by omega
    have HZ := Lib.hid hz; clear hz
    have HO := Lib.hid hout; clear hout
    rcases (by omega : z ≤ 0 ∨ (0 < z ∧ z ≤ 9) ∨ 9 < z) with h0 | ⟨h0, h9⟩ | h9
    · have hd0 : decide (0 < z) = false := by rw [decide_eq_false_iff_not]; omega
      have hq : s.size ≤ 9 * q := by have := HZ.out; omega
      have hsl := owns_sl hown
      obtain ⟨a', c', rfl⟩ := owns_slice hown
      clear hown
      go_wp2
      go_ret
      exact ⟨_, rs, rfl, hsl, HO.out.b, by rw [HO.out.eq, dval_eq (by rw [digs_len]; omega)], hbel⟩
    · have hd0 : decide (0 < z) = true := by rw [decide_eq_true_iff]; omega
      go_wp2_with fail
      go_loopw [5, 6] (fun l i wx => ∃ (x kk p : Nat), kk ≤ 9 ∧ p + (9 * q + kk) = s.size ∧ l = .int .u32 (x : Nat) ∧ i = .int .i64 (p : Int) ∧ MkIn (digs s) q x kk ∧ wx = wr) (fun _ i _ => (z - intOf i).toNat)
      case atStart => exact ⟨0, z.toNat, 0, by omega, by have := HZ.out; omega, rfl, by go_num, MkIn.part (by rw [digs_len]; have := HZ.out; omega) (by omega), rfl⟩
      case round =>
        obtain ⟨x, kk, p, hkk, hp, rfl, rfl, hin, rfl⟩ := hrel
        have HP := Lib.hid hp
        rcases kk with _ | k
        · have hx := hin.lt
          have hlq : 9 * q < s.size := by have := HZ.out; omega
          have HN := Lib.hid (hin.next HO.out (by rw [digs_len]; exact hlq)); clear hin
          have hlen := HO.out.len
          have hsm : rs.length < 1000 := by omega
          have hpz1 : (p : Int) ≤ z := by have := HZ.out; omega
          have hpz2 : z ≤ (p : Int) := by have := HZ.out; omega
          have hsz := hbel.size
          clear hlen hp
          go_wp2_with (at_builtin; go_loud (refine wpList_append_own _ rfl _ _ 37 rfl w.heap.size 82 i0 (.int .u32 0) 1 4 Tryz.underlying37 hi hz0 hz1 hz2 rfl (by decide) _ rs.length (rs.map fun (x : Nat) => Value.int .u32 (x : Int)) rfl (hown.alloc _) ⟨wr.heap.size, 0, none⟩ 1 1 [.int .u32 (x : Int)] rfl (by simp) (cell_one_new _ _ _) (by intro u hu; rw [List.mem_singleton] at hu; subst hu; rfl) (by unfold maxLen; omega) (by omega) (by simp; omega) ?_); intro v' w2 hown1 hgrow hnil; clear hnil)
          go_roundw
          case rel =>
            have e1 : (List.map (fun (x : Nat) => Value.int .u32 (x : Int)) rs ++ [.int .u32 (x : Int)]) = (rs ++ [x]).map fun (x : Nat) => Value.int .u32 (x : Int) := by simp
            have e2 : rs.length + 1 = (rs ++ [x]).length := by simp
            rw [e1, e2] at hown1
            have hlo := hown.lt
            have hgrow' : World.grownBy _ w2 (Value.ownBlock _) := hgrow
            exact ⟨rs ++ [x], q + 1, z - 9, by go_num, by have := HZ.out; omega, by omega, HN.out, hown1, (hbel.alloc hsz _).grown hgrow' (by simp; omega) (fun k hk => (hlo k hk).1)⟩
          case measure => simp only [intOf]; omega
        · have h10 := hin.ten
          have hps : p < s.size := by omega
          have hpz : (p : Int) < z := by have := HZ.out; omega
          have HB := Lib.hid (bt_at hps)
          have hdg := HD.out p hps
          have HL := Lib.hid (digs_at (s := s) (p := p) (n := 9 * q + k) (by omega))
          have HN := Lib.hid (hin.step HDB.out (by omega)); clear hin
          have hb1 : 48 ≤ ((s[p].toNat : Nat) : Int) := by have := HB.out; omega
          have hb2 : ((s[p].toNat : Nat) : Int) ≤ 57 := by have := HB.out; omega
          clear hdg hp
          go_wp2_with fail
          go_roundw
          case rel =>
            have e := HB.out
            have e2 := HN.out
            rw [HL.out] at e2
            exact ⟨x * 10 + (bt s p - 48), k, p + 1, by omega, by have := HP.out; omega, by go_num, by go_num, e2, trivial⟩
          case measure => simp only [intOf]; omega
    · have hd0 : decide (0 < z) = true := by rw [decide_eq_true_iff]; omega
      go_wp2_with fail
      go_loopw [5, 6] (fun l i wx => ∃ (x kk p : Nat), kk ≤ 9 ∧ p + (9 * q + kk) = s.size ∧ l = .int .u32 (x : Nat) ∧ i = .int .i64 (p : Int) ∧ MkIn (digs s) q x kk ∧ wx = wr) (fun _ i _ => (z - intOf i).toNat)
      case atStart => exact ⟨0, 9, (z - 9).toNat, by omega, by have := HZ.out; omega, rfl, by go_num, MkIn.start _ _, rfl⟩
      case round =>
        obtain ⟨x, kk, p, hkk, hp, rfl, rfl, hin, rfl⟩ := hrel
        have HP := Lib.hid hp
        rcases kk with _ | k
        · have hx := hin.lt
          have hlq : 9 * q < s.size := by have := HZ.out; omega
          have HN := Lib.hid (hin.next HO.out (by rw [digs_len]; exact hlq)); clear hin
          have hlen := HO.out.len
          have hsm : rs.length < 1000 := by omega
          have hpz1 : (p : Int) ≤ z := by have := HZ.out; omega
          have hpz2 : z ≤ (p : Int) := by have := HZ.out; omega
          have hsz := hbel.size
          clear hlen hp
          go_wp2_with (at_builtin; go_loud (refine wpList_append_own _ rfl _ _ 37 rfl w.heap.size 82 i0 (.int .u32 0) 1 4 Tryz.underlying37 hi hz0 hz1 hz2 rfl (by decide) _ rs.length (rs.map fun (x : Nat) => Value.int .u32 (x : Int)) rfl (hown.alloc _) ⟨wr.heap.size, 0, none⟩ 1 1 [.int .u32 (x : Int)] rfl (by simp) (cell_one_new _ _ _) (by intro u hu; rw [List.mem_singleton] at hu; subst hu; rfl) (by unfold maxLen; omega) (by omega) (by simp; omega) ?_); intro v' w2 hown1 hgrow hnil; clear hnil)
          go_roundw
          case rel =>
            have e1 : (List.map (fun (x : Nat) => Value.int .u32 (x : Int)) rs ++ [.int .u32 (x : Int)]) = (rs ++ [x]).map fun (x : Nat) => Value.int .u32 (x : Int) := by simp
            have e2 : rs.length + 1 = (rs ++ [x]).length := by simp
            rw [e1, e2] at hown1
            have hlo := hown.lt
            have hgrow' : World.grownBy _ w2 (Value.ownBlock _) := hgrow
            exact ⟨rs ++ [x], q + 1, z - 9, by go_num, by have := HZ.out; omega, by omega, HN.out, hown1, (hbel.alloc hsz _).grown hgrow' (by simp; omega) (fun k hk => (hlo k hk).1)⟩
          case measure => simp only [intOf]; omega
        · have h10 := hin.ten
          have hps : p < s.size := by omega
          have hpz : (p : Int) < z := by have := HZ.out; omega
          have HB := Lib.hid (bt_at hps)
          have hdg := HD.out p hps
          have HL := Lib.hid (digs_at (s := s) (p := p) (n := 9 * q + k) (by omega))
          have HN := Lib.hid (hin.step HDB.out (by omega)); clear hin
          have hb1 : 48 ≤ ((s[p].toNat : Nat) : Int) := by have := HB.out; omega
          have hb2 : ((s[p].toNat : Nat) : Int) ≤ 57 := by have := HB.out; omega
          clear hdg hp
          go_wp2_with fail
          go_roundw
          case rel =>
            have e := HB.out
            have e2 := HN.out
            rw [HL.out] at e2
            exact ⟨x * 10 + (bt s p - 48), k, p + 1, by omega, by have := HP.out; omega, by go_num, by go_num, e2, trivial⟩
          case measure => simp only [intOf]; omega
end Go.Proofs.YtkocmjmmflphnaaGreatDoor
