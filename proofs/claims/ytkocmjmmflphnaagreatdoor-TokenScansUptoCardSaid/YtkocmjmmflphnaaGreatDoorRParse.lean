/- ref.Parse -/
import Derived.Test.YtkocmjmmflphnaaGreatDoorParseMath
import Derived.Test.YtkocmjmmflphnaaGreatDoorRTrim
import Derived.Test.YtkocmjmmflphnaaGreatDoorApp
namespace Go.Proofs.YtkocmjmmflphnaaGreatDoor
open Go.RowKit

theorem takeB_step {s : ByteArray} {k : Nat} (h : fromA s ≤ k) (hk : k + 1 ≤ s.size) : (bodyA s).take (s.size - k) = (bodyA s).take (s.size - (k + 1)) ++ [bt s k - 48] := by
  obtain ⟨n, hn⟩ : ∃ n, s.size = k + (n + 1) := ⟨s.size - k - 1, by omega⟩
  have h1 : s.size - k = n + 1 := by omega
  have h2 : s.size - (k + 1) = n := by omega
  have hl : n < (bodyA s).length := by rw [bodyA_len]; omega
  rw [h1, h2, List.take_succ_eq_append_getElem hl]
  congr 2
  have := bodyA_at (s := s) (p := k) (n := n) (by omega) h
  rwa [limb_lt hl] at this
theorem makeP {s : ByteArray} {neg' ok : Bool} {rs : List Nat} (hok : okA s) (h : (ok = true ∧ Snd neg' rs ∧ val rs = dval (bodyA s) ∧ (rs ≠ [] → neg' = negA s)) ∨ (ok = false ∧ neg' = false ∧ rs = [] ∧ 1000000000 ^ 64 ≤ dval (bodyA s))) :
    (okA s ∧ ok = true ∧ Snd neg' rs ∧ val rs = dval (bodyA s) ∧ (rs ≠ [] → neg' = negA s)) ∨ (ok = false ∧ neg' = false ∧ rs = [] ∧ (okA s → 1000000000 ^ 64 ≤ dval (bodyA s))) := by
  rcases h with ⟨a, b, c, d⟩ | ⟨a, b, c, d⟩
  · exact .inl ⟨hok, a, b, c, d⟩
  · exact .inr ⟨a, b, c, fun _ => d⟩

set_option maxRecDepth 100000 in
set_option maxHeartbeats 2000000 in
theorem rparse_minus (s : ByteArray) (w : World) (hs : s.size ≤ 100000000) (h0 : 0 < s.size) (h1 : bt s 0 = 45) :
    Calls Tryz.prog 32 #[.string s] w (PPost s w) := by
  obtain ⟨i0, hi, hz0, hz1, hz2⟩ := info_parts infoB
  have HF := Lib.hid (show fromA s = 1 from by unfold fromA; rw [if_pos ⟨h0, by omega⟩])
  have hq0 := bt_at h0
  have hn1 : (((s[0].toNat : Nat) : Int) == 45) = true := by rw [beq_iff_eq]; omega
  have HNG : Hid (negA s = true) := Lib.hid (by unfold negA; simp [h1])
  clear hq0
  have hb0 := below1 w (.cells #[.bool false, .slice none 0 0] 39)
  have hr0 : (w.alloc (.cells #[.bool false, .slice none 0 0] 39)).heap[w.heap.size]? = some (.cells #[.bool false, .slice none 0 0] 39 (0, 0)) := heap_alloc_new w _
  rcases (by omega : s.size ≤ 1 ∨ 1 < s.size) with hsz | hsz
  · have hx1 : (1 == (s.size : Int)) = true := by rw [beq_iff_eq]; omega
    have hno : ¬ okA s := fun h => by have := h.1; rw [HF.out] at this; omega
    have HNO := Lib.hid hno
    clear hno hr0
    go_enter Tryz.func32, Tryz.ntmps32
    go_wp2
    refine bodyPost_ret (v := .tuple #[.agg #[.bool false, .slice none 0 0], .bool false]) (by simp [results, Tryz.results32, go_sem]) rfl ?_
    first
      | exact PPost.no ⟨_, rfl, Sl.nil _ _⟩ ((hb0.setCell (Nat.le_refl _) _).setCell (Nat.le_refl _) _) HNO.out
      | exact PPost.no ⟨_, rfl, Sl.nil _ _⟩ hb0 HNO.out
  have hx1 : (1 == (s.size : Int)) = false := by rw [beq_eq_false_iff_ne]; omega
  go_enter Tryz.func32, Tryz.ntmps32
  go_wp2_with fail
  go_loopw [5, 6] (fun v i wr => ∃ k : Nat, 1 ≤ k ∧ k ≤ s.size ∧ i = .int .i64 ((k : Int) - 1) ∧ (∀ j, k ≤ j → j < s.size → 48 ≤ bt s j ∧ bt s j ≤ 57) ∧ wr.ownsRow (w.heap.size + 1) 5 1 v (s.size - k) (cellsOf .u8 ((bodyA s).take (s.size - k))) ∧ wr.heap[w.heap.size]? = some (.cells #[.bool false, .slice none 0 0] 39 (0, 0)) ∧ Below w.heap.size w wr ∧ w.heap.size < wr.heap.size) (fun _ i _ => (intOf i + 1).toNat)
  case atStart => exact ⟨s.size, by omega, Nat.le_refl _, rfl, fun j h1 h2 => by omega, by rw [Nat.sub_self]; exact World.ownsRow_nil _ _ _ _, hr0, hb0, by simp⟩
  case round =>
    clear hr0 hb0
    obtain ⟨k, hkF, hk, rfl, hall, hown, hr, hbel, hlt⟩ := hrel
    have HA := Lib.hid hall; clear hall
    by_cases hkk : k = 1
    · subst hkk
      have hok : okA s := ⟨by rw [HF.out]; exact hsz, fun j h1 h2 => HA.out j (by rw [HF.out] at h1; exact h1) h2⟩
      have HOK := Lib.hid hok
      have hbl : (bodyA s).take (s.size - 1) = bodyA s := List.take_of_length_le (by rw [bodyA_len, HF.out]; exact Nat.le_refl _)
      rw [hbl] at hown
      have hsl := owns_sl (k := .u8) (xs := bodyA s) hown
      obtain ⟨a', c', rfl⟩ := owns_slice hown
      have HDB := Lib.hid (bodyA_db hok)
      clear hown hok hbl
      go_wp2_with fail
      refine (rmake_any true _ (bodyA s) _ hsl HDB.out).mono ?_
      rintro e w2 ⟨v2, neg2, rs, ok, rfl, ⟨sv2, rfl, hs2⟩, hb2, hres⟩
      have hr2 := (hb2.block w.heap.size hlt).trans hr
      have r0 := cell_heap hr2 0
      have r1 := cell_heap hr2 1
      have f0 := frozen_heap hr2 0
      have f1 := frozen_heap hr2 1
      have hbw := hbel.trans (hb2.mono hbel.size)
      have HS2 := Lib.hid hs2
      obtain ⟨p1, ao4, cap4, rfl, p2, p3⟩ := hs2
      have HRES := Lib.hid (makeP HOK.out (by rw [HNG.out]; exact hres))
      have HR2 := Lib.hid hr2
      clear hres p1 p2 p3 hr hr2
      go_wp2
      refine bodyPost_ret (v := .tuple #[.agg #[.bool neg2, .slice ao4 rs.length cap4], .bool ok]) (by simp [results, Tryz.results32, go_sem, r0, r1]) rfl ?_
      exact ⟨_, neg2, rs, ok, rfl, ⟨_, rfl, HS2.out.box HR2.out _ _⟩, (hbw.setCell (Nat.le_refl _) _).setCell (Nat.le_refl _) _, HRES.out⟩
    · obtain ⟨p, rfl⟩ : ∃ p, k = p + 1 := ⟨k - 1, by omega⟩
      have hps : p < s.size := by omega
      have hpF : 1 ≤ p := by omega
      have HB := Lib.hid (bt_at hps)
      have hbl := bt_lt s p
      by_cases hdg : 48 ≤ bt s p ∧ bt s p ≤ 57
      · have HST := Lib.hid (takeB_step (s := s) (k := p) (by rw [HF.out]; exact hpF) hk)
        have HDG := Lib.hid hdg
        have hb1 : 48 ≤ ((s[p].toNat : Nat) : Int) := by have := HB.out; omega
        have hb2 : ((s[p].toNat : Nat) : Int) ≤ 57 := by have := HB.out; omega
        have HR := Lib.hid hr
        clear hdg hkk hr
        go_wp2_with (at_builtin; go_loud (refine wpList_append_own _ rfl _ _ 36 rfl (w.heap.size + 1) 5 i0 (.int .u8 0) 1 1 Tryz.underlying36 hi hz0 hz1 hz2 rfl (by decide) _ (s.size - (p + 1)) (cellsOf .u8 ((bodyA s).take (s.size - (p + 1)))) rfl (hown.alloc _) ⟨wr.heap.size, 0, none⟩ 1 1 [.int .u8 ((s[p].toNat : Int) - 48)] rfl (by simp) (cell_one_new _ _ _) (by intro u hu; rw [List.mem_singleton] at hu; subst hu; rfl) (by unfold maxLen; omega) (by omega) (by simp; omega) ?_); intro v' w4 hown1 hgrow hnil; clear hnil)
        go_roundw
        case rel =>
          have e0 := HB.out
          have e3 := HDG.out
          have e1 : (cellsOf .u8 ((bodyA s).take (s.size - (p + 1))) ++ [.int .u8 ((s[p].toNat : Int) - 48)]) = cellsOf .u8 ((bodyA s).take (s.size - p)) := by
            rw [HST.out, cellsOf_append]
            have : ((s[p].toNat : Int) - 48) = ((bt s p - 48 : Nat) : Int) := by omega
            rw [this]
            rfl
          have e2 : s.size - (p + 1) + 1 = s.size - p := by omega
          rw [e1, e2] at hown1
          have hlo := hown.lt
          have hgrow' : World.grownBy _ w4 (Value.ownBlock _) := hgrow
          refine ⟨p, hpF, by omega, by go_num, fun j h1 h2 => ?_, hown1, ?_, (hbel.alloc (Nat.le_of_lt hlt) _).grown hgrow' (by simp; omega) (fun k hk => by have := (hlo k hk).1; omega), by have := hgrow'.size; simp at this; omega⟩
          · by_cases e : j = p
            · subst e; exact e3
            · exact HA.out j (by omega) h2
          · rw [hgrow'.block w.heap.size (by simp; omega) (fun h => by have := (hlo _ h.symm).1; omega), Below.heap_alloc _ _ _ hlt]
            exact HR.out
        case measure => simp only [intOf]; omega
      · have hno : ¬ okA s := fun h => hdg (h.2 p (by rw [HF.out]; exact hpF) hps)
        have HNO := Lib.hid hno
        have r0 := cell_heap hr 0
        have r1 := cell_heap hr 1
        have f0 := frozen_heap hr 0
        have f1 := frozen_heap hr 1
        rcases (by omega : bt s p < 48 ∨ 57 < bt s p) with hlo | hhi
        · have hb1 : ((s[p].toNat : Nat) : Int) < 48 := by have := HB.out; omega
          clear hno hdg hkk hown hr
          go_wp2
          refine bodyPost_ret (v := .tuple #[.agg #[.bool false, .slice none 0 0], .bool false]) (by simp [results, Tryz.results32, go_sem, r0, r1]) rfl ?_
          first
            | exact PPost.no ⟨_, rfl, Sl.nil _ _⟩ ((hbel.setCell (Nat.le_refl _) _).setCell (Nat.le_refl _) _) HNO.out
            | exact PPost.no ⟨_, rfl, Sl.nil _ _⟩ hbel HNO.out
        · have hb1 : 57 < ((s[p].toNat : Nat) : Int) := by have := HB.out; omega
          have hb2 : 48 ≤ ((s[p].toNat : Nat) : Int) := by have := HB.out; omega
          clear hno hdg hkk hown hr
          go_wp2
          refine bodyPost_ret (v := .tuple #[.agg #[.bool false, .slice none 0 0], .bool false]) (by simp [results, Tryz.results32, go_sem, r0, r1]) rfl ?_
          first
            | exact PPost.no ⟨_, rfl, Sl.nil _ _⟩ ((hbel.setCell (Nat.le_refl _) _).setCell (Nat.le_refl _) _) HNO.out
            | exact PPost.no ⟨_, rfl, Sl.nil _ _⟩ hbel HNO.out

set_option maxRecDepth 100000 in
set_option maxHeartbeats 2000000 in
theorem rparse_plus (s : ByteArray) (w : World) (hs : s.size ≤ 100000000) (h0 : 0 < s.size) (h1 : bt s 0 = 43) :
    Calls Tryz.prog 32 #[.string s] w (PPost s w) := by
  obtain ⟨i0, hi, hz0, hz1, hz2⟩ := info_parts infoB
  have HF := Lib.hid (show fromA s = 1 from by unfold fromA; rw [if_pos ⟨h0, by omega⟩])
  have hq0 := bt_at h0
  have hn1 : (((s[0].toNat : Nat) : Int) == 45) = false := by rw [beq_eq_false_iff_ne]; omega
  have hn2 : (((s[0].toNat : Nat) : Int) == 43) = true := by rw [beq_iff_eq]; omega
  have HNG : Hid (negA s = false) := Lib.hid (by unfold negA; simp [h1])
  clear hq0
  have hb0 := below1 w (.cells #[.bool false, .slice none 0 0] 39)
  have hr0 : (w.alloc (.cells #[.bool false, .slice none 0 0] 39)).heap[w.heap.size]? = some (.cells #[.bool false, .slice none 0 0] 39 (0, 0)) := heap_alloc_new w _
  rcases (by omega : s.size ≤ 1 ∨ 1 < s.size) with hsz | hsz
  · have hx1 : (1 == (s.size : Int)) = true := by rw [beq_iff_eq]; omega
    have hno : ¬ okA s := fun h => by have := h.1; rw [HF.out] at this; omega
    have HNO := Lib.hid hno
    clear hno hr0
    go_enter Tryz.func32, Tryz.ntmps32
    go_wp2
    refine bodyPost_ret (v := .tuple #[.agg #[.bool false, .slice none 0 0], .bool false]) (by simp [results, Tryz.results32, go_sem]) rfl ?_
    first
      | exact PPost.no ⟨_, rfl, Sl.nil _ _⟩ ((hb0.setCell (Nat.le_refl _) _).setCell (Nat.le_refl _) _) HNO.out
      | exact PPost.no ⟨_, rfl, Sl.nil _ _⟩ hb0 HNO.out
  have hx1 : (1 == (s.size : Int)) = false := by rw [beq_eq_false_iff_ne]; omega
  go_enter Tryz.func32, Tryz.ntmps32
  go_wp2_with fail
  go_loopw [5, 6] (fun v i wr => ∃ k : Nat, 1 ≤ k ∧ k ≤ s.size ∧ i = .int .i64 ((k : Int) - 1) ∧ (∀ j, k ≤ j → j < s.size → 48 ≤ bt s j ∧ bt s j ≤ 57) ∧ wr.ownsRow (w.heap.size + 1) 5 1 v (s.size - k) (cellsOf .u8 ((bodyA s).take (s.size - k))) ∧ wr.heap[w.heap.size]? = some (.cells #[.bool false, .slice none 0 0] 39 (0, 0)) ∧ Below w.heap.size w wr ∧ w.heap.size < wr.heap.size) (fun _ i _ => (intOf i + 1).toNat)
  case atStart => exact ⟨s.size, by omega, Nat.le_refl _, rfl, fun j h1 h2 => by omega, by rw [Nat.sub_self]; exact World.ownsRow_nil _ _ _ _, hr0, hb0, by simp⟩
  case round =>
    clear hr0 hb0
    obtain ⟨k, hkF, hk, rfl, hall, hown, hr, hbel, hlt⟩ := hrel
    have HA := Lib.hid hall; clear hall
    by_cases hkk : k = 1
    · subst hkk
      have hok : okA s := ⟨by rw [HF.out]; exact hsz, fun j h1 h2 => HA.out j (by rw [HF.out] at h1; exact h1) h2⟩
      have HOK := Lib.hid hok
      have hbl : (bodyA s).take (s.size - 1) = bodyA s := List.take_of_length_le (by rw [bodyA_len, HF.out]; exact Nat.le_refl _)
      rw [hbl] at hown
      have hsl := owns_sl (k := .u8) (xs := bodyA s) hown
      obtain ⟨a', c', rfl⟩ := owns_slice hown
      have HDB := Lib.hid (bodyA_db hok)
      clear hown hok hbl
      go_wp2_with fail
      refine (rmake_any false _ (bodyA s) _ hsl HDB.out).mono ?_
      rintro e w2 ⟨v2, neg2, rs, ok, rfl, ⟨sv2, rfl, hs2⟩, hb2, hres⟩
      have hr2 := (hb2.block w.heap.size hlt).trans hr
      have r0 := cell_heap hr2 0
      have r1 := cell_heap hr2 1
      have f0 := frozen_heap hr2 0
      have f1 := frozen_heap hr2 1
      have hbw := hbel.trans (hb2.mono hbel.size)
      have HS2 := Lib.hid hs2
      obtain ⟨p1, ao4, cap4, rfl, p2, p3⟩ := hs2
      have HRES := Lib.hid (makeP HOK.out (by rw [HNG.out]; exact hres))
      have HR2 := Lib.hid hr2
      clear hres p1 p2 p3 hr hr2
      go_wp2
      refine bodyPost_ret (v := .tuple #[.agg #[.bool neg2, .slice ao4 rs.length cap4], .bool ok]) (by simp [results, Tryz.results32, go_sem, r0, r1]) rfl ?_
      exact ⟨_, neg2, rs, ok, rfl, ⟨_, rfl, HS2.out.box HR2.out _ _⟩, (hbw.setCell (Nat.le_refl _) _).setCell (Nat.le_refl _) _, HRES.out⟩
    · obtain ⟨p, rfl⟩ : ∃ p, k = p + 1 := ⟨k - 1, by omega⟩
      have hps : p < s.size := by omega
      have hpF : 1 ≤ p := by omega
      have HB := Lib.hid (bt_at hps)
      have hbl := bt_lt s p
      by_cases hdg : 48 ≤ bt s p ∧ bt s p ≤ 57
      · have HST := Lib.hid (takeB_step (s := s) (k := p) (by rw [HF.out]; exact hpF) hk)
        have HDG := Lib.hid hdg
        have hb1 : 48 ≤ ((s[p].toNat : Nat) : Int) := by have := HB.out; omega
        have hb2 : ((s[p].toNat : Nat) : Int) ≤ 57 := by have := HB.out; omega
        have HR := Lib.hid hr
        clear hdg hkk hr
        go_wp2_with (at_builtin; go_loud (refine wpList_append_own _ rfl _ _ 36 rfl (w.heap.size + 1) 5 i0 (.int .u8 0) 1 1 Tryz.underlying36 hi hz0 hz1 hz2 rfl (by decide) _ (s.size - (p + 1)) (cellsOf .u8 ((bodyA s).take (s.size - (p + 1)))) rfl (hown.alloc _) ⟨wr.heap.size, 0, none⟩ 1 1 [.int .u8 ((s[p].toNat : Int) - 48)] rfl (by simp) (cell_one_new _ _ _) (by intro u hu; rw [List.mem_singleton] at hu; subst hu; rfl) (by unfold maxLen; omega) (by omega) (by simp; omega) ?_); intro v' w4 hown1 hgrow hnil; clear hnil)
        go_roundw
        case rel =>
          have e0 := HB.out
          have e3 := HDG.out
          have e1 : (cellsOf .u8 ((bodyA s).take (s.size - (p + 1))) ++ [.int .u8 ((s[p].toNat : Int) - 48)]) = cellsOf .u8 ((bodyA s).take (s.size - p)) := by
            rw [HST.out, cellsOf_append]
            have : ((s[p].toNat : Int) - 48) = ((bt s p - 48 : Nat) : Int) := by omega
            rw [this]
            rfl
          have e2 : s.size - (p + 1) + 1 = s.size - p := by omega
          rw [e1, e2] at hown1
          have hlo := hown.lt
          have hgrow' : World.grownBy _ w4 (Value.ownBlock _) := hgrow
          refine ⟨p, hpF, by omega, by go_num, fun j h1 h2 => ?_, hown1, ?_, (hbel.alloc (Nat.le_of_lt hlt) _).grown hgrow' (by simp; omega) (fun k hk => by have := (hlo k hk).1; omega), by have := hgrow'.size; simp at this; omega⟩
          · by_cases e : j = p
            · subst e; exact e3
            · exact HA.out j (by omega) h2
          · rw [hgrow'.block w.heap.size (by simp; omega) (fun h => by have := (hlo _ h.symm).1; omega), Below.heap_alloc _ _ _ hlt]
            exact HR.out
        case measure => simp only [intOf]; omega
      · have hno : ¬ okA s := fun h => hdg (h.2 p (by rw [HF.out]; exact hpF) hps)
        have HNO := Lib.hid hno
        have r0 := cell_heap hr 0
        have r1 := cell_heap hr 1
        have f0 := frozen_heap hr 0
        have f1 := frozen_heap hr 1
        rcases (by omega : bt s p < 48 ∨ 57 < bt s p) with hlo | hhi
        · have hb1 : ((s[p].toNat : Nat) : Int) < 48 := by have := HB.out; omega
          clear hno hdg hkk hown hr
          go_wp2
          refine bodyPost_ret (v := .tuple #[.agg #[.bool false, .slice none 0 0], .bool false]) (by simp [results, Tryz.results32, go_sem, r0, r1]) rfl ?_
          first
            | exact PPost.no ⟨_, rfl, Sl.nil _ _⟩ ((hbel.setCell (Nat.le_refl _) _).setCell (Nat.le_refl _) _) HNO.out
            | exact PPost.no ⟨_, rfl, Sl.nil _ _⟩ hbel HNO.out
        · have hb1 : 57 < ((s[p].toNat : Nat) : Int) := by have := HB.out; omega
          have hb2 : 48 ≤ ((s[p].toNat : Nat) : Int) := by have := HB.out; omega
          clear hno hdg hkk hown hr
          go_wp2
          refine bodyPost_ret (v := .tuple #[.agg #[.bool false, .slice none 0 0], .bool false]) (by simp [results, Tryz.results32, go_sem, r0, r1]) rfl ?_
          first
            | exact PPost.no ⟨_, rfl, Sl.nil _ _⟩ ((hbel.setCell (Nat.le_refl _) _).setCell (Nat.le_refl _) _) HNO.out
            | exact PPost.no ⟨_, rfl, Sl.nil _ _⟩ hbel HNO.out

set_option maxRecDepth 100000 in
set_option maxHeartbeats 2000000 in
theorem rparse_bare (s : ByteArray) (w : World) (hs : s.size ≤ 100000000) (h0 : 0 < s.size) (h1 : bt s 0 ≠ 43) (h2 : bt s 0 ≠ 45) :
    Calls Tryz.prog 32 #[.string s] w (PPost s w) := by
  obtain ⟨i0, hi, hz0, hz1, hz2⟩ := info_parts infoB
  have HF := Lib.hid (show fromA s = 0 from by unfold fromA; rw [if_neg (by omega)])
  have hq0 := bt_at h0
  have hn1 : (((s[0].toNat : Nat) : Int) == 45) = false := by rw [beq_eq_false_iff_ne]; omega
  have hn2 : (((s[0].toNat : Nat) : Int) == 43) = false := by rw [beq_eq_false_iff_ne]; omega
  have HNG : Hid (negA s = false) := Lib.hid (by unfold negA; simp [h2])
  clear hq0
  have hb0 := below1 w (.cells #[.bool false, .slice none 0 0] 39)
  have hr0 : (w.alloc (.cells #[.bool false, .slice none 0 0] 39)).heap[w.heap.size]? = some (.cells #[.bool false, .slice none 0 0] 39 (0, 0)) := heap_alloc_new w _
  have hx1 : (0 == (s.size : Int)) = false := by rw [beq_eq_false_iff_ne]; omega
  have hsz : 0 < s.size := h0
  go_enter Tryz.func32, Tryz.ntmps32
  go_wp2_with fail
  go_loopw [5, 6] (fun v i wr => ∃ k : Nat, 0 ≤ k ∧ k ≤ s.size ∧ i = .int .i64 ((k : Int) - 1) ∧ (∀ j, k ≤ j → j < s.size → 48 ≤ bt s j ∧ bt s j ≤ 57) ∧ wr.ownsRow (w.heap.size + 1) 5 1 v (s.size - k) (cellsOf .u8 ((bodyA s).take (s.size - k))) ∧ wr.heap[w.heap.size]? = some (.cells #[.bool false, .slice none 0 0] 39 (0, 0)) ∧ Below w.heap.size w wr ∧ w.heap.size < wr.heap.size) (fun _ i _ => (intOf i + 1).toNat)
  case atStart => exact ⟨s.size, by omega, Nat.le_refl _, rfl, fun j h1 h2 => by omega, by rw [Nat.sub_self]; exact World.ownsRow_nil _ _ _ _, hr0, hb0, by simp⟩
  case round =>
    clear hr0 hb0
    obtain ⟨k, hkF, hk, rfl, hall, hown, hr, hbel, hlt⟩ := hrel
    have HA := Lib.hid hall; clear hall
    by_cases hkk : k = 0
    · subst hkk
      have hok : okA s := ⟨by rw [HF.out]; exact hsz, fun j h1 h2 => HA.out j (by rw [HF.out] at h1; exact h1) h2⟩
      have HOK := Lib.hid hok
      have hbl : (bodyA s).take (s.size - 0) = bodyA s := List.take_of_length_le (by rw [bodyA_len, HF.out]; exact Nat.le_refl _)
      rw [hbl] at hown
      have hsl := owns_sl (k := .u8) (xs := bodyA s) hown
      obtain ⟨a', c', rfl⟩ := owns_slice hown
      have HDB := Lib.hid (bodyA_db hok)
      clear hown hok hbl
      go_wp2_with fail
      refine (rmake_any false _ (bodyA s) _ hsl HDB.out).mono ?_
      rintro e w2 ⟨v2, neg2, rs, ok, rfl, ⟨sv2, rfl, hs2⟩, hb2, hres⟩
      have hr2 := (hb2.block w.heap.size hlt).trans hr
      have r0 := cell_heap hr2 0
      have r1 := cell_heap hr2 1
      have f0 := frozen_heap hr2 0
      have f1 := frozen_heap hr2 1
      have hbw := hbel.trans (hb2.mono hbel.size)
      have HS2 := Lib.hid hs2
      obtain ⟨p1, ao4, cap4, rfl, p2, p3⟩ := hs2
      have HRES := Lib.hid (makeP HOK.out (by rw [HNG.out]; exact hres))
      have HR2 := Lib.hid hr2
      clear hres p1 p2 p3 hr hr2
      go_wp2
      refine bodyPost_ret (v := .tuple #[.agg #[.bool neg2, .slice ao4 rs.length cap4], .bool ok]) (by simp [results, Tryz.results32, go_sem, r0, r1]) rfl ?_
      exact ⟨_, neg2, rs, ok, rfl, ⟨_, rfl, HS2.out.box HR2.out _ _⟩, (hbw.setCell (Nat.le_refl _) _).setCell (Nat.le_refl _) _, HRES.out⟩
    · obtain ⟨p, rfl⟩ : ∃ p, k = p + 1 := ⟨k - 1, by omega⟩
      have hps : p < s.size := by omega
      have hpF : 0 ≤ p := by omega
      have HB := Lib.hid (bt_at hps)
      have hbl := bt_lt s p
      by_cases hdg : 48 ≤ bt s p ∧ bt s p ≤ 57
      · have HST := Lib.hid (takeB_step (s := s) (k := p) (by rw [HF.out]; exact hpF) hk)
        have HDG := Lib.hid hdg
        have hb1 : 48 ≤ ((s[p].toNat : Nat) : Int) := by have := HB.out; omega
        have hb2 : ((s[p].toNat : Nat) : Int) ≤ 57 := by have := HB.out; omega
        have HR := Lib.hid hr
        clear hdg hkk hr
        go_wp2_with (at_builtin; go_loud (refine wpList_append_own _ rfl _ _ 36 rfl (w.heap.size + 1) 5 i0 (.int .u8 0) 1 1 Tryz.underlying36 hi hz0 hz1 hz2 rfl (by decide) _ (s.size - (p + 1)) (cellsOf .u8 ((bodyA s).take (s.size - (p + 1)))) rfl (hown.alloc _) ⟨wr.heap.size, 0, none⟩ 1 1 [.int .u8 ((s[p].toNat : Int) - 48)] rfl (by simp) (cell_one_new _ _ _) (by intro u hu; rw [List.mem_singleton] at hu; subst hu; rfl) (by unfold maxLen; omega) (by omega) (by simp; omega) ?_); intro v' w4 hown1 hgrow hnil; clear hnil)
        go_roundw
        case rel =>
          have e0 := HB.out
          have e3 := HDG.out
          have e1 : (cellsOf .u8 ((bodyA s).take (s.size - (p + 1))) ++ [.int .u8 ((s[p].toNat : Int) - 48)]) = cellsOf .u8 ((bodyA s).take (s.size - p)) := by
            rw [HST.out, cellsOf_append]
            have : ((s[p].toNat : Int) - 48) = ((bt s p - 48 : Nat) : Int) := by omega
            rw [this]
            rfl
          have e2 : s.size - (p + 1) + 1 = s.size - p := by omega
          rw [e1, e2] at hown1
          have hlo := hown.lt
          have hgrow' : World.grownBy _ w4 (Value.ownBlock _) := hgrow
          refine ⟨p, hpF, by omega, by go_num, fun j h1 h2 => ?_, hown1, ?_, (hbel.alloc (Nat.le_of_lt hlt) _).grown hgrow' (by simp; omega) (fun k hk => by have := (hlo k hk).1; omega), by have := hgrow'.size; simp at this; omega⟩
          · by_cases e : j = p
            · subst e; exact e3
            · exact HA.out j (by omega) h2
          · rw [hgrow'.block w.heap.size (by simp; omega) (fun h => by have := (hlo _ h.symm).1; omega), Below.heap_alloc _ _ _ hlt]
            exact HR.out
        case measure => simp only [intOf]; omega
      · have hno : ¬ okA s := fun h => hdg (h.2 p (by rw [HF.out]; exact hpF) hps)
        have HNO := Lib.hid hno
        have r0 := cell_heap hr 0
        have r1 := cell_heap hr 1
        have f0 := frozen_heap hr 0
        have f1 := frozen_heap hr 1
        rcases (by omega : bt s p < 48 ∨ 57 < bt s p) with hlo | hhi
        · have hb1 : ((s[p].toNat : Nat) : Int) < 48 := by have := HB.out; omega
          clear hno hdg hkk hown hr
          go_wp2
          refine bodyPost_ret (v := .tuple #[.agg #[.bool false, .slice none 0 0], .bool false]) (by simp [results, Tryz.results32, go_sem, r0, r1]) rfl ?_
          first
            | exact PPost.no ⟨_, rfl, Sl.nil _ _⟩ ((hbel.setCell (Nat.le_refl _) _).setCell (Nat.le_refl _) _) HNO.out
            | exact PPost.no ⟨_, rfl, Sl.nil _ _⟩ hbel HNO.out
        · have hb1 : 57 < ((s[p].toNat : Nat) : Int) := by have := HB.out; omega
          have hb2 : 48 ≤ ((s[p].toNat : Nat) : Int) := by have := HB.out; omega
          clear hno hdg hkk hown hr
          go_wp2
          refine bodyPost_ret (v := .tuple #[.agg #[.bool false, .slice none 0 0], .bool false]) (by simp [results, Tryz.results32, go_sem, r0, r1]) rfl ?_
          first
            | exact PPost.no ⟨_, rfl, Sl.nil _ _⟩ ((hbel.setCell (Nat.le_refl _) _).setCell (Nat.le_refl _) _) HNO.out
            | exact PPost.no ⟨_, rfl, Sl.nil _ _⟩ hbel HNO.out

set_option maxRecDepth 100000 in
set_option maxHeartbeats 2000000 in
theorem rparse_any (s : ByteArray) (w : World) (hs : s.size ≤ 100000000) :
    Calls Tryz.prog 32 #[.string s] w (PPost s w) := by
  rcases Nat.eq_zero_or_pos s.size with h0 | h0
  · have hno : ¬ okA s := fun h => by have := h.1; omega
    have HNO := Lib.hid hno
    have hb0 := below1 w (.cells #[.bool false, .slice none 0 0] 39)
    have hz : s.size ≤ 0 := by omega
    have hx1 : (0 == (s.size : Int)) = true := by rw [beq_iff_eq]; omega
    clear hno h0
    go_enter Tryz.func32, Tryz.ntmps32
    go_wp2
    refine bodyPost_ret (v := .tuple #[.agg #[.bool false, .slice none 0 0], .bool false]) (by simp [results, Tryz.results32, go_sem]) rfl ?_
    first
      | exact PPost.no ⟨_, rfl, Sl.nil _ _⟩ ((hb0.setCell (Nat.le_refl _) _).setCell (Nat.le_refl _) _) HNO.out
      | exact PPost.no ⟨_, rfl, Sl.nil _ _⟩ hb0 HNO.out
  · by_cases h1 : bt s 0 = 45
    · exact rparse_minus s w hs h0 h1
    by_cases h2 : bt s 0 = 43
    · exact rparse_plus s w hs h0 h2
    · exact rparse_bare s w hs h0 h2 h1
end Go.Proofs.YtkocmjmmflphnaaGreatDoor
