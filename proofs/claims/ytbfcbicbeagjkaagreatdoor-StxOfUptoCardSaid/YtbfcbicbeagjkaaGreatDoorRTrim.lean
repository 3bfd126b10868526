/- ref.trim | ref.Digits | ref.Make | ref.Parse -/
import Derived.Test.YtbfcbicbeagjkaaGreatDoorPlus
import Derived.Test.YtbfcbicbeagjkaaGreatDoorAdd
import Derived.Test.YtbfcbicbeagjkaaGreatDoorTkMath
import Derived.Test.YtbfcbicbeagjkaaGreatDoorUEncMath
namespace Go.Proofs.YtbfcbicbeagjkaaGreatDoor
open Go.RowKit

/-- What trim leaves. -/
def RTrimPost (v : Value) (xs : List Nat) (w : World) (e : Ending) (w' : World) : Prop :=
  ∃ v' n, e = .returned v' ∧ n ≤ xs.length ∧ (n = 0 ∨ limb xs (n - 1) ≠ 0) ∧ (∀ i, n ≤ i → limb xs i = 0) ∧ (∀ w2, Sl .u8 w2 v xs → Sl .u8 w2 v' (xs.take n)) ∧ w = w'

set_option maxRecDepth 100000 in
set_option maxHeartbeats 1000000 in
theorem rtrim_any (v : Value) (xs : List Nat) (w : World) (hs : Sl .u8 w v xs) (hx : ∀ i, limb xs i < 256) :
    Calls Tryz.prog 198 #[v] w (RTrimPost v xs w) := by
  obtain ⟨hm, ao, cap, rfl, hcap, h⟩ := hs
  unfold maxLen at hm
  have HX := Lib.hid hx; clear hx
  rcases h with ⟨rfl, _⟩ | ⟨b, off, rfl, hb, hcell⟩
  · go_enter Tryz.func198, Tryz.ntmps198
    go_wp2
    refine wp_loop_rounds 1 ?_
    rw [rounds_succ]
    go_wp2
    go_ret
    exact ⟨_, 0, rfl, by omega, .inl rfl, fun i _ => limb_out (by simp), fun _ h => h, rfl⟩
  · have HC := Lib.hid hcell; clear hcell
    go_enter Tryz.func198, Tryz.ntmps198
    go_wp2
    go_loop [3] (fun i => ∃ n : Nat, n ≤ xs.length ∧ i = .int .i64 n ∧ ∀ j, n ≤ j → limb xs j = 0) (fun i => (intOf i).toNat)
    case atStart => exact ⟨xs.length, Nat.le_refl _, rfl, fun j hj => limb_out hj⟩
    case round =>
      obtain ⟨n, hn, rfl, hz⟩ := hrel
      have HZ := Lib.hid hz; clear hz
      rcases n with _ | m
      · go_wp2
        go_ret
        exact ⟨_, 0, rfl, by omega, .inl rfl, HZ.out, fun _ h => h.take (by omega), rfl⟩
      · have hcm := HC.out m (by omega)
        have hxm := HX.out m
        rcases Nat.eq_zero_or_pos (limb xs m) with h0 | hp
        · have h1 : limb xs m ≤ 0 := by omega
          have H0 := Lib.hid h0; clear h0
          go_wp2
          go_round
          case rel => exact ⟨m, by omega, by first | rfl | go_num, fun j hj => by
            by_cases e : j = m
            · subst e; exact H0.out
            · exact HZ.out j (by omega)⟩
          case measure => simp only [intOf]; omega
        · go_wp2
          go_ret
          exact ⟨_, m + 1, rfl, by omega, .inr (by rw [Nat.add_sub_cancel]; omega), HZ.out, fun _ h => h.take (by omega), rfl⟩
end Go.Proofs.YtbfcbicbeagjkaaGreatDoor
namespace Go.Proofs.YtbfcbicbeagjkaaGreatDoor
open Go.RowKit

theorem infoB : (Tryz.prog.info? 5).map (fun i => (i.zero, i.size, i.bytes)) = some (some (.int .u8 0), 1, 1) := by kernel_rfl

end Go.Proofs.YtbfcbicbeagjkaaGreatDoor
namespace Go.Proofs.YtbfcbicbeagjkaaGreatDoor
open Go.RowKit

/-- What Make answers, and Parse: the number N, or that it is too large. -/
def MkPost (neg : Bool) (N : Nat) (w : World) (e : Ending) (w' : World) : Prop :=
  ∃ v neg' rs ok, e = .returned (.tuple #[v, .bool ok]) ∧ IntV w' v neg' rs ∧ Below w.heap.size w w' ∧
    ((ok = true ∧ Snd neg' rs ∧ val rs = N ∧ (rs ≠ [] → neg' = neg)) ∨ (ok = false ∧ neg' = false ∧ rs = [] ∧ 1000000000 ^ 64 ≤ N))

theorem sl_two {w wr : World} {v a b : Value} {i j : Nat} {rs : List Nat} {e : TypeId} (h : wr.ownsRow (w.heap.size + 1) e 1 v rs.length (rs.map fun (x : Nat) => Value.int .u32 (x : Int))) :
    Sl .u32 ((wr.setCell ⟨w.heap.size, i, none⟩ a).setCell ⟨w.heap.size, j, none⟩ b) v rs :=
  owns_sl (base := w.heap.size + 1) (n := rs.length) (e := e) (ownsRow_setCell_below (ownsRow_setCell_below h (by simp) _) (by simp) _)

set_option maxRecDepth 100000 in
set_option maxHeartbeats 2000000 in
theorem rmake_any (neg : Bool) (sv : Value) (gs : List Nat) (w : World) (hs : Sl .u8 w sv gs) (hg : Db gs) :
    Calls Tryz.prog 167 #[.bool neg, sv] w (MkPost neg (dval gs) w) := by
  obtain ⟨i0, hi, hz0, hz1, hz2⟩ := info_parts infoU32
  have HS := Lib.hid hs
  have HG := Lib.hid hg
  clear hs hg
  have hr0 : (w.alloc (.cells #[.bool false, .slice none 0 0] 24)).heap[w.heap.size]? = some (.cells #[.bool false, .slice none 0 0] 24 (0, 0)) := heap_alloc_new w _
  go_enter Tryz.func167, Tryz.ntmps167
  go_wp2_with fail
  have hs1 : Sl .u8 (w.alloc (.cells #[.bool false, .slice none 0 0] 24)) sv gs := HS.out.below (below1 w _)
  refine (rtrim_any sv gs _ hs1 HG.out.wide).mono ?_
  rintro e w' ⟨v, n, rfl, hn, ht, hz, hsl, rfl⟩
  have h := hsl _ hs1
  have htop := Top.take hn ht
  have hdb := HG.out.take n
  have hval : dval (gs.take n) = dval gs := dval_take hn hz
  clear hs1 hsl hn ht hz
  generalize gs.take n = ds at *
  clear HS HG
  obtain ⟨hm, ao, cap, rfl, hcap, h⟩ := h
  unfold maxLen at hm
  have HT := Lib.hid htop; clear htop
  have HB := Lib.hid hdb; clear hdb
  have HV := Lib.hid hval; clear hval
  rcases (by omega : 576 < ds.length ∨ ds.length ≤ 576) with hbig | hle
  · have hd : decide ((576 : Int) < (ds.length : Int)) = true := by simp; omega
    have HL := Lib.hid hbig; clear hbig
    go_wp2
    refine bodyPost_ret (v := .tuple #[.agg #[.bool false, .slice none 0 0], .bool false]) (by simp [results, Tryz.results167, go_sem]) rfl ?_
    refine ⟨_, false, [], false, rfl, ⟨_, rfl, Sl.nil _ _⟩, below1 w _, .inr ⟨rfl, rfl, rfl, ?_⟩⟩
    rw [← HV.out, ← pow9]
    have := (HT.out.len HB.out (n := 9 * 64)).2
    apply Classical.byContradiction
    intro hh
    have := this (by omega)
    have := HL.out
    omega
  · have hd : decide ((576 : Int) < (ds.length : Int)) = false := by rw [decide_eq_false_iff_not]; omega
    have HC : Hid (∀ j, j < ds.length → ∃ b off, ao = some ⟨b, off, none⟩ ∧ b < w.heap.size + 1 ∧ (w.alloc (.cells #[.bool false, .slice none 0 0] 24)).cell? ⟨b, off + j, none⟩ = some (.int .u8 ((limb ds j : Nat) : Int))) := Lib.hid fun j hj => by
      rcases h with ⟨h, _⟩ | ⟨b, off, h1, h2, h3⟩
      · rw [h] at hj; simp at hj
      · exact ⟨b, off, h1, by simpa using h2, h3 j hj⟩
    clear h
    have hb1 := below1 w (.cells #[.bool false, .slice none 0 0] 24)
    obtain ⟨w1, hw1⟩ : ∃ w1, w1 = w.alloc (.cells #[.bool false, .slice none 0 0] 24) := ⟨_, rfl⟩
    have hsz : w1.heap.size = w.heap.size + 1 := by rw [hw1]; simp
    rw [← hw1] at hr0 HC hb1 ⊢
    clear hw1
    have hb2 : Below (w.heap.size + 1) w1 w1 := Below.refl _ _
    go_wp2_with fail
    go_loopw [7, 8] (fun v i wr => ∃ rs q, i = .int .i64 ((9 * q : Nat) : Int) ∧ MkOut ds rs q ∧ wr.ownsRow (w.heap.size + 1) 140 1 v rs.length (rs.map fun (x : Nat) => Value.int .u32 (x : Int)) ∧ Below (w.heap.size + 1) w1 wr ∧ w.heap.size < wr.heap.size) (fun _ i _ => ds.length + 9 - (intOf i).toNat)
    case atStart => exact ⟨[], 0, rfl, MkOut.start ds, World.ownsRow_nil _ _ _ _, hb2, by omega⟩
    case round =>
      clear hb2
      obtain ⟨rs, q, rfl, hout, hown, hbel, hlt⟩ := hrel
      by_cases hq : 9 * q < ds.length
      · have HO := Lib.hid hout; clear hout
        obtain ⟨b, off, hao, hb, _⟩ := HC.out _ hq
        subst hao
        have HC2 : Hid (∀ j, j < ds.length → wr.cell? ⟨b, off + j, none⟩ = some (.int .u8 ((limb ds j : Nat) : Int))) := Lib.hid fun j hj => by
          obtain ⟨b', off', h1, h2, h3⟩ := HC.out j hj
          simp only [Option.some.injEq, Addr.mk.injEq, and_true] at h1
          obtain ⟨rfl, rfl⟩ := h1
          rw [hbel.cell (p := ⟨b, off + j, none⟩) hb]; exact h3
        go_wp2_with fail
        go_loopw [9, 10] (fun x j wx => ∃ (xv kk : Nat), kk ≤ 9 ∧ x = .int .u32 (xv : Nat) ∧ j = .int .i64 ((kk : Int) - 1) ∧ MkIn ds q xv kk ∧ wx = wr) (fun _ j _ => (intOf j + 1).toNat)
        case atStart => exact ⟨0, 9, by omega, rfl, rfl, MkIn.start ds q, rfl⟩
        case round =>
          obtain ⟨xv, kk, hkk, rfl, rfl, hin, rfl⟩ := hrel
          rcases kk with _ | k
          · have hx := hin.lt
            have HN := Lib.hid (hin.next HO.out hq); clear hin
            have hlen := HO.out.len
            have hsm : rs.length < 1000 := by omega
            clear hlen
            go_wp2_with (at_builtin; go_loud (refine wpList_append_own _ rfl _ _ 22 rfl (w.heap.size + 1) 140 i0 (.int .u32 0) 1 4 Tryz.underlying22 hi hz0 hz1 hz2 rfl (by decide) _ rs.length (rs.map fun (x : Nat) => Value.int .u32 (x : Int)) rfl (hown.alloc _) ⟨wr.heap.size, 0, none⟩ 1 1 [.int .u32 (xv : Int)] rfl (by simp) (cell_one_new _ _ _) (by intro u hu; rw [List.mem_singleton] at hu; subst hu; rfl) (by unfold maxLen; omega) (by omega) (by simp; omega) ?_); intro v' w2 hown1 hgrow hnil; clear hnil)
            go_roundw
            case rel =>
              have e1 : (List.map (fun (x : Nat) => Value.int .u32 (x : Int)) rs ++ [.int .u32 (xv : Int)]) = (rs ++ [xv]).map fun (x : Nat) => Value.int .u32 (x : Int) := by simp
              have e2 : rs.length + 1 = (rs ++ [xv]).length := by simp
              rw [e1, e2] at hown1
              have hlo := hown.lt
              have hgrow' : World.grownBy _ w2 (Value.ownBlock _) := hgrow
              refine ⟨rs ++ [xv], q + 1, by go_num, HN.out, hown1, (hbel.alloc (by omega) _).grown hgrow' (by simp; omega) (fun k hk => by have := (hlo k hk).1; omega), by have := hgrow'.size; simp at this; omega⟩
            case measure => simp only [intOf]; omega
          · have h10 := hin.ten
            have hdk := HB.out (9 * q + k)
            by_cases hkl : 9 * q + k < ds.length
            · have hck := HC2.out (9 * q + k) hkl
              have HN := Lib.hid (hin.step HB.out (by omega)); clear hin
              have e1 : IntKind.i64.wrap (((9 * q : Nat) : Int) + (((k + 1 : Nat) : Int) - 1)) = ((9 * q + k : Nat) : Int) := by rw [IntWalk.i64_in _ (by omega)]; omega
              go_wp2_with fail
              go_roundw
              case rel => exact ⟨xv * 10 + limb ds (9 * q + k), k, by omega, by go_num, by go_num, HN.out, trivial⟩
              case measure => simp only [intOf]; omega
            · have HN := Lib.hid (hin.step0 HB.out (by omega) (by omega)); clear hin
              go_wp2_with fail
              go_roundw
              case rel => exact ⟨xv * 10, k, by omega, by go_num, by go_num, HN.out, trivial⟩
              case measure => simp only [intOf]; omega
      · have HO := Lib.hid hout; clear hout
        have HOW := Lib.hid hown
        obtain ⟨a', c', rfl⟩ := owns_slice hown
        clear hown
        have hr : wr.heap[w.heap.size]? = some (.cells #[.bool false, .slice none 0 0] 24 (0, 0)) := by rw [hbel.block w.heap.size (by omega)]; exact hr0
        have r0 := cell_heap hr 0
        have r1 := cell_heap hr 1
        have f0 := frozen_heap hr 0
        have f1 := frozen_heap hr 1
        clear hr
        have HBW := Lib.hid (hb1.trans (hbel.mono (Nat.le_trans hb1.size (by omega)))); clear hbel hb1
        cases neg
        · go_wp2
          refine bodyPost_ret (v := .tuple #[.agg #[.bool false, .slice a' rs.length c'], .bool true]) (by simp [results, Tryz.results167, go_sem, r0, r1]) rfl ?_
          obtain ⟨h1, h2, h3⟩ := HO.out.done HT.out (by omega) hle (neg := false) (neg' := false) (by simp)
          refine ⟨_, false, rs, true, rfl, ⟨_, rfl, ?_⟩, ?_, .inl ⟨rfl, h1, by rw [h2, HV.out], h3⟩⟩
          · exact sl_two HOW.out
          · exact (HBW.out.setCell (by simp) _).setCell (by simp) _
        · go_wp2
          refine bodyPost_ret (v := .tuple #[.agg #[.bool (decide (0 < ds.length)), .slice a' rs.length c'], .bool true]) (by simp [results, Tryz.results167, go_sem, r0, r1]) rfl ?_
          obtain ⟨h1, h2, h3⟩ := HO.out.done HT.out (by omega) hle (neg := true) (neg' := decide (0 < ds.length)) (by simp)
          refine ⟨_, _, rs, true, rfl, ⟨_, rfl, ?_⟩, ?_, .inl ⟨rfl, h1, by rw [h2, HV.out], h3⟩⟩
          · exact sl_two HOW.out
          · exact (HBW.out.setCell (by simp) _).setCell (by simp) _
end Go.Proofs.YtbfcbicbeagjkaaGreatDoor
namespace Go.Proofs.YtbfcbicbeagjkaaGreatDoor
open Go.RowKit

theorem takeB_step {s : ByteArray} {k : Nat} (h : fromA s ≤ k) (hk : k + 1 ≤ s.size) : (bodyA s).take (s.size - k) = (bodyA s).take (s.size - (k + 1)) ++ [bt s k - 48] := by
  obtain ⟨n, hn⟩ : ∃ n, s.size = k + (n + 1) := ⟨s.size - k - 1, by omega⟩
  have h1 : s.size - k = n + 1 := by omega
  have h2 : s.size - (k + 1) = n := by omega
  have hl : n < (bodyA s).length := by rw [bodyA_len]; omega
  rw [h1, h2, List.take_succ_eq_append_getElem hl]
  congr 2
  have := bodyA_at (s := s) (p := k) (n := n) (by omega) h
  rwa [limb_lt hl] at this
theorem makeP {s : ByteArray} {neg' ok : Bool} {rs : List Nat} (hok : okA s) (h : (ok = true ∧ Snd neg' rs ∧ val rs = dval (bodyA s) ∧ (rs ≠ [] → neg' = negA s)) ∨ (ok = false ∧ neg' = false ∧ rs = [] ∧ 1000000000 ^ 64 ≤ dval (bodyA s))) :
    (okA s ∧ ok = true ∧ Snd neg' rs ∧ val rs = dval (bodyA s) ∧ (rs ≠ [] → neg' = negA s)) ∨ (ok = false ∧ neg' = false ∧ rs = [] ∧ (okA s → 1000000000 ^ 64 ≤ dval (bodyA s))) := by
  rcases h with ⟨a, b, c, d⟩ | ⟨a, b, c, d⟩
  · exact .inl ⟨hok, a, b, c, d⟩
  · exact .inr ⟨a, b, c, fun _ => d⟩

set_option maxRecDepth 100000 in
set_option maxHeartbeats 2000000 in
theorem rparse_minus (s : ByteArray) (w : World) (hs : s.size ≤ 100000000) (h0 : 0 < s.size) (h1 : bt s 0 = 45) :
    Calls Tryz.prog 135 #[.string s] w (PPost s w) := by
  obtain ⟨i0, hi, hz0, hz1, hz2⟩ := info_parts infoB
  have HF := Lib.hid (show fromA s = 1 from by unfold fromA; rw [if_pos ⟨h0, by omega⟩])
  have hq0 := bt_at h0
  have hn1 : (((s[0].toNat : Nat) : Int) == 45) = true := by rw [beq_iff_eq]; omega
  have HNG : Hid (negA s = true) := Lib.hid (by unfold negA; simp [h1])
  clear hq0
  have hb0 := below1 w (.cells #[.bool false, .slice none 0 0] 24)
  have hr0 : (w.alloc (.cells #[.bool false, .slice none 0 0] 24)).heap[w.heap.size]? = some (.cells #[.bool false, .slice none 0 0] 24 (0, 0)) := heap_alloc_new w _
  rcases (by omega : s.size ≤ 1 ∨ 1 < s.size) with hsz | hsz
  · have hx1 : (1 == (s.size : Int)) = true := by rw [beq_iff_eq]; omega
    have hno : ¬ okA s := fun h => by have := h.1; rw [HF.out] at this; omega
    have HNO := Lib.hid hno
    clear hno hr0
    go_enter Tryz.func135, Tryz.ntmps135
    go_wp2
    refine bodyPost_ret (v := .tuple #[.agg #[.bool false, .slice none 0 0], .bool false]) (by simp [results, Tryz.results135, go_sem]) rfl ?_
    first
      | exact PPost.no ⟨_, rfl, Sl.nil _ _⟩ ((hb0.setCell (Nat.le_refl _) _).setCell (Nat.le_refl _) _) HNO.out
      | exact PPost.no ⟨_, rfl, Sl.nil _ _⟩ hb0 HNO.out
  have hx1 : (1 == (s.size : Int)) = false := by rw [beq_eq_false_iff_ne]; omega
  go_enter Tryz.func135, Tryz.ntmps135
  go_wp2_with fail
  go_loopw [5, 6] (fun v i wr => ∃ k : Nat, 1 ≤ k ∧ k ≤ s.size ∧ i = .int .i64 ((k : Int) - 1) ∧ (∀ j, k ≤ j → j < s.size → 48 ≤ bt s j ∧ bt s j ≤ 57) ∧ wr.ownsRow (w.heap.size + 1) 5 1 v (s.size - k) (cellsOf .u8 ((bodyA s).take (s.size - k))) ∧ wr.heap[w.heap.size]? = some (.cells #[.bool false, .slice none 0 0] 24 (0, 0)) ∧ Below w.heap.size w wr ∧ w.heap.size < wr.heap.size) (fun _ i _ => (intOf i + 1).toNat)
  case atStart => exact ⟨s.size, by omega, Nat.le_refl _, rfl, fun j h1 h2 => by omega, by rw [Nat.sub_self]; exact World.ownsRow_nil _ _ _ _, hr0, hb0, by simp⟩
  case round =>
    clear hr0 hb0
    obtain ⟨k, hkF, hk, rfl, hall, hown, hr, hbel, hlt⟩ := hrel
    have HA := Lib.hid hall; clear hall
    by_cases hkk : k = 1
    · subst hkk
      have hok : okA s := ⟨by rw [HF.out]; exact hsz, fun j h1 h2 => HA.out j (by rw [HF.out] at h1; exact h1) h2⟩
      have HOK := Lib.hid hok
      have hbl : (bodyA s).take (s.size - 1) = bodyA s := List.take_of_length_le (by rw [bodyA_len, HF.out]; exact Nat.le_refl _)
      rw [hbl] at hown
      have hsl := owns_sl (k := .u8) (xs := bodyA s) hown
      obtain ⟨a', c', rfl⟩ := owns_slice hown
      have HDB := Lib.hid (bodyA_db hok)
      clear hown hok hbl
      go_wp2_with fail
      refine (rmake_any true _ (bodyA s) _ hsl HDB.out).mono ?_
      rintro e w2 ⟨v2, neg2, rs, ok, rfl, ⟨sv2, rfl, hs2⟩, hb2, hres⟩
      have hr2 := (hb2.block w.heap.size hlt).trans hr
      have r0 := cell_heap hr2 0
      have r1 := cell_heap hr2 1
      have f0 := frozen_heap hr2 0
      have f1 := frozen_heap hr2 1
      have hbw := hbel.trans (hb2.mono hbel.size)
      have HS2 := Lib.hid hs2
      obtain ⟨p1, ao4, cap4, rfl, p2, p3⟩ := hs2
      have HRES := Lib.hid (makeP HOK.out (by rw [HNG.out]; exact hres))
      have HR2 := Lib.hid hr2
      clear hres p1 p2 p3 hr hr2
      go_wp2
      refine bodyPost_ret (v := .tuple #[.agg #[.bool neg2, .slice ao4 rs.length cap4], .bool ok]) (by simp [results, Tryz.results135, go_sem, r0, r1]) rfl ?_
      exact ⟨_, neg2, rs, ok, rfl, ⟨_, rfl, HS2.out.box HR2.out _ _⟩, (hbw.setCell (Nat.le_refl _) _).setCell (Nat.le_refl _) _, HRES.out⟩
    · obtain ⟨p, rfl⟩ : ∃ p, k = p + 1 := ⟨k - 1, by omega⟩
      have hps : p < s.size := by omega
      have hpF : 1 ≤ p := by omega
      have HB := Lib.hid (bt_at hps)
      have hbl := bt_lt s p
      by_cases hdg : 48 ≤ bt s p ∧ bt s p ≤ 57
      · have HST := Lib.hid (takeB_step (s := s) (k := p) (by rw [HF.out]; exact hpF) hk)
        have HDG := Lib.hid hdg
        have hb1 : 48 ≤ ((s[p].toNat : Nat) : Int) := by have := HB.out; omega
        have hb2 : ((s[p].toNat : Nat) : Int) ≤ 57 := by have := HB.out; omega
        have HR := Lib.hid hr
        clear hdg hkk hr
        go_wp2_with (at_builtin; go_loud (refine wpList_append_own _ rfl _ _ 80 rfl (w.heap.size + 1) 5 i0 (.int .u8 0) 1 1 Tryz.underlying80 hi hz0 hz1 hz2 rfl (by decide) _ (s.size - (p + 1)) (cellsOf .u8 ((bodyA s).take (s.size - (p + 1)))) rfl (hown.alloc _) ⟨wr.heap.size, 0, none⟩ 1 1 [.int .u8 ((s[p].toNat : Int) - 48)] rfl (by simp) (cell_one_new _ _ _) (by intro u hu; rw [List.mem_singleton] at hu; subst hu; rfl) (by unfold maxLen; omega) (by omega) (by simp; omega) ?_); intro v' w4 hown1 hgrow hnil; clear hnil)
        go_roundw
        case rel =>
          have e0 := HB.out
          have e3 := HDG.out
          have e1 : (cellsOf .u8 ((bodyA s).take (s.size - (p + 1))) ++ [.int .u8 ((s[p].toNat : Int) - 48)]) = cellsOf .u8 ((bodyA s).take (s.size - p)) := by
            rw [HST.out, cellsOf_append]
            have : ((s[p].toNat : Int) - 48) = ((bt s p - 48 : Nat) : Int) := by omega
            rw [this]
            rfl
          have e2 : s.size - (p + 1) + 1 = s.size - p := by omega
          rw [e1, e2] at hown1
          have hlo := hown.lt
          have hgrow' : World.grownBy _ w4 (Value.ownBlock _) := hgrow
          refine ⟨p, hpF, by omega, by go_num, fun j h1 h2 => ?_, hown1, ?_, (hbel.alloc (Nat.le_of_lt hlt) _).grown hgrow' (by simp; omega) (fun k hk => by have := (hlo k hk).1; omega), by have := hgrow'.size; simp at this; omega⟩
          · by_cases e : j = p
            · subst e; exact e3
            · exact HA.out j (by omega) h2
          · rw [hgrow'.block w.heap.size (by simp; omega) (fun h => by have := (hlo _ h.symm).1; omega), Below.heap_alloc _ _ _ hlt]
            exact HR.out
        case measure => simp only [intOf]; omega
      · have hno : ¬ okA s := fun h => hdg (h.2 p (by rw [HF.out]; exact hpF) hps)
        have HNO := Lib.hid hno
        have r0 := cell_heap hr 0
        have r1 := cell_heap hr 1
        have f0 := frozen_heap hr 0
        have f1 := frozen_heap hr 1
        rcases (by omega : bt s p < 48 ∨ 57 < bt s p) with hlo | hhi
        · have hb1 : ((s[p].toNat : Nat) : Int) < 48 := by have := HB.out; omega
          clear hno hdg hkk hown hr
          go_wp2
          refine bodyPost_ret (v := .tuple #[.agg #[.bool false, .slice none 0 0], .bool false]) (by simp [results, Tryz.results135, go_sem, r0, r1]) rfl ?_
          first
            | exact PPost.no ⟨_, rfl, Sl.nil _ _⟩ ((hbel.setCell (Nat.le_refl _) _).setCell (Nat.le_refl _) _) HNO.out
            | exact PPost.no ⟨_, rfl, Sl.nil _ _⟩ hbel HNO.out
        · have hb1 : 57 < ((s[p].toNat : Nat) : Int) := by have := HB.out; omega
          have hb2 : 48 ≤ ((s[p].toNat : Nat) : Int) := by have := HB.out; omega
          clear hno hdg hkk hown hr
          go_wp2
          refine bodyPost_ret (v := .tuple #[.agg #[.bool false, .slice none 0 0], .bool false]) (by simp [results, Tryz.results135, go_sem, r0, r1]) rfl ?_
          first
            | exact PPost.no ⟨_, rfl, Sl.nil _ _⟩ ((hbel.setCell (Nat.le_refl _) _).setCell (Nat.le_refl _) _) HNO.out
            | exact PPost.no ⟨_, rfl, Sl.nil _ _⟩ hbel HNO.out

set_option maxRecDepth 100000 in
set_option maxHeartbeats 2000000 in
theorem rparse_plus (s : ByteArray) (w : World) (hs : s.size ≤ 100000000) (h0 : 0 < s.size) (h1 : bt s 0 = 43) :
    Calls Tryz.prog 135 #[.string s] w (PPost s w) := by
  obtain ⟨i0, hi, hz0, hz1, hz2⟩ := info_parts infoB
  have HF := Lib.hid (show fromA s = 1 from by unfold fromA; rw [if_pos ⟨h0, by omega⟩])
  have hq0 := bt_at h0
  have hn1 : (((s[0].toNat : Nat) : Int) == 45) = false := by rw [beq_eq_false_iff_ne]; omega
  have hn2 : (((s[0].toNat : Nat) : Int) == 43) = true := by rw [beq_iff_eq]; omega
  have HNG : Hid (negA s = false) := Lib.hid (by unfold negA; simp [h1])
  clear hq0
  have hb0 := below1 w (.cells #[.bool false, .slice none 0 0] 24)
  have hr0 : (w.alloc (.cells #[.bool false, .slice none 0 0] 24)).heap[w.heap.size]? = some (.cells #[.bool false, .slice none 0 0] 24 (0, 0)) := heap_alloc_new w _
  rcases (by omega : s.size ≤ 1 ∨ 1 < s.size) with hsz | hsz
  · have hx1 : (1 == (s.size : Int)) = true := by rw [beq_iff_eq]; omega
    have hno : ¬ okA s := fun h => by have := h.1; rw [HF.out] at this; omega
    have HNO := Lib.hid hno
    clear hno hr0
    go_enter Tryz.func135, Tryz.ntmps135
    go_wp2
    refine bodyPost_ret (v := .tuple #[.agg #[.bool false, .slice none 0 0], .bool false]) (by simp [results, Tryz.results135, go_sem]) rfl ?_
    first
      | exact PPost.no ⟨_, rfl, Sl.nil _ _⟩ ((hb0.setCell (Nat.le_refl _) _).setCell (Nat.le_refl _) _) HNO.out
      | exact PPost.no ⟨_, rfl, Sl.nil _ _⟩ hb0 HNO.out
  have hx1 : (1 == (s.size : Int)) = false := by rw [beq_eq_false_iff_ne]; omega
  go_enter Tryz.func135, Tryz.ntmps135
  go_wp2_with fail
  go_loopw [5, 6] (fun v i wr => ∃ k : Nat, 1 ≤ k ∧ k ≤ s.size ∧ i = .int .i64 ((k : Int) - 1) ∧ (∀ j, k ≤ j → j < s.size → 48 ≤ bt s j ∧ bt s j ≤ 57) ∧ wr.ownsRow (w.heap.size + 1) 5 1 v (s.size - k) (cellsOf .u8 ((bodyA s).take (s.size - k))) ∧ wr.heap[w.heap.size]? = some (.cells #[.bool false, .slice none 0 0] 24 (0, 0)) ∧ Below w.heap.size w wr ∧ w.heap.size < wr.heap.size) (fun _ i _ => (intOf i + 1).toNat)
  case atStart => exact ⟨s.size, by omega, Nat.le_refl _, rfl, fun j h1 h2 => by omega, by rw [Nat.sub_self]; exact World.ownsRow_nil _ _ _ _, hr0, hb0, by simp⟩
  case round =>
    clear hr0 hb0
    obtain ⟨k, hkF, hk, rfl, hall, hown, hr, hbel, hlt⟩ := hrel
    have HA := Lib.hid hall; clear hall
    by_cases hkk : k = 1
    · subst hkk
      have hok : okA s := ⟨by rw [HF.out]; exact hsz, fun j h1 h2 => HA.out j (by rw [HF.out] at h1; exact h1) h2⟩
      have HOK := Lib.hid hok
      have hbl : (bodyA s).take (s.size - 1) = bodyA s := List.take_of_length_le (by rw [bodyA_len, HF.out]; exact Nat.le_refl _)
      rw [hbl] at hown
      have hsl := owns_sl (k := .u8) (xs := bodyA s) hown
      obtain ⟨a', c', rfl⟩ := owns_slice hown
      have HDB := Lib.hid (bodyA_db hok)
      clear hown hok hbl
      go_wp2_with fail
      refine (rmake_any false _ (bodyA s) _ hsl HDB.out).mono ?_
      rintro e w2 ⟨v2, neg2, rs, ok, rfl, ⟨sv2, rfl, hs2⟩, hb2, hres⟩
      have hr2 := (hb2.block w.heap.size hlt).trans hr
      have r0 := cell_heap hr2 0
      have r1 := cell_heap hr2 1
      have f0 := frozen_heap hr2 0
      have f1 := frozen_heap hr2 1
      have hbw := hbel.trans (hb2.mono hbel.size)
      have HS2 := Lib.hid hs2
      obtain ⟨p1, ao4, cap4, rfl, p2, p3⟩ := hs2
      have HRES := Lib.hid (makeP HOK.out (by rw [HNG.out]; exact hres))
      have HR2 := Lib.hid hr2
      clear hres p1 p2 p3 hr hr2
      go_wp2
      refine bodyPost_ret (v := .tuple #[.agg #[.bool neg2, .slice ao4 rs.length cap4], .bool ok]) (by simp [results, Tryz.results135, go_sem, r0, r1]) rfl ?_
      exact ⟨_, neg2, rs, ok, rfl, ⟨_, rfl, HS2.out.box HR2.out _ _⟩, (hbw.setCell (Nat.le_refl _) _).setCell (Nat.le_refl _) _, HRES.out⟩
    · obtain ⟨p, rfl⟩ : ∃ p, k = p + 1 := ⟨k - 1, by omega⟩
      have hps : p < s.size := by omega
      have hpF : 1 ≤ p := by omega
      have HB := Lib.hid (bt_at hps)
      have hbl := bt_lt s p
      by_cases hdg : 48 ≤ bt s p ∧ bt s p ≤ 57
      · have HST := Lib.hid (takeB_step (s := s) (k := p) (by rw [HF.out]; exact hpF) hk)
        have HDG := Lib.hid hdg
        have hb1 : 48 ≤ ((s[p].toNat : Nat) : Int) := by have := HB.out; omega
        have hb2 : ((s[p].toNat : Nat) : Int) ≤ 57 := by have := HB.out; omega
        have HR := Lib.hid hr
        clear hdg hkk hr
        go_wp2_with (at_builtin; go_loud (refine wpList_append_own _ rfl _ _ 80 rfl (w.heap.size + 1) 5 i0 (.int .u8 0) 1 1 Tryz.underlying80 hi hz0 hz1 hz2 rfl (by decide) _ (s.size - (p + 1)) (cellsOf .u8 ((bodyA s).take (s.size - (p + 1)))) rfl (hown.alloc _) ⟨wr.heap.size, 0, none⟩ 1 1 [.int .u8 ((s[p].toNat : Int) - 48)] rfl (by simp) (cell_one_new _ _ _) (by intro u hu; rw [List.mem_singleton] at hu; subst hu; rfl) (by unfold maxLen; omega) (by omega) (by simp; omega) ?_); intro v' w4 hown1 hgrow hnil; clear hnil)
        go_roundw
        case rel =>
          have e0 := HB.out
          have e3 := HDG.out
          have e1 : (cellsOf .u8 ((bodyA s).take (s.size - (p + 1))) ++ [.int .u8 ((s[p].toNat : Int) - 48)]) = cellsOf .u8 ((bodyA s).take (s.size - p)) := by
            rw [HST.out, cellsOf_append]
            have : ((s[p].toNat : Int) - 48) = ((bt s p - 48 : Nat) : Int) := by omega
            rw [this]
            rfl
          have e2 : s.size - (p + 1) + 1 = s.size - p := by omega
          rw [e1, e2] at hown1
          have hlo := hown.lt
          have hgrow' : World.grownBy _ w4 (Value.ownBlock _) := hgrow
          refine ⟨p, hpF, by omega, by go_num, fun j h1 h2 => ?_, hown1, ?_, (hbel.alloc (Nat.le_of_lt hlt) _).grown hgrow' (by simp; omega) (fun k hk => by have := (hlo k hk).1; omega), by have := hgrow'.size; simp at this; omega⟩
          · by_cases e : j = p
            · subst e; exact e3
            · exact HA.out j (by omega) h2
          · rw [hgrow'.block w.heap.size (by simp; omega) (fun h => by have := (hlo _ h.symm).1; omega), Below.heap_alloc _ _ _ hlt]
            exact HR.out
        case measure => simp only [intOf]; omega
      · have hno : ¬ okA s := fun h => hdg (h.2 p (by rw [HF.out]; exact hpF) hps)
        have HNO := Lib.hid hno
        have r0 := cell_heap hr 0
        have r1 := cell_heap hr 1
        have f0 := frozen_heap hr 0
        have f1 := frozen_heap hr 1
        rcases (by omega : bt s p < 48 ∨ 57 < bt s p) with hlo | hhi
        · have hb1 : ((s[p].toNat : Nat) : Int) < 48 := by have := HB.out; omega
          clear hno hdg hkk hown hr
          go_wp2
          refine bodyPost_ret (v := .tuple #[.agg #[.bool false, .slice none 0 0], .bool false]) (by simp [results, Tryz.results135, go_sem, r0, r1]) rfl ?_
          first
            | exact PPost.no ⟨_, rfl, Sl.nil _ _⟩ ((hbel.setCell (Nat.le_refl _) _).setCell (Nat.le_refl _) _) HNO.out
            | exact PPost.no ⟨_, rfl, Sl.nil _ _⟩ hbel HNO.out
        · have hb1 : 57 < ((s[p].toNat : Nat) : Int) := by have := HB.out; omega
          have hb2 : 48 ≤ ((s[p].toNat : Nat) : Int) := by have := HB.out; omega
          clear hno hdg hkk hown hr
          go_wp2
          refine bodyPost_ret (v := .tuple #[.agg #[.bool false, .slice none 0 0], .bool false]) (by simp [results, Tryz.results135, go_sem, r0, r1]) rfl ?_
          first
            | exact PPost.no ⟨_, rfl, Sl.nil _ _⟩ ((hbel.setCell (Nat.le_refl _) _).setCell (Nat.le_refl _) _) HNO.out
            | exact PPost.no ⟨_, rfl, Sl.nil _ _⟩ hbel HNO.out

set_option maxRecDepth 100000 in
set_option maxHeartbeats 2000000 in
theorem rparse_bare (s : ByteArray) (w : World) (hs : s.size ≤ 100000000) (h0 : 0 < s.size) (h1 : bt s 0 ≠ 43) (h2 : bt s 0 ≠ 45) :
    Calls Tryz.prog 135 #[.string s] w (PPost s w) := by
  obtain ⟨i0, hi, hz0, hz1, hz2⟩ := info_parts infoB
  have HF := Lib.hid (show fromA s = 0 from by unfold fromA; rw [if_neg (by omega)])
  have hq0 := bt_at h0
  have hn1 : (((s[0].toNat : Nat) : Int) == 45) = false := by rw [beq_eq_false_iff_ne]; omega
  have hn2 : (((s[0].toNat : Nat) : Int) == 43) = false := by rw [beq_eq_false_iff_ne]; omega
  have HNG : Hid (negA s = false) := Lib.hid (by unfold negA; simp [h2])
  clear hq0
  have hb0 := below1 w (.cells #[.bool false, .slice none 0 0] 24)
  have hr0 : (w.alloc (.cells #[.bool false, .slice none 0 0] 24)).heap[w.heap.size]? = some (.cells #[.bool false, .slice none 0 0] 24 (0, 0)) := heap_alloc_new w _
  have hx1 : (0 == (s.size : Int)) = false := by rw [beq_eq_false_iff_ne]; omega
  have hsz : 0 < s.size := h0
  go_enter Tryz.func135, Tryz.ntmps135
  go_wp2_with fail
  go_loopw [5, 6] (fun v i wr => ∃ k : Nat, 0 ≤ k ∧ k ≤ s.size ∧ i = .int .i64 ((k : Int) - 1) ∧ (∀ j, k ≤ j → j < s.size → 48 ≤ bt s j ∧ bt s j ≤ 57) ∧ wr.ownsRow (w.heap.size + 1) 5 1 v (s.size - k) (cellsOf .u8 ((bodyA s).take (s.size - k))) ∧ wr.heap[w.heap.size]? = some (.cells #[.bool false, .slice none 0 0] 24 (0, 0)) ∧ Below w.heap.size w wr ∧ w.heap.size < wr.heap.size) (fun _ i _ => (intOf i + 1).toNat)
  case atStart => exact ⟨s.size, by omega, Nat.le_refl _, rfl, fun j h1 h2 => by omega, by rw [Nat.sub_self]; exact World.ownsRow_nil _ _ _ _, hr0, hb0, by simp⟩
  case round =>
    clear hr0 hb0
    obtain ⟨k, hkF, hk, rfl, hall, hown, hr, hbel, hlt⟩ := hrel
    have HA := Lib.hid hall; clear hall
    by_cases hkk : k = 0
    · subst hkk
      have hok : okA s := ⟨by rw [HF.out]; exact hsz, fun j h1 h2 => HA.out j (by rw [HF.out] at h1; exact h1) h2⟩
      have HOK := Lib.hid hok
      have hbl : (bodyA s).take (s.size - 0) = bodyA s := List.take_of_length_le (by rw [bodyA_len, HF.out]; exact Nat.le_refl _)
      rw [hbl] at hown
      have hsl := owns_sl (k := .u8) (xs := bodyA s) hown
      obtain ⟨a', c', rfl⟩ := owns_slice hown
      have HDB := Lib.hid (bodyA_db hok)
      clear hown hok hbl
      go_wp2_with fail
      refine (rmake_any false _ (bodyA s) _ hsl HDB.out).mono ?_
      rintro e w2 ⟨v2, neg2, rs, ok, rfl, ⟨sv2, rfl, hs2⟩, hb2, hres⟩
      have hr2 := (hb2.block w.heap.size hlt).trans hr
      have r0 := cell_heap hr2 0
      have r1 := cell_heap hr2 1
      have f0 := frozen_heap hr2 0
      have f1 := frozen_heap hr2 1
      have hbw := hbel.trans (hb2.mono hbel.size)
      have HS2 := Lib.hid hs2
      obtain ⟨p1, ao4, cap4, rfl, p2, p3⟩ := hs2
      have HRES := Lib.hid (makeP HOK.out (by rw [HNG.out]; exact hres))
      have HR2 := Lib.hid hr2
      clear hres p1 p2 p3 hr hr2
      go_wp2
      refine bodyPost_ret (v := .tuple #[.agg #[.bool neg2, .slice ao4 rs.length cap4], .bool ok]) (by simp [results, Tryz.results135, go_sem, r0, r1]) rfl ?_
      exact ⟨_, neg2, rs, ok, rfl, ⟨_, rfl, HS2.out.box HR2.out _ _⟩, (hbw.setCell (Nat.le_refl _) _).setCell (Nat.le_refl _) _, HRES.out⟩
    · obtain ⟨p, rfl⟩ : ∃ p, k = p + 1 := ⟨k - 1, by omega⟩
      have hps : p < s.size := by omega
      have hpF : 0 ≤ p := by omega
      have HB := Lib.hid (bt_at hps)
      have hbl := bt_lt s p
      by_cases hdg : 48 ≤ bt s p ∧ bt s p ≤ 57
      · have HST := Lib.hid (takeB_step (s := s) (k := p) (by rw [HF.out]; exact hpF) hk)
        have HDG := Lib.hid hdg
        have hb1 : 48 ≤ ((s[p].toNat : Nat) : Int) := by have := HB.out; omega
        have hb2 : ((s[p].toNat : Nat) : Int) ≤ 57 := by have := HB.out; omega
        have HR := Lib.hid hr
        clear hdg hkk hr
        go_wp2_with (at_builtin; go_loud (refine wpList_append_own _ rfl _ _ 80 rfl (w.heap.size + 1) 5 i0 (.int .u8 0) 1 1 Tryz.underlying80 hi hz0 hz1 hz2 rfl (by decide) _ (s.size - (p + 1)) (cellsOf .u8 ((bodyA s).take (s.size - (p + 1)))) rfl (hown.alloc _) ⟨wr.heap.size, 0, none⟩ 1 1 [.int .u8 ((s[p].toNat : Int) - 48)] rfl (by simp) (cell_one_new _ _ _) (by intro u hu; rw [List.mem_singleton] at hu; subst hu; rfl) (by unfold maxLen; omega) (by omega) (by simp; omega) ?_); intro v' w4 hown1 hgrow hnil; clear hnil)
        go_roundw
        case rel =>
          have e0 := HB.out
          have e3 := HDG.out
          have e1 : (cellsOf .u8 ((bodyA s).take (s.size - (p + 1))) ++ [.int .u8 ((s[p].toNat : Int) - 48)]) = cellsOf .u8 ((bodyA s).take (s.size - p)) := by
            rw [HST.out, cellsOf_append]
            have : ((s[p].toNat : Int) - 48) = ((bt s p - 48 : Nat) : Int) := by omega
            rw [this]
            rfl
          have e2 : s.size - (p + 1) + 1 = s.size - p := by omega
          rw [e1, e2] at hown1
          have hlo := hown.lt
          have hgrow' : World.grownBy _ w4 (Value.ownBlock _) := hgrow
          refine ⟨p, hpF, by omega, by go_num, fun j h1 h2 => ?_, hown1, ?_, (hbel.alloc (Nat.le_of_lt hlt) _).grown hgrow' (by simp; omega) (fun k hk => by have := (hlo k hk).1; omega), by have := hgrow'.size; simp at this; omega⟩
          · by_cases e : j = p
            · subst e; exact e3
            · exact HA.out j (by omega) h2
          · rw [hgrow'.block w.heap.size (by simp; omega) (fun h => by have := (hlo _ h.symm).1; omega), Below.heap_alloc _ _ _ hlt]
            exact HR.out
        case measure => simp only [intOf]; omega
      · have hno : ¬ okA s := fun h => hdg (h.2 p (by rw [HF.out]; exact hpF) hps)
        have HNO := Lib.hid hno
        have r0 := cell_heap hr 0
        have r1 := cell_heap hr 1
        have f0 := frozen_heap hr 0
        have f1 := frozen_heap hr 1
        rcases (by omega : bt s p < 48 ∨ 57 < bt s p) with hlo | hhi
        · have hb1 : ((s[p].toNat : Nat) : Int) < 48 := by have := HB.out; omega
          clear hno hdg hkk hown hr
          go_wp2
          refine bodyPost_ret (v := .tuple #[.agg #[.bool false, .slice none 0 0], .bool false]) (by simp [results, Tryz.results135, go_sem, r0, r1]) rfl ?_
          first
            | exact PPost.no ⟨_, rfl, Sl.nil _ _⟩ ((hbel.setCell (Nat.le_refl _) _).setCell (Nat.le_refl _) _) HNO.out
            | exact PPost.no ⟨_, rfl, Sl.nil _ _⟩ hbel HNO.out
        · have hb1 : 57 < ((s[p].toNat : Nat) : Int) := by have := HB.out; omega
          have hb2 : 48 ≤ ((s[p].toNat : Nat) : Int) := by have := HB.out; omega
          clear hno hdg hkk hown hr
          go_wp2
          refine bodyPost_ret (v := .tuple #[.agg #[.bool false, .slice none 0 0], .bool false]) (by simp [results, Tryz.results135, go_sem, r0, r1]) rfl ?_
          first
            | exact PPost.no ⟨_, rfl, Sl.nil _ _⟩ ((hbel.setCell (Nat.le_refl _) _).setCell (Nat.le_refl _) _) HNO.out
            | exact PPost.no ⟨_, rfl, Sl.nil _ _⟩ hbel HNO.out

set_option maxRecDepth 100000 in
set_option maxHeartbeats 2000000 in
theorem rparse_any (s : ByteArray) (w : World) (hs : s.size ≤ 100000000) :
    Calls Tryz.prog 135 #[.string s] w (PPost s w) := by
  rcases Nat.eq_zero_or_pos s.size with h0 | h0
  · have hno : ¬ okA s := fun h => by have := h.1; omega
    have HNO := Lib.hid hno
    have hb0 := below1 w (.cells #[.bool false, .slice none 0 0] 24)
    have hz : s.size ≤ 0 := by omega
    have hx1 : (0 == (s.size : Int)) = true := by rw [beq_iff_eq]; omega
    clear hno h0
    go_enter Tryz.func135, Tryz.ntmps135
    go_wp2
    refine bodyPost_ret (v := .tuple #[.agg #[.bool false, .slice none 0 0], .bool false]) (by simp [results, Tryz.results135, go_sem]) rfl ?_
    first
      | exact PPost.no ⟨_, rfl, Sl.nil _ _⟩ ((hb0.setCell (Nat.le_refl _) _).setCell (Nat.le_refl _) _) HNO.out
      | exact PPost.no ⟨_, rfl, Sl.nil _ _⟩ hb0 HNO.out
  · by_cases h1 : bt s 0 = 45
    · exact rparse_minus s w hs h0 h1
    by_cases h2 : bt s 0 = 43
    · exact rparse_plus s w hs h0 h2
    · exact rparse_bare s w hs h0 h2 h1
end Go.Proofs.YtbfcbicbeagjkaaGreatDoor
