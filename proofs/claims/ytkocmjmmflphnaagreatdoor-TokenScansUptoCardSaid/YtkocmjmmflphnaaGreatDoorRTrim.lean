/- ref.trim | ref.Digits | ref.Make -/
import Derived.Test.YtkocmjmmflphnaaGreatDoorTrim
import Derived.Test.YtkocmjmmflphnaaGreatDoorDigMath
namespace Go.Proofs.YtkocmjmmflphnaaGreatDoor
open Go.RowKit

/-- What trim leaves. -/
def RTrimPost (v : Value) (xs : List Nat) (w : World) (e : Ending) (w' : World) : Prop :=
  ∃ v' n, e = .returned v' ∧ n ≤ xs.length ∧ (n = 0 ∨ limb xs (n - 1) ≠ 0) ∧ (∀ i, n ≤ i → limb xs i = 0) ∧ (∀ w2, Sl .u8 w2 v xs → Sl .u8 w2 v' (xs.take n)) ∧ w = w'

set_option maxRecDepth 100000 in
set_option maxHeartbeats 1000000 in
theorem rtrim_any (v : Value) (xs : List Nat) (w : World) (hs : Sl .u8 w v xs) (hx : ∀ i, limb xs i < 256) :
    Calls Tryz.prog 50 #[v] w (RTrimPost v xs w) := by
  obtain ⟨hm, ao, cap, rfl, hcap, h⟩ := hs
  unfold maxLen at hm
  have HX := Lib.hid hx; clear hx
  rcases h with ⟨rfl, _⟩ | ⟨b, off, rfl, hb, hcell⟩
  · go_enter Tryz.func50, Tryz.ntmps50
    go_wp2
    refine wp_loop_rounds 1 ?_
    rw [rounds_succ]
    go_wp2
    go_ret
    exact ⟨_, 0, rfl, by omega, .inl rfl, fun i _ => limb_out (by simp), fun _ h => h, rfl⟩
  · have HC := Lib.hid hcell; clear hcell
    go_enter Tryz.func50, Tryz.ntmps50
    go_wp2
    go_loop [3] (fun i => ∃ n : Nat, n ≤ xs.length ∧ i = .int .i64 n ∧ ∀ j, n ≤ j → limb xs j = 0) (fun i => (intOf i).toNat)
    case atStart => exact ⟨xs.length, Nat.le_refl _, rfl, fun j hj => limb_out hj⟩
    case round =>
      obtain ⟨n, hn, rfl, hz⟩ := hrel
      have HZ := Lib.hid hz; clear hz
      rcases n with _ | m
      · go_wp2
        go_ret
        exact ⟨_, 0, rfl, by omega, .inl rfl, HZ.out, fun _ h => h.take (by omega), rfl⟩
      · have hcm := HC.out m (by omega)
        have hxm := HX.out m
        rcases Nat.eq_zero_or_pos (limb xs m) with h0 | hp
        · have h1 : limb xs m ≤ 0 := by omega
          have H0 := Lib.hid h0; clear h0
          go_wp2
          go_round
          case rel => exact ⟨m, by omega, by first | rfl | go_num, fun j hj => by
            by_cases e : j = m
            · subst e; exact H0.out
            · exact HZ.out j (by omega)⟩
          case measure => simp only [intOf]; omega
        · go_wp2
          go_ret
          exact ⟨_, m + 1, rfl, by omega, .inr (by rw [Nat.add_sub_cancel]; omega), HZ.out, fun _ h => h.take (by omega), rfl⟩
end Go.Proofs.YtkocmjmmflphnaaGreatDoor
namespace Go.Proofs.YtkocmjmmflphnaaGreatDoor
open Go.RowKit

theorem infoB : (Tryz.prog.info? 5).map (fun i => (i.zero, i.size, i.bytes)) = some (some (.int .u8 0), 1, 1) := by kernel_rfl

/-- What trim of digits comes to. -/
theorem dtrim (v : Value) (ds : List Nat) (N : Nat) (w : World) (hs : Sl .u8 w v ds) (hd : Db ds) (hv : dval ds = N) :
    Calls Tryz.prog 50 #[v] w (fun e w' => DigPost N w e w') := by
  refine (rtrim_any v ds w hs hd.wide).mono ?_
  rintro e w' ⟨v', n, rfl, hn, ht, hz, hsl, rfl⟩
  exact ⟨v', ds.take n, rfl, hsl w hs, hd.take n, Top.take hn ht, by rw [dval_take hn hz, hv], Below.refl _ w⟩

end Go.Proofs.YtkocmjmmflphnaaGreatDoor
namespace Go.Proofs.YtkocmjmmflphnaaGreatDoor
open Go.RowKit

/-- What Make answers, and Parse: the number N, or that it is too large. -/
def MkPost (neg : Bool) (N : Nat) (w : World) (e : Ending) (w' : World) : Prop :=
  ∃ v neg' rs ok, e = .returned (.tuple #[v, .bool ok]) ∧ IntV w' v neg' rs ∧ Below w.heap.size w w' ∧
    ((ok = true ∧ Snd neg' rs ∧ val rs = N ∧ (rs ≠ [] → neg' = neg)) ∨ (ok = false ∧ neg' = false ∧ rs = [] ∧ 1000000000 ^ 64 ≤ N))

theorem sl_two {w wr : World} {v a b : Value} {i j : Nat} {rs : List Nat} {e : TypeId} (h : wr.ownsRow (w.heap.size + 1) e 1 v rs.length (rs.map fun (x : Nat) => Value.int .u32 (x : Int))) :
    Sl .u32 ((wr.setCell ⟨w.heap.size, i, none⟩ a).setCell ⟨w.heap.size, j, none⟩ b) v rs :=
  owns_sl (base := w.heap.size + 1) (n := rs.length) (e := e) (ownsRow_setCell_below (ownsRow_setCell_below h (by simp) _) (by simp) _)

set_option maxRecDepth 100000 in
set_option maxHeartbeats 2000000 in
theorem rmake_any (neg : Bool) (sv : Value) (gs : List Nat) (w : World) (hs : Sl .u8 w sv gs) (hg : Db gs) :
    Calls Tryz.prog 42 #[.bool neg, sv] w (MkPost neg (dval gs) w) := by
  obtain ⟨i0, hi, hz0, hz1, hz2⟩ := info_parts infoU32
  have HS := Lib.hid hs
  have HG := Lib.hid hg
  clear hs hg
  have hr0 : (w.alloc (.cells #[.bool false, .slice none 0 0] 39)).heap[w.heap.size]? = some (.cells #[.bool false, .slice none 0 0] 39 (0, 0)) := heap_alloc_new w _
  go_enter Tryz.func42, Tryz.ntmps42
  go_wp2_with fail
  have hs1 : Sl .u8 (w.alloc (.cells #[.bool false, .slice none 0 0] 39)) sv gs := HS.out.below (below1 w _)
  refine (rtrim_any sv gs _ hs1 HG.out.wide).mono ?_
  rintro e w' ⟨v, n, rfl, hn, ht, hz, hsl, rfl⟩
  have h := hsl _ hs1
  have htop := Top.take hn ht
  have hdb := HG.out.take n
  have hval : dval (gs.take n) = dval gs := dval_take hn hz
  clear hs1 hsl hn ht hz
  generalize gs.take n = ds at *
  clear HS HG
  obtain ⟨hm, ao, cap, rfl, hcap, h⟩ := h
  unfold maxLen at hm
  have HT := Lib.hid htop; clear htop
  have HB := Lib.hid hdb; clear hdb
  have HV := Lib.hid hval; clear hval
  rcases (by omega : 576 < ds.length ∨ ds.length ≤ 576) with hbig | hle
  · have hd : decide ((576 : Int) < (ds.length : Int)) = true := by simp; omega
    have HL := Lib.hid hbig; clear hbig
    go_wp2
    refine bodyPost_ret (v := .tuple #[.agg #[.bool false, .slice none 0 0], .bool false]) (by simp [results, Tryz.results42, go_sem]) rfl ?_
    refine ⟨_, false, [], false, rfl, ⟨_, rfl, Sl.nil _ _⟩, below1 w _, .inr ⟨rfl, rfl, rfl, ?_⟩⟩
    rw [← HV.out, ← pow9]
    have := (HT.out.len HB.out (n := 9 * 64)).2
    apply Classical.byContradiction
    intro hh
    have := this (by omega)
    have := HL.out
    omega
  · have hd : decide ((576 : Int) < (ds.length : Int)) = false := by rw [decide_eq_false_iff_not]; omega
    have HC : Hid (∀ j, j < ds.length → ∃ b off, ao = some ⟨b, off, none⟩ ∧ b < w.heap.size + 1 ∧ (w.alloc (.cells #[.bool false, .slice none 0 0] 39)).cell? ⟨b, off + j, none⟩ = some (.int .u8 ((limb ds j : Nat) : Int))) := Lib.hid fun j hj => by
      rcases h with ⟨h, _⟩ | ⟨b, off, h1, h2, h3⟩
      · rw [h] at hj; simp at hj
      · exact ⟨b, off, h1, by simpa using h2, h3 j hj⟩
    clear h
    have hb1 := below1 w (.cells #[.bool false, .slice none 0 0] 39)
    obtain ⟨w1, hw1⟩ : ∃ w1, w1 = w.alloc (.cells #[.bool false, .slice none 0 0] 39) := ⟨_, rfl⟩
    have hsz : w1.heap.size = w.heap.size + 1 := by rw [hw1]; simp
    rw [← hw1] at hr0 HC hb1 ⊢
    clear hw1
    have hb2 : Below (w.heap.size + 1) w1 w1 := Below.refl _ _
    go_wp2_with fail
    go_loopw [7, 8] (fun v i wr => ∃ rs q, i = .int .i64 ((9 * q : Nat) : Int) ∧ MkOut ds rs q ∧ wr.ownsRow (w.heap.size + 1) 82 1 v rs.length (rs.map fun (x : Nat) => Value.int .u32 (x : Int)) ∧ Below (w.heap.size + 1) w1 wr ∧ w.heap.size < wr.heap.size) (fun _ i _ => ds.length + 9 - (intOf i).toNat)
    case atStart => exact ⟨[], 0, rfl, MkOut.start ds, World.ownsRow_nil _ _ _ _, hb2, by omega⟩
    case round =>
      clear hb2
      obtain ⟨rs, q, rfl, hout, hown, hbel, hlt⟩ := hrel
      by_cases hq : 9 * q < ds.length
      · have HO := Lib.hid hout; clear hout
        obtain ⟨b, off, hao, hb, _⟩ := HC.out _ hq
        subst hao
        have HC2 : Hid (∀ j, j < ds.length → wr.cell? ⟨b, off + j, none⟩ = some (.int .u8 ((limb ds j : Nat) : Int))) := Lib.hid fun j hj => by
          obtain ⟨b', off', h1, h2, h3⟩ := HC.out j hj
          simp only [Option.some.injEq, Addr.mk.injEq, and_true] at h1
          obtain ⟨rfl, rfl⟩ := h1
          rw [hbel.cell (p := ⟨b, off + j, none⟩) hb]; exact h3
        go_wp2_with fail
        go_loopw [9, 10] (fun x j wx => ∃ (xv kk : Nat), kk ≤ 9 ∧ x = .int .u32 (xv : Nat) ∧ j = .int .i64 ((kk : Int) - 1) ∧ MkIn ds q xv kk ∧ wx = wr) (fun _ j _ => (intOf j + 1).toNat)
        case atStart => exact ⟨0, 9, by omega, rfl, rfl, MkIn.start ds q, rfl⟩
        case round =>
          obtain ⟨xv, kk, hkk, rfl, rfl, hin, rfl⟩ := hrel
          rcases kk with _ | k
          · have hx := hin.lt
            have HN := Lib.hid (hin.next HO.out hq); clear hin
            have hlen := HO.out.len
            have hsm : rs.length < 1000 := by omega
            clear hlen
            go_wp2_with (at_builtin; go_loud (refine wpList_append_own _ rfl _ _ 37 rfl (w.heap.size + 1) 82 i0 (.int .u32 0) 1 4 Tryz.underlying37 hi hz0 hz1 hz2 rfl (by decide) _ rs.length (rs.map fun (x : Nat) => Value.int .u32 (x : Int)) rfl (hown.alloc _) ⟨wr.heap.size, 0, none⟩ 1 1 [.int .u32 (xv : Int)] rfl (by simp) (cell_one_new _ _ _) (by intro u hu; rw [List.mem_singleton] at hu; subst hu; rfl) (by unfold maxLen; omega) (by omega) (by simp; omega) ?_); intro v' w2 hown1 hgrow hnil; clear hnil)
            go_roundw
            case rel =>
              have e1 : (List.map (fun (x : Nat) => Value.int .u32 (x : Int)) rs ++ [.int .u32 (xv : Int)]) = (rs ++ [xv]).map fun (x : Nat) => Value.int .u32 (x : Int) := by simp
              have e2 : rs.length + 1 = (rs ++ [xv]).length := by simp
              rw [e1, e2] at hown1
              have hlo := hown.lt
              have hgrow' : World.grownBy _ w2 (Value.ownBlock _) := hgrow
              refine ⟨rs ++ [xv], q + 1, by go_num, HN.out, hown1, (hbel.alloc (by omega) _).grown hgrow' (by simp; omega) (fun k hk => by have := (hlo k hk).1; omega), by have := hgrow'.size; simp at this; omega⟩
            case measure => simp only [intOf]; omega
          · have h10 := hin.ten
            have hdk := HB.out (9 * q + k)
            by_cases hkl : 9 * q + k < ds.length
            · have hck := HC2.out (9 * q + k) hkl
              have HN := Lib.hid (hin.step HB.out (by omega)); clear hin
              have e1 : IntKind.i64.wrap (((9 * q : Nat) : Int) + (((k + 1 : Nat) : Int) - 1)) = ((9 * q + k : Nat) : Int) := by rw [IntWalk.i64_in _ (by omega)]; omega
              go_wp2_with fail
              go_roundw
              case rel => exact ⟨xv * 10 + limb ds (9 * q + k), k, by omega, by go_num, by go_num, HN.out, trivial⟩
              case measure => simp only [intOf]; omega
            · have HN := Lib.hid (hin.step0 HB.out (by omega) (by omega)); clear hin
              go_wp2_with fail
              go_roundw
              case rel => exact ⟨xv * 10, k, by omega, by go_num, by go_num, HN.out, trivial⟩
              case measure => simp only [intOf]; omega
      · have HO := Lib.hid hout; clear hout
        have HOW := Lib.hid hown
        obtain ⟨a', c', rfl⟩ := owns_slice hown
        clear hown
        have hr : wr.heap[w.heap.size]? = some (.cells #[.bool false, .slice none 0 0] 39 (0, 0)) := by rw [hbel.block w.heap.size (by omega)]; exact hr0
        have r0 := cell_heap hr 0
        have r1 := cell_heap hr 1
        have f0 := frozen_heap hr 0
        have f1 := frozen_heap hr 1
        clear hr
        have HBW := Lib.hid (hb1.trans (hbel.mono (Nat.le_trans hb1.size (by omega)))); clear hbel hb1
        cases neg
        · go_wp2
          refine bodyPost_ret (v := .tuple #[.agg #[.bool false, .slice a' rs.length c'], .bool true]) (by simp [results, Tryz.results42, go_sem, r0, r1]) rfl ?_
          obtain ⟨h1, h2, h3⟩ := HO.out.done HT.out (by omega) hle (neg := false) (neg' := false) (by simp)
          refine ⟨_, false, rs, true, rfl, ⟨_, rfl, ?_⟩, ?_, .inl ⟨rfl, h1, by rw [h2, HV.out], h3⟩⟩
          · exact sl_two HOW.out
          · exact (HBW.out.setCell (by simp) _).setCell (by simp) _
        · go_wp2
          refine bodyPost_ret (v := .tuple #[.agg #[.bool (decide (0 < ds.length)), .slice a' rs.length c'], .bool true]) (by simp [results, Tryz.results42, go_sem, r0, r1]) rfl ?_
          obtain ⟨h1, h2, h3⟩ := HO.out.done HT.out (by omega) hle (neg := true) (neg' := decide (0 < ds.length)) (by simp)
          refine ⟨_, _, rs, true, rfl, ⟨_, rfl, ?_⟩, ?_, .inl ⟨rfl, h1, by rw [h2, HV.out], h3⟩⟩
          · exact sl_two HOW.out
          · exact (HBW.out.setCell (by simp) _).setCell (by simp) _
end Go.Proofs.YtkocmjmmflphnaaGreatDoor
