/- ref.Of -/
import Derived.Test.YtocladhggcaokaaGreatDoorAnyRes
import Derived.Test.YtocladhggcaokaaGreatDoorApp
import Derived.Test.YtocladhggcaokaaGreatDoorRTrim
namespace Go.Proofs.YtocladhggcaokaaGreatDoor
open Go.RowKit

/-- What the loop holds: ds is done, s is left of N. -/
structure DOf (N : Nat) (ds : List Nat) (s : Nat) : Prop where
  b : Db ds
  eq : dval ds + s * 10 ^ ds.length = N
  small : ds.length ≤ 20
  top : 1 ≤ s → ds.length ≤ 19
theorem DOf.start (N : Nat) : DOf N [] N := ⟨Db.nil, by simp [dval, D], by simp, fun _ => by simp⟩
theorem DOf.step {N : Nat} {ds : List Nat} {s : Nat} (h : DOf N ds s) (hs : 1 ≤ s) (hN : N ≤ 9223372036854775808) : DOf N (ds ++ [s % 10]) (s / 10) := by
  have he := h.eq
  have ht := h.top hs
  refine ⟨h.b.snoc (by omega), ?_, by simp; omega, fun h1 => ?_⟩
  · rw [dval_snoc]
    have e : (ds ++ [s % 10]).length = ds.length + 1 := by simp
    rw [e, Nat.pow_succ]
    have hd := Nat.div_add_mod s 10
    generalize s / 10 = q at *
    generalize s % 10 = r at *
    generalize 10 ^ ds.length = P at *
    generalize dval ds = x at *
    clear ht h e hs
    subst hd
    grind
  · have e : (ds ++ [s % 10]).length = ds.length + 1 := by simp
    rw [e]
    by_cases h19 : ds.length = 19
    · exfalso
      rw [h19] at he
      have h3 : 10 ^ 19 = 10000000000000000000 := by decide
      rw [h3] at he
      omega
    · omega
theorem DOf.le {N : Nat} {ds : List Nat} {s : Nat} (h : DOf N ds s) : s ≤ N := by
  have := h.eq
  have h2 : s * 1 ≤ s * 10 ^ ds.length := Nat.mul_le_mul_left _ (Nat.pow_pos (by omega))
  omega

set_option maxRecDepth 100000 in
set_option maxHeartbeats 600000 in
theorem rof_any (n : Int) (w : World) (h1 : -9223372036854775808 ≤ n) (h2 : n ≤ 9223372036854775807) :
    Calls Tryz.prog 15 #[.int .i64 n] w (OfPost n w) := by
  obtain ⟨i0, hi, hz0, hz1, hz2⟩ := info_parts infoB
  obtain ⟨N, hN⟩ : ∃ N : Nat, N = n.natAbs := ⟨_, rfl⟩
  have HW := Lib.hid (wrap_neg n h1)
  have hN2 : N ≤ 9223372036854775808 := by omega
  have HN := Lib.hid hN
  have HB := Lib.hid hN2
  have hr0 : (w.alloc (.cells #[.bool false, .slice none 0 0] 24)).heap[w.heap.size]? = some (.cells #[.bool false, .slice none 0 0] 24 (0, 0)) := heap_alloc_new w _
  have key : (n < 0 ∧ decide (n < 0) = true) ∨ (0 ≤ n ∧ decide (n < 0) = false) := by
    by_cases h : n < 0
    · exact .inl ⟨h, by simp [h]⟩
    · exact .inr ⟨by omega, by simp [h]⟩
  rcases key with ⟨hneg, hd⟩ | ⟨hneg, hd⟩
  all_goals
    clear hN hN2 h1
    go_enter Tryz.func15, Tryz.ntmps15
    go_wp2
    go_loopw [3, 4] (fun s v wr => ∃ ds sz, s = .int .u64 (sz : Nat) ∧ DOf N ds sz ∧ wr.ownsRow (w.heap.size + 1) 5 1 v ds.length (cellsOf .u8 ds) ∧ wr.heap[w.heap.size]? = some (.cells #[.bool false, .slice none 0 0] 24 (0, 0)) ∧ Below w.heap.size w wr ∧ w.heap.size < wr.heap.size) (fun s _ _ => (intOf s).toNat)
    case atStart => exact ⟨[], N, by have : ∀ a b : Int, a = b → Value.int .u64 a = .int .u64 b := fun _ _ h => by rw [h]
                                     first | (exact this _ _ (by rw [HW.out hneg]; have := HN.out; omega)) | (exact this _ _ (by have := HN.out; omega)), DOf.start N, World.ownsRow_nil _ _ _ _, hr0, below1 w _, by simp⟩
    case round =>
      obtain ⟨ds, sz, rfl, hinv, hown, hr, hbel, hlt⟩ := hrel
      rcases (by omega : sz < 1 ∨ 1 ≤ sz) with h0 | hs
      · obtain rfl : sz = 0 := by omega
        have hsl := owns_sl hown
        have HDB := Lib.hid hinv.b
        have he := hinv.eq
        have HE := Lib.hid he
        obtain ⟨a', c', rfl⟩ := owns_slice hown
        clear hown hinv he
        go_wp2_with fail
        refine (rmake_any _ _ ds _ hsl HDB.out).mono ?_
        rintro e w2 ⟨v2, neg2, rs, ok, rfl, ⟨sv2, rfl, hs2⟩, hb2, hres⟩
        have hr2 := (hb2.block w.heap.size hlt).trans hr
        have r0 := cell_heap hr2 0
        have r1 := cell_heap hr2 1
        have f0 := frozen_heap hr2 0
        have f1 := frozen_heap hr2 1
        have hbw := hbel.trans (hb2.mono hbel.size)
        have hlt2 := Nat.lt_of_lt_of_le hlt hb2.size
        have HS2 := Lib.hid hs2
        obtain ⟨p1, ao4, cap4, rfl, p2, p3⟩ := hs2
        have hres' : Snd neg2 rs ∧ ival neg2 rs = n := by
          have he := HE.out
          have hn := HN.out
          have hb := HB.out
          rcases hres with ⟨_, a, b, c⟩ | ⟨_, _, _, d⟩
          · refine ⟨a, ?_⟩
            have hv : val rs = n.natAbs := by omega
            by_cases hrs : rs = []
            · have h3 := a.2.2.1 hrs
              subst hrs
              have h4 : val [] = 0 := rfl
              unfold ival
              rw [h3, h4]
              simp
              omega
            · unfold ival
              rw [c hrs, hv]
              simp
              omega
          · exfalso
            have h5 : 1000000000 ^ 64 > 9223372036854775808 := by decide
            omega
        have HRES := Lib.hid hres'
        have HR2 := Lib.hid hr2
        clear hres hres' p1 p2 p3 HW hr hr2
        go_wp2
        refine bodyPost_ret (v := .agg #[.bool neg2, .slice ao4 rs.length cap4]) (by simp [results, Tryz.results15, go_sem, r0, r1, hlt2]) rfl ?_
        exact ⟨_, neg2, rs, rfl, ⟨_, rfl, (HS2.out.box HR2.out _ _).below (below1 _ _)⟩, ((hbw.setCell (Nat.le_refl _) _).setCell (Nat.le_refl _) _).alloc (by simp; omega) _, HRES.out.1, HRES.out.2⟩
      · have HI := Lib.hid (hinv.step hs (by have := HB.out; exact this))
        have hsm := hinv.small
        have hsz : sz ≤ 9223372036854775808 := Nat.le_trans hinv.le HB.out
        have HR := Lib.hid hr
        clear hinv hr
        go_wp2_with (at_builtin; refine wpList_append_own _ rfl _ _ 83 rfl (w.heap.size + 1) 5 i0 (.int .u8 0) 1 1 Tryz.underlying83 hi hz0 hz1 hz2 rfl (by decide) _ ds.length (cellsOf .u8 ds) rfl (hown.alloc _) ⟨wr.heap.size, 0, none⟩ 1 1 [.int .u8 ((sz : Int) % 10)] rfl (by simp) (cell_one_new _ _ _) (by intro u hu; rw [List.mem_singleton] at hu; subst hu; rfl) (by unfold maxLen; omega) (by omega) (by simp; omega) ?_; intro v' w1 hown1 hgrow hnil; clear hnil)
        go_roundw
        case rel =>
          have e1 : (cellsOf .u8 ds ++ [.int .u8 ((sz : Int) % 10)]) = cellsOf .u8 (ds ++ [sz % 10]) := by simp [cellsOf]
          have e2 : ds.length + 1 = (ds ++ [sz % 10]).length := by simp
          rw [e1, e2] at hown1
          have hl := hown.lt
          have hgrow' : World.grownBy _ w1 (Value.ownBlock _) := hgrow
          refine ⟨ds ++ [sz % 10], sz / 10, by go_num, HI.out, hown1, ?_, (hbel.alloc (Nat.le_of_lt hlt) _).grown hgrow' (by simp; omega) (fun k hk => by have := (hl k hk).1; omega), by have := hgrow'.size; simp at this; omega⟩
          rw [hgrow'.block w.heap.size (by simp; omega) (fun h => by have := (hl _ h.symm).1; omega), Below.heap_alloc _ _ _ hlt]
          exact HR.out
        case measure =>
          simp only [intOf]
          omega
end Go.Proofs.YtocladhggcaokaaGreatDoor
