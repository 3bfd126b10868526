/- num.Of -/
import Derived.Test.YtiekhjgfnmochaaDoorAdd
namespace Go.Proofs.YtiekhjgfnmochaaDoor
open Go.RowKit

/-- What the loop of Of holds: rs is done, s is left of N. -/
structure OfInv (N : Nat) (rs : List Nat) (s : Nat) : Prop where
  lb : Lb rs
  eq : val rs + s * 1000000000 ^ rs.length = N
  top : s = 0 → rs ≠ [] → limb rs (rs.length - 1) ≠ 0
  len : rs.length ≤ 3
  small : 1 ≤ s → rs.length ≤ 2

theorem limb_snoc {rs : List Nat} {d i : Nat} : limb (rs ++ [d]) i = if i < rs.length then limb rs i else if i = rs.length then d else 0 := by
  unfold limb
  simp only [List.getD_eq_getElem?_getD, List.getElem?_append]
  split
  · rfl
  · split
    · next h => subst h; simp
    · rw [List.getElem?_eq_none (by simp; omega)]; rfl
theorem val_snoc (rs : List Nat) (d : Nat) : val (rs ++ [d]) = val rs + d * 1000000000 ^ rs.length := by
  unfold val
  have e : (rs ++ [d]).length = rs.length + 1 := by simp
  rw [e]
  simp only [V]
  rw [limb_snoc, if_neg (by omega), if_pos rfl]
  congr 1
  exact V_congr fun i hi => by rw [limb_snoc, if_pos hi]
theorem Lb.snoc {rs : List Nat} (h : Lb rs) {d : Nat} (hd : d < 1000000000) : Lb (rs ++ [d]) := by
  intro i; rw [limb_snoc]; split
  · exact h i
  · split <;> omega
theorem OfInv.step {N : Nat} {rs : List Nat} {s : Nat} (h : OfInv N rs s) (hs : 1 ≤ s) (hN : N ≤ 9223372036854775808) : OfInv N (rs ++ [s % 1000000000]) (s / 1000000000) := by
  have h2 := h.small hs
  have he := h.eq
  refine ⟨h.lb.snoc (by omega), ?_, fun h0 _ => ?_, by simp; omega, fun h1 => ?_⟩
  · rw [val_snoc]
    have e : (rs ++ [s % 1000000000]).length = rs.length + 1 := by simp
    rw [e, Nat.pow_succ]
    have hd := Nat.div_add_mod s 1000000000
    generalize s / 1000000000 = q at *
    generalize s % 1000000000 = r at *
    generalize 1000000000 ^ rs.length = P at *
    generalize val rs = x at *
    clear h2 h e
    subst hd
    grind
  · have e : (rs ++ [s % 1000000000]).length - 1 = rs.length := by simp
    rw [e, limb_snoc, if_neg (by omega), if_pos rfl]
    omega
  · have e : (rs ++ [s % 1000000000]).length = rs.length + 1 := by simp
    rw [e]
    rcases (by omega : rs.length = 0 ∨ rs.length = 1 ∨ rs.length = 2) with e2 | e2 | e2
    · omega
    · omega
    · rw [e2] at he
      omega
theorem OfInv.le {N : Nat} {rs : List Nat} {s : Nat} (h : OfInv N rs s) : s ≤ N := by
  have := h.eq
  have h2 : s * 1 ≤ s * 1000000000 ^ rs.length := Nat.mul_le_mul_left _ (Nat.pow_pos (by omega))
  omega
theorem OfInv.start (N : Nat) : OfInv N [] N := ⟨fun i => by rw [limb_out (by simp)]; omega, by simp [val, V], fun _ h => absurd rfl h, by simp, fun _ => by simp⟩

/-- What Of answers. -/
def OfPost (n : Int) (w : World) (e : Ending) (w' : World) : Prop :=
  ∃ v neg rs, e = .returned v ∧ IntV w' v neg rs ∧ Below w.heap.size w w' ∧ Snd neg rs ∧ ival neg rs = n

theorem wrap_neg (n : Int) (h1 : -9223372036854775808 ≤ n) (h2 : n < 0) : IntKind.u64.wrap (-IntKind.u64.wrap n) = -n := by
  rw [IntKind.wrap_u64, IntKind.wrap_u64]; omega

set_option maxRecDepth 100000 in
set_option maxHeartbeats 2000000 in
theorem of_any (n : Int) (w : World) (h1 : -9223372036854775808 ≤ n) (h2 : n ≤ 9223372036854775807) :
    Calls Tryd.prog 22 #[.int .i64 n] w (OfPost n w) := by
  obtain ⟨i0, hi, hz0, hz1, hz2⟩ := info_parts infoU32
  obtain ⟨N, hN⟩ : ∃ N : Nat, N = n.natAbs := ⟨_, rfl⟩
  have HW := Lib.hid (wrap_neg n h1)
  have hN2 : N ≤ 9223372036854775808 := by omega
  have HN := Lib.hid hN
  have HB := Lib.hid hN2
  have H1 := Lib.hid h1
  have H2 := Lib.hid h2
  have hr0 : (w.alloc (.cells #[.bool false, .slice none 0 0] 24)).heap[w.heap.size]? = some (.cells #[.bool false, .slice none 0 0] 24 (0, 0)) := heap_alloc_new w _
  have key : (n < 0 ∧ decide (n < 0) = true) ∨ (0 ≤ n ∧ decide (n < 0) = false) := by
    by_cases h : n < 0
    · exact .inl ⟨h, by simp [h]⟩
    · exact .inr ⟨by omega, by simp [h]⟩
  rcases key with ⟨hneg, hd⟩ | ⟨hneg, hd⟩
  all_goals
    clear hN hN2 h1
    go_enter Tryd.func22, Tryd.ntmps22
    go_wp2
    go_loopw [3, 4] (fun s v wr => ∃ rs sz, s = .int .u64 (sz : Nat) ∧ OfInv N rs sz ∧ wr.ownsRow (w.heap.size + 1) 52 1 v rs.length (rs.map fun (x : Nat) => Value.int .u32 (x : Int)) ∧ wr.heap[w.heap.size]? = some (.cells #[.bool false, .slice none 0 0] 24 (0, 0)) ∧ Below w.heap.size w wr ∧ w.heap.size < wr.heap.size) (fun s _ _ => (intOf s).toNat)
    case atStart => exact ⟨[], N, by have : ∀ a b : Int, a = b → Value.int .u64 a = .int .u64 b := fun _ _ h => by rw [h]
                                     first | (exact this _ _ (by rw [HW.out hneg]; have := HN.out; omega)) | (exact this _ _ (by have := HN.out; omega)), OfInv.start N, World.ownsRow_nil _ _ _ _, hr0, below1 w _, by simp⟩
    case round =>
      obtain ⟨rs, sz, rfl, hinv, hown, hr, hbel, hlt⟩ := hrel
      rcases (by omega : sz < 1 ∨ 1 ≤ sz) with h0 | hs
      · obtain rfl : sz = 0 := by omega
        have HO := Lib.hid hown
        have HI := Lib.hid hinv
        obtain ⟨a', c', rfl⟩ := owns_slice hown
        clear hown hinv
        have r0 := cell_heap hr 0
        have r1 := cell_heap hr 1
        have f0 := frozen_heap hr 0
        have f1 := frozen_heap hr 1
        clear hr
        go_wp2
        refine bodyPost_ret (v := .agg #[.bool (decide (n < 0)), .slice a' rs.length c']) (by simp [results, Tryd.results22, go_sem, r0, r1, hd]) rfl ?_
        have he := HI.out.eq
        have hv : val rs = n.natAbs := by have := HN.out; omega
        refine ⟨_, decide (n < 0), rs, rfl, ⟨_, rfl, owns_sl (base := w.heap.size + 1) (n := rs.length) (e := 52) ?_⟩, (hbel.setCell (by simp) _).setCell (by simp) _, ⟨by have := HI.out.len; omega, HI.out.lb, fun e => ?_, fun h => HI.out.top rfl h⟩, ?_⟩
        · exact ownsRow_setCell_below (ownsRow_setCell_below HO.out (by simp) _) (by simp) _
        · subst e
          have : val [] = 0 := rfl
          rw [decide_eq_false_iff_not]
          omega
        · unfold ival
          rw [hv]
          split
          · next h => simp at h; omega
          · next h => simp at h; omega
      · have HI := Lib.hid (hinv.step hs (by have := HB.out; exact this))
        have hsm := hinv.small hs
        have hsz : sz ≤ 9223372036854775808 := Nat.le_trans hinv.le HB.out
        have HR := Lib.hid hr
        clear hinv hr
        go_wp2_with (at_builtin; refine wpList_append_own _ rfl _ _ 22 rfl (w.heap.size + 1) 52 i0 (.int .u32 0) 1 4 Tryd.underlying22 hi hz0 hz1 hz2 rfl (by decide) _ rs.length (rs.map fun (x : Nat) => Value.int .u32 (x : Int)) rfl (hown.alloc _) ⟨wr.heap.size, 0, none⟩ 1 1 [.int .u32 ((sz : Int) % 1000000000)] rfl (by simp) (cell_one_new _ _ _) (by intro u hu; rw [List.mem_singleton] at hu; subst hu; rfl) (by unfold maxLen; omega) (by omega) (by simp; omega) ?_; intro v' w1 hown1 hgrow hnil; clear hnil)
        go_roundw
        case rel =>
          have e1 : (List.map (fun (x : Nat) => Value.int .u32 (x : Int)) rs ++ [.int .u32 ((sz : Int) % 1000000000)]) = (rs ++ [sz % 1000000000]).map fun (x : Nat) => Value.int .u32 (x : Int) := by simp
          have e2 : rs.length + 1 = (rs ++ [sz % 1000000000]).length := by simp
          rw [e1, e2] at hown1
          have hl := hown.lt
          have hgrow' : World.grownBy _ w1 u4.ownBlock := hgrow
          refine ⟨rs ++ [sz % 1000000000], sz / 1000000000, by go_num, HI.out, hown1, ?_, (hbel.alloc (Nat.le_of_lt hlt) _).grown hgrow' (by simp; omega) (fun k hk => by have := (hl k hk).1; omega), by have := hgrow'.size; simp at this; omega⟩
          rw [hgrow'.block w.heap.size (by simp; omega) (fun h => by have := (hl _ h.symm).1; omega), Below.heap_alloc _ _ _ hlt]
          exact HR.out
        case measure =>
          simp only [intOf]
          omega
end Go.Proofs.YtiekhjgfnmochaaDoor
