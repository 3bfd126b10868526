/- RibMany: each of many bindings of one name, under as many marks, is found by its own marks alone. Of any number, from any mark. -/
import Derived.Test.YtegengnffdlplaaDoorRbId
namespace Go.Proofs.YtegengnffdlplaaDoor
open Go.RowKit

def vB : ByteArray := ⟨#[118]⟩
def wB : ByteArray := ⟨#[119]⟩
theorem vB_byt : byt vB = [118] := by decide
theorem wB_byt : byt wB = [119] := by decide
/-- So many bindings. -/
def tkV (f : Int) : Nat → Ek → Option Int
  | 0 => fun _ => none
  | i + 1 => putE (tkV f i) (1, vB, wrt [f + i + 1, 3]) (i + 1)
theorem Rg.two {m : Int} (h : 0 ≤ m ∧ m ≤ 100000) : Rg [m, 3] := fun z hz => by
  simp only [List.mem_cons, List.not_mem_nil, or_false] at hz
  rcases hz with rfl | rfl <;> omega
theorem atV {f : Int} (hf : 0 ≤ f ∧ f ≤ 1000) : ∀ {i : Nat}, i ≤ 1000 → ∀ {m : Int}, 0 ≤ m → m ≤ 100000 → atE (tkV f i) vB 1 [m, 3] = if f < m ∧ m ≤ f + i then m - f else 0 := by
  intro i
  induction i with
  | zero => intro _ m h1 h2; rw [if_neg (by omega)]; rfl
  | succ i ih =>
    intro hi m h1 h2
    unfold tkV
    rw [atE_put (Rg.two ⟨h1, h2⟩) (Rg.two (by omega)), ih (by omega) h1 h2]
    by_cases he : m = f + i + 1
    · subst he
      rw [if_pos ⟨rfl, rfl, rfl⟩, if_pos (by omega)]
      omega
    · rw [if_neg (by rintro ⟨_, _, h⟩; injection h with h _; exact he h)]
      by_cases h3 : f < m ∧ m ≤ f + i
      · rw [if_pos h3, if_pos (by omega)]
      · rw [if_neg h3, if_neg (by omega)]
theorem atW {f : Int} (hf : 0 ≤ f ∧ f ≤ 1000) : ∀ {i : Nat}, i ≤ 1000 → ∀ {m : Int}, 0 ≤ m → m ≤ 100000 → atE (tkV f i) wB 1 [m, 3] = 0 := by
  intro i
  induction i with
  | zero => intro _ m h1 h2; rfl
  | succ i ih =>
    intro hi m h1 h2
    unfold tkV
    rw [atE_put (Rg.two ⟨h1, h2⟩) (Rg.two (by omega)), ih (by omega) h1 h2, if_neg (by rintro ⟨_, h, _⟩; exact absurd h (by decide))]
/-- What is wanted. -/
def wantV (c i : Nat) : Int := if i < c then (i : Int) + 1 else 0
theorem find_v {f : Int} (hf : 0 ≤ f ∧ f ≤ 1000) {c i : Nat} (hc : c ≤ 1000) (hi : i ≤ 2000) : fndL (atE (tkV f c) vB) [1, 0, 0] [f + i + 1, 3] = wantV c i := by
  rw [fnd_b (by decide), atV hf hc (by omega) (by omega)]
  unfold wantV
  by_cases h : i < c
  · rw [if_pos (show f < f + i + 1 ∧ f + i + 1 ≤ f + c by omega), if_pos h, if_pos (by omega)]; omega
  · rw [if_neg (show ¬ (f < f + i + 1 ∧ f + i + 1 ≤ f + c) by omega), if_neg h, if_neg (by simp)]; rfl
theorem find_w {f : Int} (hf : 0 ≤ f ∧ f ≤ 1000) {c i : Nat} (hc : c ≤ 1000) (hi : i ≤ 2000) : fndL (atE (tkV f c) wB) [1, 0, 0] [f + i + 1, 3] = 0 := by
  rw [fnd_b (by decide), atW hf hc (by omega) (by omega), if_neg (by simp)]; rfl

set_option maxRecDepth 100000 in
set_option maxHeartbeats 4000000 in
theorem ribmany_any (z0 z1 : Int) (w : World) (ht : Tabs w) (h0 : 0 ≤ z0) (h1 : z0 ≤ 255) (h2 : 0 ≤ z1) (h3 : z1 ≤ 255) :
    Calls Tryd.prog 4 #[.int .u8 z0, .int .u8 z1] w fun e w' => e = .returned (.bool true) ∧ Below w.heap.size w w' := by
  have HT := Lib.hid ht
  have HTM : Hid (vB.size ≤ maxLen) := Lib.hid (by decide)
  have HTW : Hid (wB.size ≤ maxLen) := Lib.hid (by decide)
  have HTS : Hid (vB.size ≤ 10) := Lib.hid (by decide)
  clear ht
  go_enter Tryd.func4, Tryd.ntmps4
  go_wp2_with fail
  refine (new_z w (Below.refl _ _)).mono ?_
  rintro e w1 ⟨rfl, hz⟩
  have HZ1 := Lib.hid hz
  clear hz
  generalize hg : w.heap.size = g at HZ1 ⊢
  go_wp2_with fail
  refine (answers11_any w1 (HT.out.below HZ1.out.bel (Nat.le_refl _))).mono ?_
  rintro e w2 ⟨rfl, hb2⟩
  have HZ2 := Lib.hid (HZ1.out.below hb2)
  clear hb2
  go_wp2_with fail
  refine (rib_z HZ2.out (by omega)).mono ?_
  rintro e w3 ⟨rfl, hz⟩
  have HZ3 : Hid (Rz w w3 g 1 0 (tkV z1 0)) := Lib.hid hz
  rw [show ((0 + 1 : Nat) : Int) = 1 from rfl]
  clear hz
  obtain ⟨c, hc⟩ : ∃ c : Nat, z0 % 40 + 1 = (c : Int) := ⟨(z0 % 40 + 1).toNat, by omega⟩
  have hcr : 1 ≤ c ∧ c ≤ 40 := by omega
  have HCC : Hid (c ≤ 1000) := Lib.hid (by omega)
  obtain ⟨f, hfz⟩ : ∃ f, f = z1 := ⟨_, rfl⟩
  subst hfz
  have HF : Hid (0 ≤ f ∧ f ≤ 1000) := Lib.hid (by omega)
  go_wp2_with fail
  go_loopw [8] (fun v wr => ∃ i : Nat, v = .int .i64 (i : Nat) ∧ i ≤ c ∧ Rz w wr g 1 0 (tkV f i)) (fun v _ => c - (intOf v).toNat)
  case atStart => exact ⟨0, rfl, Nat.zero_le _, HZ3.out⟩
  case round =>
    obtain ⟨i, rfl, hi, hz⟩ := hrel
    have HZR := Lib.hid hz
    clear hz
    by_cases hic : i < c
    · have hii : ((i : Nat) : Int) < ((c : Nat) : Int) := by omega
      have HI : Hid (i ≤ 40) := Lib.hid (by omega)
      have hx0 := iz_new wr [f + i + 1, 3] (by simp)
      have hy0 := below1 wr (.cells #[.int .i64 (f + i + 1), .int .i64 3] 3)
      have hx1 := iz_new (wr.alloc (.cells #[.int .i64 (f + i + 1), .int .i64 3] 3)) [0, 0] (by simp)
      have hy1 := below1 (wr.alloc (.cells #[.int .i64 (f + i + 1), .int .i64 3] 3)) (.cells #[.int .i64 0, .int .i64 0] 3)
      go_wp2_with fail
      refine (idl_any vB _ _ _ _ _ _ _).mono ?_
      rintro e wi ⟨rfl, hbi⟩
      have HBI : Hid (Below wr.heap.size wr wi) := Lib.hid ((hy0.trans (hy1.mono (by simp))).trans (hbi.mono (by simp; omega)))
      have HMI : Hid (Iz wi (.slice (some ⟨wr.heap.size, 0, none⟩) 2 2) [f + i + 1, 3]) := Lib.hid ((hx0.below hy1).below hbi)
      have HSI : Hid (Iz wi (.slice (some ⟨wr.heap.size + 1, 0, none⟩) 2 2) [0, 0]) := Lib.hid (by have h := hx1.below hbi; rw [Go.World.size_alloc] at h; exact h)
      have HZI := Lib.hid (HZR.out.below HBI.out)
      clear hbi hx0 hy0 hx1 hy1
      go_wp2_with fail
      refine (put_z HZI.out 1 (.mk 4 vB false [] [] 0 [f + i + 1, 3] [0, 0]) [.int .i64 4, .string vB, .bool false, .slice none 0 0, .slice none 0 0, .int .i64 0, .slice (some ⟨wr.heap.size, 0, none⟩) 2 2, .slice (some ⟨wr.heap.size + 1, 0, none⟩) 2 2] (i + 1) (sl_leaf HTM.out HMI.out HSI.out) (sm_leaf (by have := HTM.out; have := HTS.out; omega) (by simp) (by simp)) HT.out (mayP_is (idB_leaf vB_byt (by omega) (by unfold sndW sndS lrgB mksB sbsB zc; simp [List.range_succ, markB, gz] <;> omega)) (by omega) (by omega)) ((show atE (tkV f i) vB 1 [f + i + 1, 3] = 0 from by rw [atV HF.out (by have := HI.out; omega) (by have := HI.out; omega) (by have := HI.out; omega), if_neg (by omega)]))).mono ?_
      rintro e w5 ⟨rfl, hz⟩
      have HZ5 : Hid (Rz w w5 g 1 0 (tkV f (i + 1))) := Lib.hid hz
      clear hz HZI HMI HSI HBI
      go_wp2_with fail
      go_roundw
      case measure => simp only [intOf]; omega
      case rel => exact ⟨i + 1, by go_num, by omega, HZ5.out⟩
    · obtain rfl : c = i := by omega
      go_wp2_with fail
      go_loopw [10] (fun v wr => ∃ j : Nat, v = .int .i64 (j : Nat) ∧ j ≤ c + 2 ∧ Rz w wr g 1 0 (tkV f c)) (fun v _ => c + 2 - (intOf v).toNat)
      case atStart => exact ⟨0, rfl, Nat.zero_le _, HZR.out⟩
      case round =>
        obtain ⟨i, rfl, hi2, hz⟩ := hrel
        have HZR := Lib.hid hz
        clear hz
        by_cases hic : i < c + 2
        · have hii : ((i : Nat) : Int) < ((c : Nat) : Int) + 2 := by omega
          have HI : Hid (i ≤ 42) := Lib.hid (by omega)
          obtain ⟨wv, hwv⟩ : ∃ wv, wantV c i = wv := ⟨_, rfl⟩
          have HFV : Hid (fndL (atE (tkV f c) vB) [1, 0, 0] [f + i + 1, 3] = wv) := Lib.hid ((find_v HF.out HCC.out (by have := HI.out; omega)).trans hwv)
          have HFW : Hid (fndL (atE (tkV f c) wB) [1, 0, 0] [f + i + 1, 3] = 0) := Lib.hid (find_w HF.out HCC.out (by have := HI.out; omega))
          have HWV := Lib.hid hwv
          clear hwv
          have hx0 := iz_new wr [f + i + 1, 3] (by simp)
          have hy0 := below1 wr (.cells #[.int .i64 (f + i + 1), .int .i64 3] 3)
          have hx1 := iz_new (wr.alloc (.cells #[.int .i64 (f + i + 1), .int .i64 3] 3)) [1, 0, 0] (by simp)
          have hy1 := below1 (wr.alloc (.cells #[.int .i64 (f + i + 1), .int .i64 3] 3)) (.cells #[.int .i64 1, .int .i64 0, .int .i64 0] 3)
          go_wp2_with fail
          refine (idl_any vB _ _ _ _ _ _ _).mono ?_
          rintro e wi ⟨rfl, hbi⟩
          have HBI : Hid (Below wr.heap.size wr wi) := Lib.hid ((hy0.trans (hy1.mono (by simp))).trans (hbi.mono (by simp; omega)))
          have HMI : Hid (Iz wi (.slice (some ⟨wr.heap.size, 0, none⟩) 2 2) [f + i + 1, 3]) := Lib.hid ((hx0.below hy1).below hbi)
          have HSI : Hid (Iz wi (.slice (some ⟨wr.heap.size + 1, 0, none⟩) 3 3) [1, 0, 0]) := Lib.hid (by have h := hx1.below hbi; rw [Go.World.size_alloc] at h; exact h)
          have HZI := Lib.hid (HZR.out.below HBI.out)
          clear hbi hx0 hy0 hx1 hy1
          go_wp2_with fail
          refine (find_z HZI.out (.mk 4 vB false [] [] 0 [f + i + 1, 3] [1, 0, 0]) [.int .i64 4, .string vB, .bool false, .slice none 0 0, .slice none 0 0, .int .i64 0, .slice (some ⟨wr.heap.size, 0, none⟩) 2 2, .slice (some ⟨wr.heap.size + 1, 0, none⟩) 3 3] (sl_leaf (by first | exact HTM.out | exact HTW.out) HMI.out HSI.out) (sm_leaf (by decide) (by simp) (by simp)) HT.out).mono ?_
          rintro e w5 ⟨rfl, hz⟩
          have HZ5 := Lib.hid hz
          rw [fndB_is (idB_leaf vB_byt (by omega) (by unfold sndW sndS lrgB mksB sbsB zc; simp [List.range_succ, markB, gz] <;> omega)), fndE_is (idB_leaf vB_byt (by omega) (by unfold sndW sndS lrgB mksB sbsB zc; simp [List.range_succ, markB, gz] <;> omega)), (show fndL (atE (tkV f c) vB) [1, 0, 0] [f + i + 1, 3] = wv from HFV.out)]
          clear hz HZI HMI HSI HBI
          have hx0 := iz_new w5 [9, f + i + 1, 3] (by simp)
          have hy0 := below1 w5 (.cells #[.int .i64 9, .int .i64 (f + i + 1), .int .i64 3] 3)
          have hx1 := iz_new (w5.alloc (.cells #[.int .i64 9, .int .i64 (f + i + 1), .int .i64 3] 3)) [0, 1, 0, 0] (by simp)
          have hy1 := below1 (w5.alloc (.cells #[.int .i64 9, .int .i64 (f + i + 1), .int .i64 3] 3)) (.cells #[.int .i64 0, .int .i64 1, .int .i64 0, .int .i64 0] 3)
          go_wp2_with fail
          refine (idl_any vB _ _ _ _ _ _ _).mono ?_
          rintro e wi ⟨rfl, hbi⟩
          have HBI : Hid (Below w5.heap.size w5 wi) := Lib.hid ((hy0.trans (hy1.mono (by simp))).trans (hbi.mono (by simp; omega)))
          have HMI : Hid (Iz wi (.slice (some ⟨w5.heap.size, 0, none⟩) 3 3) [9, f + i + 1, 3]) := Lib.hid ((hx0.below hy1).below hbi)
          have HSI : Hid (Iz wi (.slice (some ⟨w5.heap.size + 1, 0, none⟩) 4 4) [0, 1, 0, 0]) := Lib.hid (by have h := hx1.below hbi; rw [Go.World.size_alloc] at h; exact h)
          have HZI := Lib.hid (HZ5.out.below HBI.out)
          clear hbi hx0 hy0 hx1 hy1
          go_wp2_with fail
          refine (find_z HZI.out (.mk 4 vB false [] [] 0 [9, f + i + 1, 3] [0, 1, 0, 0]) [.int .i64 4, .string vB, .bool false, .slice none 0 0, .slice none 0 0, .int .i64 0, .slice (some ⟨w5.heap.size, 0, none⟩) 3 3, .slice (some ⟨w5.heap.size + 1, 0, none⟩) 4 4] (sl_leaf (by first | exact HTM.out | exact HTW.out) HMI.out HSI.out) (sm_leaf (by decide) (by simp) (by simp)) HT.out).mono ?_
          rintro e w6 ⟨rfl, hz⟩
          have HZ6 := Lib.hid hz
          rw [fndB_is (idB_leaf vB_byt (by omega) (by unfold sndW sndS lrgB mksB sbsB zc; simp [List.range_succ, markB, gz] <;> omega)), fndE_is (idB_leaf vB_byt (by omega) (by unfold sndW sndS lrgB mksB sbsB zc; simp [List.range_succ, markB, gz] <;> omega)), (show fndL (atE (tkV f c) vB) [0, 1, 0, 0] [9, f + i + 1, 3] = wv from (by rw [fnd_0]; exact HFV.out))]
          clear hz HZI HMI HSI HBI
          have hx0 := iz_new w6 [f + i + 1, 3] (by simp)
          have hy0 := below1 w6 (.cells #[.int .i64 (f + i + 1), .int .i64 3] 3)
          have hx1 := iz_new (w6.alloc (.cells #[.int .i64 (f + i + 1), .int .i64 3] 3)) [1, 0, 0] (by simp)
          have hy1 := below1 (w6.alloc (.cells #[.int .i64 (f + i + 1), .int .i64 3] 3)) (.cells #[.int .i64 1, .int .i64 0, .int .i64 0] 3)
          go_wp2_with fail
          refine (idl_any wB _ _ _ _ _ _ _).mono ?_
          rintro e wi ⟨rfl, hbi⟩
          have HBI : Hid (Below w6.heap.size w6 wi) := Lib.hid ((hy0.trans (hy1.mono (by simp))).trans (hbi.mono (by simp; omega)))
          have HMI : Hid (Iz wi (.slice (some ⟨w6.heap.size, 0, none⟩) 2 2) [f + i + 1, 3]) := Lib.hid ((hx0.below hy1).below hbi)
          have HSI : Hid (Iz wi (.slice (some ⟨w6.heap.size + 1, 0, none⟩) 3 3) [1, 0, 0]) := Lib.hid (by have h := hx1.below hbi; rw [Go.World.size_alloc] at h; exact h)
          have HZI := Lib.hid (HZ6.out.below HBI.out)
          clear hbi hx0 hy0 hx1 hy1
          go_wp2_with fail
          refine (find_z HZI.out (.mk 4 wB false [] [] 0 [f + i + 1, 3] [1, 0, 0]) [.int .i64 4, .string wB, .bool false, .slice none 0 0, .slice none 0 0, .int .i64 0, .slice (some ⟨w6.heap.size, 0, none⟩) 2 2, .slice (some ⟨w6.heap.size + 1, 0, none⟩) 3 3] (sl_leaf (by first | exact HTM.out | exact HTW.out) HMI.out HSI.out) (sm_leaf (by decide) (by simp) (by simp)) HT.out).mono ?_
          rintro e w7 ⟨rfl, hz⟩
          have HZ7 := Lib.hid hz
          rw [fndB_is (idB_leaf wB_byt (by omega) (by unfold sndW sndS lrgB mksB sbsB zc; simp [List.range_succ, markB, gz] <;> omega)), fndE_is (idB_leaf wB_byt (by omega) (by unfold sndW sndS lrgB mksB sbsB zc; simp [List.range_succ, markB, gz] <;> omega)), (show fndL (atE (tkV f c) wB) [1, 0, 0] [f + i + 1, 3] = 0 from HFW.out)]
          clear hz HZI HMI HSI HBI
          by_cases hlc : i < c
          · have hge : decide (((c : Nat) : Int) ≤ ((i : Nat) : Int)) = false := by simp; omega
            have hw1 : wv = (i : Int) + 1 := by rw [← HWV.out]; unfold wantV; rw [if_pos hlc]
            subst hw1
            go_wp2_with fail
            go_roundw
            case measure => simp only [intOf]; omega
            case rel => exact ⟨i + 1, by go_num, by omega, HZ7.out⟩
          · have hge : decide (((c : Nat) : Int) ≤ ((i : Nat) : Int)) = true := by simp; omega
            have hw1 : wv = 0 := by rw [← HWV.out]; unfold wantV; rw [if_neg hlc]
            subst hw1
            go_wp2_with fail
            go_roundw
            case measure => simp only [intOf]; omega
            case rel => exact ⟨i + 1, by go_num, by omega, HZ7.out⟩
        · obtain rfl : i = c + 2 := by omega
          go_wp2_with fail
          go_ret
          exact ⟨rfl, HZR.out.bel⟩
end Go.Proofs.YtegengnffdlplaaDoor
