/- RibShadows: the first rib that has a name counts, a mark hides what was bound without it, and what is behind the mark's end is found again. Of any name, any mark. -/
import Derived.Test.YtegengnffdlplaaDoorRbId
namespace Go.Proofs.YtegengnffdlplaaDoor
open Go.RowKit

/-- The three bindings. -/
def tkS (S : ByteArray) (k : Int) : Ek → Option Int := putE (putE (putE (fun _ => none) (1, S, wrt []) 1) (2, S, wrt []) 2) (2, S, wrt [k]) 3
theorem at3 {S : ByteArray} {k b : Int} {m : List Int} (hk : Rg [k]) (hm : Rg m) : atE (tkS S k) S b m = if b = 2 ∧ m = [k] then 3 else if b = 2 ∧ m = [] then 2 else if b = 1 ∧ m = [] then 1 else 0 := by
  unfold tkS
  rw [atE_put hm hk, atE_put hm Rg.nil, atE_put hm Rg.nil, atE_none]
  simp
theorem Rg.one {k : Int} (h : 1 ≤ k ∧ k ≤ 100000) : Rg [k] := fun z hz => by rw [List.mem_singleton] at hz; omega

set_option maxRecDepth 100000 in
set_option maxHeartbeats 4000000 in
theorem ribshadows_any (z0 z1 : Int) (bo : Bool) (w : World) (ht : Tabs w) (h0 : 0 ≤ z0) (h1 : z0 ≤ 255) (h2 : 0 ≤ z1) (h3 : z1 ≤ 255) :
    Calls Tryd.prog 3 #[.int .u8 z0, .int .u8 z1, .bool bo] w fun e w' => e = .returned (.bool true) ∧ Below w.heap.size w w' := by
  have HT := Lib.hid ht
  clear ht
  go_enter Tryd.func3, Tryd.ntmps3
  go_wp2_with fail
  refine (new_z w (Below.refl _ _)).mono ?_
  rintro e w1 ⟨rfl, hz⟩
  have HZ1 := Lib.hid hz
  clear hz
  generalize hg : w.heap.size = g at HZ1 ⊢
  go_wp2_with fail
  refine (answers11_any w1 (HT.out.below HZ1.out.bel (Nat.le_refl _))).mono ?_
  rintro e w2 ⟨rfl, hb2⟩
  have HZ2 := Lib.hid (HZ1.out.below hb2)
  clear hb2
  obtain ⟨c, hc⟩ : ∃ c : Nat, 97 + z0 % 26 = (c : Int) := ⟨(97 + z0 % 26).toNat, by omega⟩
  obtain ⟨k, hk⟩ : ∃ k, z1 % 5 + 1 = k := ⟨_, rfl⟩
  have hcr : 97 ≤ c ∧ c ≤ 122 := by omega
  have hkr : 1 ≤ k ∧ k ≤ 5 := by omega
  have hrow : Row .u8 5 (w2.alloc (.cells #[.int .u8 (c : Nat)] 5)) w2.heap.size [c] := heap_alloc_new w2 _
  have hconv := conv_sl (P := Tryd.prog) (src := 25) (e := 5) (dst := 9) Tryd.underlying25 Tryd.underlying5 Tryd.underlying9 (hrow.sl_all (n := 1) (cap := 1) rfl (Nat.le_refl _) (by unfold maxLen; omega))
  obtain ⟨S, hS⟩ : ∃ S, S = strOf [c] := ⟨_, rfl⟩
  rw [← hS] at hconv
  have HS : Hid (byt S = [c] ∧ 97 ≤ c ∧ c ≤ 122) := Lib.hid ⟨by rw [hS]; unfold byt strOf; simp; omega, hcr⟩
  have HTM : Hid (S.size ≤ maxLen) := Lib.hid (by rw [← byt_len, HS.out.1]; unfold maxLen; simp)
  have HTS : Hid (S.size ≤ 10) := Lib.hid (by rw [← byt_len, HS.out.1]; simp)
  have HRK : Hid (Rg [k]) := Lib.hid (Rg.one (by omega))
  have HRK1 : Hid (Rg [k + 1]) := Lib.hid (Rg.one (by omega))
  have HZ3 := Lib.hid (HZ2.out.below (below1 w2 (.cells #[.int .u8 (c : Nat)] 5)))
  clear hrow hcr hS
  go_upto_region 5 with fail
  generalize w2.alloc (.cells #[.int .u8 (c : Nat)] 5) = w3 at *
  clear hconv hc
  go_wp2_with fail
  refine (rib_z HZ3.out (by omega)).mono ?_
  rintro e w3b ⟨rfl, hz⟩
  have HZ3b := Lib.hid hz
  rw [show ((0 + 1 : Nat) : Int) = 1 from rfl]
  clear hz
  go_wp2_with fail
  refine (rib_z HZ3b.out (by omega)).mono ?_
  rintro e w4 ⟨rfl, hz⟩
  have HZ4 : Hid (Rz w w4 g 2 0 (fun _ => none)) := Lib.hid hz
  rw [show ((0 + 1 + 1 : Nat) : Int) = 2 from rfl]
  clear hz
  go_upto_region 7 with fail
  clear hk
  go_wp2_with fail
  refine (idl_any S _ _ _ _ _ _ _).mono ?_
  rintro e wi ⟨rfl, hbi⟩
  have HBI := Lib.hid hbi
  have HMI := Lib.hid (Iz.nil wi)
  have HSI := Lib.hid (Iz.nil wi)
  have HZI := Lib.hid (HZ4.out.below HBI.out)
  clear hbi 
  go_wp2_with fail
  refine (put_z HZI.out 1 (.mk 4 S false [] [] 0 [] []) [.int .i64 4, .string S, .bool false, .slice none 0 0, .slice none 0 0, .int .i64 0, .slice none 0 0, .slice none 0 0] 1 (sl_leaf HTM.out HMI.out HSI.out) (sm_leaf (by have := HTM.out; have := HTS.out; omega) (by simp) (by simp)) HT.out (mayP_is (idB_leaf HS.out.1 HS.out.2 (by unfold sndW sndS lrgB mksB sbsB zc; simp [List.range_succ, markB, gz] <;> omega)) (by omega) (by omega)) (rfl)).mono ?_
  rintro e w5 ⟨rfl, hz⟩
  have HZ5 : Hid (Rz w w5 g 2 0 (putE (fun _ => none) (1, S, wrt []) 1)) := Lib.hid hz
  clear hz HZI HMI HSI HBI
  go_wp2_with fail
  refine (idl_any S _ _ _ _ _ _ _).mono ?_
  rintro e wi ⟨rfl, hbi⟩
  have HBI := Lib.hid hbi
  have HMI := Lib.hid (Iz.nil wi)
  have HSI := Lib.hid (Iz.nil wi)
  have HZI := Lib.hid (HZ5.out.below HBI.out)
  clear hbi 
  go_wp2_with fail
  refine (put_z HZI.out 2 (.mk 4 S false [] [] 0 [] []) [.int .i64 4, .string S, .bool false, .slice none 0 0, .slice none 0 0, .int .i64 0, .slice none 0 0, .slice none 0 0] 2 (sl_leaf HTM.out HMI.out HSI.out) (sm_leaf (by have := HTM.out; have := HTS.out; omega) (by simp) (by simp)) HT.out (mayP_is (idB_leaf HS.out.1 HS.out.2 (by unfold sndW sndS lrgB mksB sbsB zc; simp [List.range_succ, markB, gz] <;> omega)) (by omega) (by omega)) ((show atE (putE (fun _ => none) (1, S, wrt []) 1) S 2 [] = 0 from by rw [atE_put Rg.nil Rg.nil, atE_none]; simp))).mono ?_
  rintro e w6 ⟨rfl, hz⟩
  have HZ6 : Hid (Rz w w6 g 2 0 (putE (putE (fun _ => none) (1, S, wrt []) 1) (2, S, wrt []) 2)) := Lib.hid hz
  clear hz HZI HMI HSI HBI
  have hx0 := iz_new w6 [k] (by simp)
  have hy0 := below1 w6 (.cells #[.int .i64 k] 3)
  have hx1 := iz_new (w6.alloc (.cells #[.int .i64 k] 3)) [0] (by simp)
  have hy1 := below1 (w6.alloc (.cells #[.int .i64 k] 3)) (.cells #[.int .i64 0] 3)
  go_wp2_with fail
  refine (idl_any S _ _ _ _ _ _ _).mono ?_
  rintro e wi ⟨rfl, hbi⟩
  have HBI : Hid (Below w6.heap.size w6 wi) := Lib.hid ((hy0.trans (hy1.mono (by simp))).trans (hbi.mono (by simp; omega)))
  have HMI : Hid (Iz wi (.slice (some ⟨w6.heap.size, 0, none⟩) 1 1) [k]) := Lib.hid ((hx0.below hy1).below hbi)
  have HSI : Hid (Iz wi (.slice (some ⟨w6.heap.size + 1, 0, none⟩) 1 1) [0]) := Lib.hid (by have h := hx1.below hbi; rw [Go.World.size_alloc] at h; exact h)
  have HZI := Lib.hid (HZ6.out.below HBI.out)
  clear hbi hx0 hy0 hx1 hy1
  go_wp2_with fail
  refine (put_z HZI.out 2 (.mk 4 S false [] [] 0 [k] [0]) [.int .i64 4, .string S, .bool false, .slice none 0 0, .slice none 0 0, .int .i64 0, .slice (some ⟨w6.heap.size, 0, none⟩) 1 1, .slice (some ⟨w6.heap.size + 1, 0, none⟩) 1 1] 3 (sl_leaf HTM.out HMI.out HSI.out) (sm_leaf (by have := HTM.out; have := HTS.out; omega) (by simp) (by simp)) HT.out (mayP_is (idB_leaf HS.out.1 HS.out.2 (by unfold sndW sndS lrgB mksB sbsB zc; simp [List.range_succ, markB, gz] <;> omega)) (by omega) (by omega)) ((show atE (putE (putE (fun _ => none) (1, S, wrt []) 1) (2, S, wrt []) 2) S 2 [k] = 0 from by rw [atE_put HRK.out Rg.nil, atE_put HRK.out Rg.nil, atE_none]; simp))).mono ?_
  rintro e w7 ⟨rfl, hz⟩
  have HZ7 : Hid (Rz w w7 g 2 0 (tkS S k)) := Lib.hid hz
  clear hz HZI HMI HSI HBI
  have hx0 := iz_new w7 [2, 1] (by simp)
  have hy0 := below1 w7 (.cells #[.int .i64 2, .int .i64 1] 3)
  go_wp2_with fail
  refine (idl_any S _ _ _ _ _ _ _).mono ?_
  rintro e wi ⟨rfl, hbi⟩
  have HBI : Hid (Below w7.heap.size w7 wi) := Lib.hid (hy0.trans (hbi.mono (by simp)))
  have HMI := Lib.hid (Iz.nil wi)
  have HSI : Hid (Iz wi (.slice (some ⟨w7.heap.size, 0, none⟩) 2 2) [2, 1]) := Lib.hid (hx0.below hbi)
  have HZI := Lib.hid (HZ7.out.below HBI.out)
  clear hbi hx0 hy0
  go_wp2_with fail
  refine (find_z HZI.out (.mk 4 S false [] [] 0 [] [2, 1]) [.int .i64 4, .string S, .bool false, .slice none 0 0, .slice none 0 0, .int .i64 0, .slice none 0 0, .slice (some ⟨w7.heap.size, 0, none⟩) 2 2] (sl_leaf HTM.out HMI.out HSI.out) (sm_leaf (by have := HTM.out; have := HTS.out; omega) (by simp) (by simp)) HT.out).mono ?_
  rintro e w8 ⟨rfl, hz⟩
  have HZ8 := Lib.hid hz
  rw [fndB_is (idB_leaf HS.out.1 HS.out.2 (by unfold sndW sndS lrgB mksB sbsB zc; simp [List.range_succ, markB, gz] <;> omega)), fndE_is (idB_leaf HS.out.1 HS.out.2 (by unfold sndW sndS lrgB mksB sbsB zc; simp [List.range_succ, markB, gz] <;> omega)), (show fndL (atE (tkS S k) S) [2, 1] [] = 2 from by rw [fnd_b (by decide), at3 HRK.out Rg.nil]; simp)]
  clear hz HZI HMI HSI HBI
  have hx0 := iz_new w8 [1, 2] (by simp)
  have hy0 := below1 w8 (.cells #[.int .i64 1, .int .i64 2] 3)
  go_wp2_with fail
  refine (idl_any S _ _ _ _ _ _ _).mono ?_
  rintro e wi ⟨rfl, hbi⟩
  have HBI : Hid (Below w8.heap.size w8 wi) := Lib.hid (hy0.trans (hbi.mono (by simp)))
  have HMI := Lib.hid (Iz.nil wi)
  have HSI : Hid (Iz wi (.slice (some ⟨w8.heap.size, 0, none⟩) 2 2) [1, 2]) := Lib.hid (hx0.below hbi)
  have HZI := Lib.hid (HZ8.out.below HBI.out)
  clear hbi hx0 hy0
  go_wp2_with fail
  refine (find_z HZI.out (.mk 4 S false [] [] 0 [] [1, 2]) [.int .i64 4, .string S, .bool false, .slice none 0 0, .slice none 0 0, .int .i64 0, .slice none 0 0, .slice (some ⟨w8.heap.size, 0, none⟩) 2 2] (sl_leaf HTM.out HMI.out HSI.out) (sm_leaf (by have := HTM.out; have := HTS.out; omega) (by simp) (by simp)) HT.out).mono ?_
  rintro e w9 ⟨rfl, hz⟩
  have HZ9 := Lib.hid hz
  rw [fndB_is (idB_leaf HS.out.1 HS.out.2 (by unfold sndW sndS lrgB mksB sbsB zc; simp [List.range_succ, markB, gz] <;> omega)), fndE_is (idB_leaf HS.out.1 HS.out.2 (by unfold sndW sndS lrgB mksB sbsB zc; simp [List.range_succ, markB, gz] <;> omega)), (show fndL (atE (tkS S k) S) [1, 2] [] = 1 from by rw [fnd_b (by decide), at3 HRK.out Rg.nil]; simp)]
  clear hz HZI HMI HSI HBI
  have hx0 := iz_new w9 [k] (by simp)
  have hy0 := below1 w9 (.cells #[.int .i64 k] 3)
  have hx1 := iz_new (w9.alloc (.cells #[.int .i64 k] 3)) [2, 0, 1] (by simp)
  have hy1 := below1 (w9.alloc (.cells #[.int .i64 k] 3)) (.cells #[.int .i64 2, .int .i64 0, .int .i64 1] 3)
  go_wp2_with fail
  refine (idl_any S _ _ _ _ _ _ _).mono ?_
  rintro e wi ⟨rfl, hbi⟩
  have HBI : Hid (Below w9.heap.size w9 wi) := Lib.hid ((hy0.trans (hy1.mono (by simp))).trans (hbi.mono (by simp; omega)))
  have HMI : Hid (Iz wi (.slice (some ⟨w9.heap.size, 0, none⟩) 1 1) [k]) := Lib.hid ((hx0.below hy1).below hbi)
  have HSI : Hid (Iz wi (.slice (some ⟨w9.heap.size + 1, 0, none⟩) 3 3) [2, 0, 1]) := Lib.hid (by have h := hx1.below hbi; rw [Go.World.size_alloc] at h; exact h)
  have HZI := Lib.hid (HZ9.out.below HBI.out)
  clear hbi hx0 hy0 hx1 hy1
  go_wp2_with fail
  refine (find_z HZI.out (.mk 4 S false [] [] 0 [k] [2, 0, 1]) [.int .i64 4, .string S, .bool false, .slice none 0 0, .slice none 0 0, .int .i64 0, .slice (some ⟨w9.heap.size, 0, none⟩) 1 1, .slice (some ⟨w9.heap.size + 1, 0, none⟩) 3 3] (sl_leaf HTM.out HMI.out HSI.out) (sm_leaf (by have := HTM.out; have := HTS.out; omega) (by simp) (by simp)) HT.out).mono ?_
  rintro e w10 ⟨rfl, hz⟩
  have HZ10 := Lib.hid hz
  rw [fndB_is (idB_leaf HS.out.1 HS.out.2 (by unfold sndW sndS lrgB mksB sbsB zc; simp [List.range_succ, markB, gz] <;> omega)), fndE_is (idB_leaf HS.out.1 HS.out.2 (by unfold sndW sndS lrgB mksB sbsB zc; simp [List.range_succ, markB, gz] <;> omega)), (show fndL (atE (tkS S k) S) [2, 0, 1] [k] = 3 from by rw [fnd_b (by decide), at3 HRK.out HRK.out]; simp)]
  clear hz HZI HMI HSI HBI
  have hx0 := iz_new w10 [k] (by simp)
  have hy0 := below1 w10 (.cells #[.int .i64 k] 3)
  have hx1 := iz_new (w10.alloc (.cells #[.int .i64 k] 3)) [0, 1] (by simp)
  have hy1 := below1 (w10.alloc (.cells #[.int .i64 k] 3)) (.cells #[.int .i64 0, .int .i64 1] 3)
  go_wp2_with fail
  refine (idl_any S _ _ _ _ _ _ _).mono ?_
  rintro e wi ⟨rfl, hbi⟩
  have HBI : Hid (Below w10.heap.size w10 wi) := Lib.hid ((hy0.trans (hy1.mono (by simp))).trans (hbi.mono (by simp; omega)))
  have HMI : Hid (Iz wi (.slice (some ⟨w10.heap.size, 0, none⟩) 1 1) [k]) := Lib.hid ((hx0.below hy1).below hbi)
  have HSI : Hid (Iz wi (.slice (some ⟨w10.heap.size + 1, 0, none⟩) 2 2) [0, 1]) := Lib.hid (by have h := hx1.below hbi; rw [Go.World.size_alloc] at h; exact h)
  have HZI := Lib.hid (HZ10.out.below HBI.out)
  clear hbi hx0 hy0 hx1 hy1
  go_wp2_with fail
  refine (find_z HZI.out (.mk 4 S false [] [] 0 [k] [0, 1]) [.int .i64 4, .string S, .bool false, .slice none 0 0, .slice none 0 0, .int .i64 0, .slice (some ⟨w10.heap.size, 0, none⟩) 1 1, .slice (some ⟨w10.heap.size + 1, 0, none⟩) 2 2] (sl_leaf HTM.out HMI.out HSI.out) (sm_leaf (by have := HTM.out; have := HTS.out; omega) (by simp) (by simp)) HT.out).mono ?_
  rintro e w11 ⟨rfl, hz⟩
  have HZ11 := Lib.hid hz
  rw [fndB_is (idB_leaf HS.out.1 HS.out.2 (by unfold sndW sndS lrgB mksB sbsB zc; simp [List.range_succ, markB, gz] <;> omega)), fndE_is (idB_leaf HS.out.1 HS.out.2 (by unfold sndW sndS lrgB mksB sbsB zc; simp [List.range_succ, markB, gz] <;> omega)), (show fndL (atE (tkS S k) S) [0, 1] [k] = 1 from by rw [fnd_0]; show fndL (atE (tkS S k) S) [1] [] = 1; rw [fnd_b (by decide), at3 HRK.out Rg.nil]; simp)]
  clear hz HZI HMI HSI HBI
  have hx0 := iz_new w11 [k + 1] (by simp)
  have hy0 := below1 w11 (.cells #[.int .i64 (k + 1)] 3)
  have hx1 := iz_new (w11.alloc (.cells #[.int .i64 (k + 1)] 3)) [2, 0] (by simp)
  have hy1 := below1 (w11.alloc (.cells #[.int .i64 (k + 1)] 3)) (.cells #[.int .i64 2, .int .i64 0] 3)
  go_wp2_with fail
  refine (idl_any S _ _ _ _ _ _ _).mono ?_
  rintro e wi ⟨rfl, hbi⟩
  have HBI : Hid (Below w11.heap.size w11 wi) := Lib.hid ((hy0.trans (hy1.mono (by simp))).trans (hbi.mono (by simp; omega)))
  have HMI : Hid (Iz wi (.slice (some ⟨w11.heap.size, 0, none⟩) 1 1) [k + 1]) := Lib.hid ((hx0.below hy1).below hbi)
  have HSI : Hid (Iz wi (.slice (some ⟨w11.heap.size + 1, 0, none⟩) 2 2) [2, 0]) := Lib.hid (by have h := hx1.below hbi; rw [Go.World.size_alloc] at h; exact h)
  have HZI := Lib.hid (HZ11.out.below HBI.out)
  clear hbi hx0 hy0 hx1 hy1
  go_wp2_with fail
  refine (find_z HZI.out (.mk 4 S false [] [] 0 [k + 1] [2, 0]) [.int .i64 4, .string S, .bool false, .slice none 0 0, .slice none 0 0, .int .i64 0, .slice (some ⟨w11.heap.size, 0, none⟩) 1 1, .slice (some ⟨w11.heap.size + 1, 0, none⟩) 2 2] (sl_leaf HTM.out HMI.out HSI.out) (sm_leaf (by have := HTM.out; have := HTS.out; omega) (by simp) (by simp)) HT.out).mono ?_
  rintro e w12 ⟨rfl, hz⟩
  have HZ12 := Lib.hid hz
  rw [fndB_is (idB_leaf HS.out.1 HS.out.2 (by unfold sndW sndS lrgB mksB sbsB zc; simp [List.range_succ, markB, gz] <;> omega)), fndE_is (idB_leaf HS.out.1 HS.out.2 (by unfold sndW sndS lrgB mksB sbsB zc; simp [List.range_succ, markB, gz] <;> omega)), (show fndL (atE (tkS S k) S) [2, 0] [k + 1] = 0 from by have e1 : atE (tkS S k) S 2 [k + 1] = 0 := (by rw [at3 HRK.out HRK1.out]; simp <;> omega); rw [fnd_b (by decide), e1, if_neg (by simp), fnd_0]; rfl)]
  clear hz HZI HMI HSI HBI
  have hx0 := iz_new w12 [k + 1] (by simp)
  have hy0 := below1 w12 (.cells #[.int .i64 (k + 1)] 3)
  have hx1 := iz_new (w12.alloc (.cells #[.int .i64 (k + 1)] 3)) [2, 0, 2] (by simp)
  have hy1 := below1 (w12.alloc (.cells #[.int .i64 (k + 1)] 3)) (.cells #[.int .i64 2, .int .i64 0, .int .i64 2] 3)
  go_wp2_with fail
  refine (idl_any S _ _ _ _ _ _ _).mono ?_
  rintro e wi ⟨rfl, hbi⟩
  have HBI : Hid (Below w12.heap.size w12 wi) := Lib.hid ((hy0.trans (hy1.mono (by simp))).trans (hbi.mono (by simp; omega)))
  have HMI : Hid (Iz wi (.slice (some ⟨w12.heap.size, 0, none⟩) 1 1) [k + 1]) := Lib.hid ((hx0.below hy1).below hbi)
  have HSI : Hid (Iz wi (.slice (some ⟨w12.heap.size + 1, 0, none⟩) 3 3) [2, 0, 2]) := Lib.hid (by have h := hx1.below hbi; rw [Go.World.size_alloc] at h; exact h)
  have HZI := Lib.hid (HZ12.out.below HBI.out)
  clear hbi hx0 hy0 hx1 hy1
  go_wp2_with fail
  refine (find_z HZI.out (.mk 4 S false [] [] 0 [k + 1] [2, 0, 2]) [.int .i64 4, .string S, .bool false, .slice none 0 0, .slice none 0 0, .int .i64 0, .slice (some ⟨w12.heap.size, 0, none⟩) 1 1, .slice (some ⟨w12.heap.size + 1, 0, none⟩) 3 3] (sl_leaf HTM.out HMI.out HSI.out) (sm_leaf (by have := HTM.out; have := HTS.out; omega) (by simp) (by simp)) HT.out).mono ?_
  rintro e w13 ⟨rfl, hz⟩
  have HZ13 := Lib.hid hz
  rw [fndB_is (idB_leaf HS.out.1 HS.out.2 (by unfold sndW sndS lrgB mksB sbsB zc; simp [List.range_succ, markB, gz] <;> omega)), fndE_is (idB_leaf HS.out.1 HS.out.2 (by unfold sndW sndS lrgB mksB sbsB zc; simp [List.range_succ, markB, gz] <;> omega)), (show fndL (atE (tkS S k) S) [2, 0, 2] [k + 1] = 2 from by have e1 : atE (tkS S k) S 2 [k + 1] = 0 := (by rw [at3 HRK.out HRK1.out]; simp <;> omega); have e2 : atE (tkS S k) S 2 [] = 2 := (by rw [at3 HRK.out Rg.nil]; simp); rw [fnd_b (by decide), e1, if_neg (by simp), fnd_0]; show fndL (atE (tkS S k) S) [2] [] = 2; rw [fnd_b (by decide), e2]; rfl)]
  clear hz HZI HMI HSI HBI
  go_wp2_with fail
  go_ret
  exact ⟨rfl, HZ13.out.bel⟩
end Go.Proofs.YtegengnffdlplaaDoor
