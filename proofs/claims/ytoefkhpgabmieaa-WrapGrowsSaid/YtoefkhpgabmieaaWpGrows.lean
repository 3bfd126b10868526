/- WrapGrows -/
import Derived.Test.YtoefkhpgabmieaaWpMarks
namespace Go.Proofs.Ytoefkhpgabmieaa
open Go.RowKit

/-- What is joined once more, and what i of them are. -/
def oneA (b : Bool) : List Int × List Int := if b then ([2], [0]) else ([], [1])
def stkA (b : Bool) (i : Nat) : List Int × List Int := if b then (List.replicate i 2, List.replicate i 0) else ([], List.replicate i 1)
theorem gz_rep {x : Int} {i j : Nat} (h : j < i) : gz (List.replicate i x) j = x := by
  rw [gz_lt (by simpa using h)]
  simp
theorem stk_len (b : Bool) (i : Nat) : (stkA b i).2.length = i := by unfold stkA; cases b <;> simp
theorem stk_mlen (b : Bool) (i : Nat) : (stkA b i).1.length ≤ i := by unfold stkA; cases b <;> simp
theorem stk_sndS (b : Bool) (i : Nat) : sndS (stkA b i).1 (stkA b i).2 = true := by
  unfold sndS stkA
  cases b
  · have h1 : mksB [] = true := by decide
    have h2 : sbsB (List.replicate i 1) = true := sbsB_true fun j hj => by rw [gz_rep (by simpa using hj)]; omega
    have h3 : zc (List.replicate i 1) = 0 := by unfold zc; rw [List.countP_replicate]; simp
    simp [h1, h2, h3]
  · have h1 : mksB (List.replicate i 2) = true := mksB_true fun j hj => by rw [gz_rep (by simpa using hj)]; rfl
    have h2 : sbsB (List.replicate i 0) = true := sbsB_true fun j hj => by rw [gz_rep (by simpa using hj)]; omega
    have h3 : zc (List.replicate i 0) = i := by unfold zc; rw [List.countP_replicate]; simp
    simp [h1, h2, h3]
theorem stk_lrg {b : Bool} {i : Nat} (h : i ≤ 256) : lrgB (stkA b i).1 (stkA b i).2 = false := by
  have h1 := stk_len b i
  have h2 := stk_mlen b i
  unfold lrgB
  rw [decide_eq_false (by omega), decide_eq_false (by omega)]
  rfl
theorem stk_step {b : Bool} {i : Nat} (h : i ≤ 256) : joinA (oneA b).1 (oneA b).2 (stkA b i).1 (stkA b i).2 = closeA (stkA b (i + 1)) := by
  have h1 : sndB (oneA b).1 (oneA b).2 = true := by cases b <;> decide
  have h2 : sndB (stkA b i).1 (stkA b i).2 = true := by unfold sndB; rw [stk_lrg h, stk_sndS]; rfl
  have h3 : (endB (oneA b).1 (oneA b).2 && begB (stkA b i).1 (stkA b i).2) = false := by
    cases b
    · have : endB (oneA false).1 (oneA false).2 = false := by decide
      rw [this]; rfl
    · have : begB (stkA true i).1 (stkA true i).2 = false := by
        unfold begB stkA
        cases i with
        | zero => rfl
        | succ i =>
          have : gz (List.replicate (i + 1) 2) 0 = 2 := gz_rep (by omega)
          simp [this]
      rw [this, Bool.and_false]
  rw [joinA_ok h1 h2, h3]
  congr 1
  unfold marryA cutL cutF oneA stkA
  cases b <;> simp [List.replicate_succ]
theorem stk_more {b : Bool} {i : Nat} (h : i < 256) : joinA (oneA b).1 (oneA b).2 (stkA b i).1 (stkA b i).2 = ((stkA b (i + 1)).1, (stkA b (i + 1)).2, 0) := by
  rw [stk_step (by omega), closeA_ok (stk_lrg (by omega)) (stk_sndS _ _)]
theorem stk_full {b : Bool} {i : Nat} (h : i = 256) : joinA (oneA b).1 (oneA b).2 (stkA b i).1 (stkA b i).2 = ([], [], 6) := by
  subst h
  rw [stk_step (by omega), closeA_large]
  unfold lrgB
  rw [stk_len, decide_eq_true (show 256 < 256 + 1 by omega), Bool.or_true]

set_option maxRecDepth 100000 in
set_option maxHeartbeats 4000000 in
theorem wrapgrows_any (n : Int) (b : Bool) (w : World) (hn0 : 0 ≤ n) (hn : n ≤ 255) :
    Calls Try.prog 8 #[.int .u8 n, .bool b] w fun e w' => e = .returned (.bool true) ∧ Below w.heap.size w w' := by
  have HBa := Lib.hid (below1 w (.cells #[.slice none 0 0, .slice none 0 0] 24))
  have HRa := Lib.hid (heap_alloc_new w (.cells #[.slice none 0 0, .slice none 0 0] 24))
  go_enter Try.func8, Try.ntmps8
  go_upto_region 2 with fail
  generalize w.alloc (.cells #[.slice none 0 0, .slice none 0 0] 24) = w0 at *
  go_wp2_with fail
  refine (rib_any 1 w0).mono ?_
  rintro e w1 ⟨⟨x1, rfl, hx1⟩, hb1⟩
  rw [ribA_yes (by omega)] at hx1
  have HX1 := Lib.hid hx1
  obtain ⟨_, _, rfl, hp1, hp2⟩ := hx1.cells
  obtain ⟨_, o1, q1, rfl, _, _⟩ := hp1.cases
  obtain ⟨_, o2, q2, rfl, _, _⟩ := hp2.cases
  simp only [List.length_nil, List.length_cons, Nat.zero_add] at *
  have HR1 := Lib.hid ((hb1.block _ (Array.getElem?_eq_some_iff.1 HRa.out).1).trans HRa.out)
  have HB1 := Lib.hid (HBa.out.trans (hb1.mono HBa.out.size))
  clear hp1 hp2 hb1 hx1 HRa HBa
  have HR2 := Lib.hid ((Below.heap_alloc w1 (.cells #[.slice o1 0 q1, .slice o2 1 q2] 24) _ (Array.getElem?_eq_some_iff.1 HR1.out).1).trans HR1.out)
  have HO2 := Lib.hid (heap_alloc_new w1 (.cells #[.slice o1 0 q1, .slice o2 1 q2] 24))
  have HB2 := Lib.hid (HB1.out.alloc HB1.out.size (.cells #[.slice o1 0 q1, .slice o2 1 q2] 24))
  have HX2 := Lib.hid (HX1.out.below (below1 w1 (.cells #[.slice o1 0 q1, .slice o2 1 q2] 24)))
  have HNE : Hid (w.heap.size < w1.heap.size) := Lib.hid (Array.getElem?_eq_some_iff.1 HR1.out).1
  clear HB1 HX1
  go_upto_region 3 with fail
  generalize w1.alloc (.cells #[.slice o1 0 q1, .slice o2 1 q2] 24) = w2 at *
  clear HR1
  cases b with
  | false =>
    have HZ5 := HR2
    have HZ6 := HO2
    have HZX := HX2
    have HZB := HB2
    clear HR2 HO2 HX2 HB2
    obtain ⟨p1, hp1⟩ : ∃ p, p = o1 := ⟨_, rfl⟩
    obtain ⟨r1, hr1⟩ : ∃ p, p = q1 := ⟨_, rfl⟩
    obtain ⟨p2, hp2⟩ : ∃ p, p = o2 := ⟨_, rfl⟩
    obtain ⟨r2, hr2⟩ : ∃ p, p = q2 := ⟨_, rfl⟩
    subst hp1 hr1 hp2 hr2
    have hK : ∃ K : Nat, 250 + n % 12 = (K : Int) ∧ 250 ≤ K ∧ K ≤ 261 := ⟨(250 + n % 12).toNat, by omega, by omega, by omega⟩
    obtain ⟨K, hK, hK1, hK2⟩ := hK
    go_upto_region 7 with fail
    try rw [hK]
    have HKK := Lib.hid hK
    clear hK hn0 hn
    obtain ⟨G5, hG5⟩ : ∃ G, G = w.heap.size := ⟨_, rfl⟩
    obtain ⟨G6, hG6⟩ : ∃ G, G = w1.heap.size := ⟨_, rfl⟩
    have HG5 := Lib.hid hG5
    have HNE2 : Hid (G5 < G6) := Lib.hid (by rw [hG5, hG6]; exact HNE.out)
    rw [← hG5] at HZ5 HZB ⊢
    rw [← hG6] at HZ6 ⊢
    clear hG5 hG6 HNE
    have HST : Hid (stkA false 0 = ([], [])) := Lib.hid (by rfl)
    go_loopw [8] (fun v wr => ∃ i : Nat, i ≤ K ∧ i ≤ 256 ∧ v = .int .i64 (i : Nat) ∧ Below G5 w wr ∧ wr.heap[G6]? = some (.cells #[.slice p1 0 r1, .slice p2 1 r2] 24 (0, 0)) ∧ Wr wr (.agg #[.slice p1 0 r1, .slice p2 1 r2]) (oneA false).1 (oneA false).2 ∧ ∃ oa la qa ob qb, wr.heap[G5]? = some (.cells #[.slice oa la qa, .slice ob i qb] 24 (0, 0)) ∧ Wr wr (.agg #[.slice oa la qa, .slice ob i qb]) (stkA false i).1 (stkA false i).2) (fun v _ => K - (intOf v).toNat)
    case atStart => exact ⟨0, Nat.zero_le _, Nat.zero_le _, rfl, HZB.out, HZ6.out, HZX.out, none, 0, 0, none, 0, HZ5.out, by rw [HST.out]; exact ⟨_, _, rfl, Iz.nil _, Iz.nil _⟩⟩
    case round =>
      obtain ⟨i, hiK, hi6, rfl, hbr, h6, hx6, oa, la, qa, ob, qb, h5, hx5⟩ := hrel
      have HBR := Lib.hid hbr
      have H6 := Lib.hid h6
      have HX6 := Lib.hid hx6
      have H5 := Lib.hid h5
      have HX5 := Lib.hid hx5
      clear hbr h6 hx6 h5 hx5
      obtain ⟨c0, c1, _, _⟩ := rowp2 H6.out
      obtain ⟨d0, d1, y0, y1⟩ := rowp2 H5.out
      by_cases hlt : i < K
      · go_wp2_with fail
        refine (wjoin_any _ _ _ _ _ _ wr HX6.out HX5.out).mono ?_
        by_cases h256 : i < 256
        · rintro e wa ⟨⟨z, rfl, hz⟩, hba⟩
          rw [stk_more h256] at hz
          rw [stk_more h256]
          have HZa := Lib.hid hz
          obtain ⟨_, _, rfl, hz1, hz2⟩ := hz.cells
          obtain ⟨_, oc, qc, rfl, _, _⟩ := hz1.cases
          obtain ⟨_, od, qd, hze, _, _⟩ := hz2.cases
          rw [show (((stkA false (i + 1)).1, (stkA false (i + 1)).2, (0 : Int)) : List Int × List Int × Int).2.1.length = i + 1 from stk_len _ _] at hze
          subst hze
          generalize hlc : (((stkA false (i + 1)).1, (stkA false (i + 1)).2, (0 : Int)) : List Int × List Int × Int).1.length = lc at HZa ⊢
          have HZa2 : Hid (Wr wa (.agg #[.slice oc lc qc, .slice od (i + 1) qd]) (stkA false (i + 1)).1 (stkA false (i + 1)).2) := Lib.hid HZa.out
          have HBA := Lib.hid hba
          have A6 := Lib.hid ((hba.block _ (Array.getElem?_eq_some_iff.1 H6.out).1).trans H6.out)
          have A5 := Lib.hid ((hba.block _ (Array.getElem?_eq_some_iff.1 H5.out).1).trans H5.out)
          have AX6 := Lib.hid (HX6.out.below hba)
          clear hz1 hz2 hz hba c0 c1 d0 d1 y0 y1 HZa hlc
          have HBW := Lib.hid (HBR.out.trans (HBA.out.mono (Nat.le_of_lt (Array.getElem?_eq_some_iff.1 H5.out).1)))
          have hal := fun o => below1 wa o
          have HAL := Lib.hid hal
          clear hal
          have C6 := Lib.hid (((HAL.out (.cells #[.slice oc lc qc, .slice od (i + 1) qd] 24)).block _ (Array.getElem?_eq_some_iff.1 A6.out).1).trans A6.out)
          have C5 := Lib.hid (((HAL.out (.cells #[.slice oc lc qc, .slice od (i + 1) qd] 24)).block _ (Array.getElem?_eq_some_iff.1 A5.out).1).trans A5.out)
          have CX6 := Lib.hid (AX6.out.below (HAL.out (.cells #[.slice oc lc qc, .slice od (i + 1) qd] 24)))
          have CX9 := Lib.hid (HZa2.out.below (HAL.out (.cells #[.slice oc lc qc, .slice od (i + 1) qd] 24)))
          have C9 := Lib.hid (heap_alloc_new wa (.cells #[.slice oc lc qc, .slice od (i + 1) qd] 24))
          have CB := Lib.hid (HBW.out.trans ((HAL.out (.cells #[.slice oc lc qc, .slice od (i + 1) qd] 24)).mono (Nat.le_of_lt (Array.getElem?_eq_some_iff.1 A5.out).1)))
          go_upto_region 10 with fail
          clear A6 A5 AX6 HZa2 HBW HAL HBA H5 H6 HX5 HX6 HBR
          generalize wa.alloc (.cells #[.slice oc lc qc, .slice od (i + 1) qd] 24) = wb at *
          obtain ⟨d0, d1, y0, y1⟩ := rowp2 C5.out
          obtain ⟨f0, f1, _, _⟩ := rowp2 C9.out
          have hi2 : ((i : Nat) : Int) < 256 := by omega
          go_wp2_with fail
          have hf6 := (far2 (show G6 ≠ G5 by have := HNE2.out; omega) (.slice oc lc qc) (.slice od (i + 1) qd)).trans C6.out
          have hx6 := CX6.out.fill C5.out (.slice oc lc qc) (.slice od (i + 1) qd)
          have hx9 := CX9.out.fill C5.out (.slice oc lc qc) (.slice od (i + 1) qd)
          have hf5 := putp2 C5.out (.slice oc lc qc) (.slice od (i + 1) qd)
          have hbf := below_fill2 CB.out (Nat.le_refl G5) (.slice oc lc qc) (.slice od (i + 1) qd)
          go_roundw
          case rel => exact ⟨i + 1, by omega, by omega, by go_num, hbf, hf6, hx6, _, _, _, _, _, hf5, hx9⟩
          case measure => simp only [intOf]; omega
        · have hi : i = 256 := by omega
          rintro e wa ⟨⟨z, rfl, hz⟩, hba⟩
          rw [stk_full hi] at hz
          rw [stk_full hi]
          have hii : ((i : Nat) : Int) = 256 := by omega
          obtain ⟨_, _, rfl, hz1, hz2⟩ := hz.cells
          obtain ⟨_, oc, qc, rfl, _, _⟩ := hz1.cases
          obtain ⟨_, od, qd, rfl, _, _⟩ := hz2.cases
          have HBW := Lib.hid (HBR.out.trans (hba.mono (Nat.le_of_lt (Array.getElem?_eq_some_iff.1 H5.out).1)))
          have A5 := Lib.hid ((hba.block _ (Array.getElem?_eq_some_iff.1 H5.out).1).trans H5.out)
          clear hz1 hz2 hz hba c0 c1 d0 d1 y0 y1
          simp only [List.length_nil]
          have C5 := Lib.hid (((below1 wa (.cells #[.slice oc 0 qc, .slice od 0 qd] 24)).block _ (Array.getElem?_eq_some_iff.1 A5.out).1).trans A5.out)
          have C9 := Lib.hid (heap_alloc_new wa (.cells #[.slice oc 0 qc, .slice od 0 qd] 24))
          have CB := Lib.hid (HBW.out.trans ((below1 wa (.cells #[.slice oc 0 qc, .slice od 0 qd] 24)).mono (Nat.le_of_lt (Array.getElem?_eq_some_iff.1 A5.out).1)))
          go_upto_region 10 with fail
          clear A5 HBW H5 H6 HX5 HX6 HBR
          generalize wa.alloc (.cells #[.slice oc 0 qc, .slice od 0 qd] 24) = wb at *
          go_wp2_with fail
          refine (answers9_any wb).mono ?_
          rintro e wc ⟨rfl, hbc⟩
          have D5 := Lib.hid ((hbc.block _ (Array.getElem?_eq_some_iff.1 C5.out).1).trans C5.out)
          have D9 := Lib.hid ((hbc.block _ (Array.getElem?_eq_some_iff.1 C9.out).1).trans C9.out)
          have DB := Lib.hid (CB.out.trans (hbc.mono (Nat.le_of_lt (Array.getElem?_eq_some_iff.1 C5.out).1)))
          clear hbc
          obtain ⟨d0, d1, _, _⟩ := rowp2 D5.out
          obtain ⟨f0, f1, _, _⟩ := rowp2 D9.out
          go_wp2_with fail
          go_ret
          have hb9 := DB.out
          rw [HG5.out] at hb9
          exact ⟨rfl, hb9⟩
      · have hik : i = K := by omega
        go_wp2_with fail
        refine (answers9_any wr).mono ?_
        rintro e wc ⟨rfl, hbc⟩
        have D5 := Lib.hid ((hbc.block _ (Array.getElem?_eq_some_iff.1 H5.out).1).trans H5.out)
        have DB := Lib.hid (HBR.out.trans (hbc.mono (Nat.le_of_lt (Array.getElem?_eq_some_iff.1 H5.out).1)))
        clear hbc c0 c1 d0 d1 y0 y1
        obtain ⟨d0, d1, _, _⟩ := rowp2 D5.out
        go_wp2_with fail
        go_ret
        have hb9 := DB.out
        rw [HG5.out] at hb9
        exact ⟨ret_bl (by simp; try omega), hb9⟩
  | true =>
    obtain ⟨k0, k1, kz0, kz1⟩ := rowp2 HO2.out
    go_wp2_with fail
    refine (mark_any 2 w2).mono ?_
    rintro e w3 ⟨⟨x3, rfl, hx3⟩, hb3⟩
    rw [mrkA_yes (by decide)] at hx3
    obtain ⟨_, _, rfl, hy1, hy2⟩ := hx3.cells
    obtain ⟨_, p1, r1, rfl, _, _⟩ := hy1.cases
    obtain ⟨_, p2, r2, rfl, _, _⟩ := hy2.cases
    have HY3 : Hid (Wr w3 (.agg #[.slice p1 1 r1, .slice p2 1 r2]) [2] [0]) := Lib.hid hx3
    have M6 := Lib.hid ((hb3.block _ (Array.getElem?_eq_some_iff.1 HO2.out).1).trans HO2.out)
    have M5 := Lib.hid ((hb3.block _ (Array.getElem?_eq_some_iff.1 HR2.out).1).trans HR2.out)
    have MB := Lib.hid (HB2.out.trans (hb3.mono HB2.out.size))
    clear hy1 hy2 hx3 hb3 k0 k1 kz0 kz1 HR2 HO2 HX2 HB2
    obtain ⟨k0, k1, kz0, kz1⟩ := rowp2 M6.out
    simp only [List.length_cons, List.length_nil, Nat.zero_add]
    go_upto_region 5 with fail
    have HZ6 := Lib.hid (putp2 M6.out (.slice p1 1 r1) (.slice p2 1 r2))
    have HZ5 := Lib.hid ((far2 (show w.heap.size ≠ w1.heap.size by have := HNE.out; omega) (.slice p1 1 r1) (.slice p2 1 r2)).trans M5.out)
    have HZX := Lib.hid (HY3.out.fill M6.out (.slice p1 1 r1) (.slice p2 1 r2))
    have HZB := Lib.hid (below_fill2 MB.out (Nat.le_of_lt HNE.out) (.slice p1 1 r1) (.slice p2 1 r2))
    clear k0 k1 kz0 kz1 M6 M5 MB HY3
    generalize (w3.setCell ⟨w1.heap.size, 0, none⟩ (.slice p1 1 r1)).setCell ⟨w1.heap.size, 1, none⟩ (.slice p2 1 r2) = w4 at *
    have hK : ∃ K : Nat, 250 + n % 12 = (K : Int) ∧ 250 ≤ K ∧ K ≤ 261 := ⟨(250 + n % 12).toNat, by omega, by omega, by omega⟩
    obtain ⟨K, hK, hK1, hK2⟩ := hK
    go_upto_region 7 with fail
    try rw [hK]
    have HKK := Lib.hid hK
    clear hK hn0 hn
    obtain ⟨G5, hG5⟩ : ∃ G, G = w.heap.size := ⟨_, rfl⟩
    obtain ⟨G6, hG6⟩ : ∃ G, G = w1.heap.size := ⟨_, rfl⟩
    have HG5 := Lib.hid hG5
    have HNE2 : Hid (G5 < G6) := Lib.hid (by rw [hG5, hG6]; exact HNE.out)
    rw [← hG5] at HZ5 HZB ⊢
    rw [← hG6] at HZ6 ⊢
    clear hG5 hG6 HNE
    have HST : Hid (stkA true 0 = ([], [])) := Lib.hid (by rfl)
    go_loopw [8] (fun v wr => ∃ i : Nat, i ≤ K ∧ i ≤ 256 ∧ v = .int .i64 (i : Nat) ∧ Below G5 w wr ∧ wr.heap[G6]? = some (.cells #[.slice p1 1 r1, .slice p2 1 r2] 24 (0, 0)) ∧ Wr wr (.agg #[.slice p1 1 r1, .slice p2 1 r2]) (oneA true).1 (oneA true).2 ∧ ∃ oa la qa ob qb, wr.heap[G5]? = some (.cells #[.slice oa la qa, .slice ob i qb] 24 (0, 0)) ∧ Wr wr (.agg #[.slice oa la qa, .slice ob i qb]) (stkA true i).1 (stkA true i).2) (fun v _ => K - (intOf v).toNat)
    case atStart => exact ⟨0, Nat.zero_le _, Nat.zero_le _, rfl, HZB.out, HZ6.out, HZX.out, none, 0, 0, none, 0, HZ5.out, by rw [HST.out]; exact ⟨_, _, rfl, Iz.nil _, Iz.nil _⟩⟩
    case round =>
      obtain ⟨i, hiK, hi6, rfl, hbr, h6, hx6, oa, la, qa, ob, qb, h5, hx5⟩ := hrel
      have HBR := Lib.hid hbr
      have H6 := Lib.hid h6
      have HX6 := Lib.hid hx6
      have H5 := Lib.hid h5
      have HX5 := Lib.hid hx5
      clear hbr h6 hx6 h5 hx5
      obtain ⟨c0, c1, _, _⟩ := rowp2 H6.out
      obtain ⟨d0, d1, y0, y1⟩ := rowp2 H5.out
      by_cases hlt : i < K
      · go_wp2_with fail
        refine (wjoin_any _ _ _ _ _ _ wr HX6.out HX5.out).mono ?_
        by_cases h256 : i < 256
        · rintro e wa ⟨⟨z, rfl, hz⟩, hba⟩
          rw [stk_more h256] at hz
          rw [stk_more h256]
          have HZa := Lib.hid hz
          obtain ⟨_, _, rfl, hz1, hz2⟩ := hz.cells
          obtain ⟨_, oc, qc, rfl, _, _⟩ := hz1.cases
          obtain ⟨_, od, qd, hze, _, _⟩ := hz2.cases
          rw [show (((stkA true (i + 1)).1, (stkA true (i + 1)).2, (0 : Int)) : List Int × List Int × Int).2.1.length = i + 1 from stk_len _ _] at hze
          subst hze
          generalize hlc : (((stkA true (i + 1)).1, (stkA true (i + 1)).2, (0 : Int)) : List Int × List Int × Int).1.length = lc at HZa ⊢
          have HZa2 : Hid (Wr wa (.agg #[.slice oc lc qc, .slice od (i + 1) qd]) (stkA true (i + 1)).1 (stkA true (i + 1)).2) := Lib.hid HZa.out
          have HBA := Lib.hid hba
          have A6 := Lib.hid ((hba.block _ (Array.getElem?_eq_some_iff.1 H6.out).1).trans H6.out)
          have A5 := Lib.hid ((hba.block _ (Array.getElem?_eq_some_iff.1 H5.out).1).trans H5.out)
          have AX6 := Lib.hid (HX6.out.below hba)
          clear hz1 hz2 hz hba c0 c1 d0 d1 y0 y1 HZa hlc
          have HBW := Lib.hid (HBR.out.trans (HBA.out.mono (Nat.le_of_lt (Array.getElem?_eq_some_iff.1 H5.out).1)))
          have hal := fun o => below1 wa o
          have HAL := Lib.hid hal
          clear hal
          have C6 := Lib.hid (((HAL.out (.cells #[.slice oc lc qc, .slice od (i + 1) qd] 24)).block _ (Array.getElem?_eq_some_iff.1 A6.out).1).trans A6.out)
          have C5 := Lib.hid (((HAL.out (.cells #[.slice oc lc qc, .slice od (i + 1) qd] 24)).block _ (Array.getElem?_eq_some_iff.1 A5.out).1).trans A5.out)
          have CX6 := Lib.hid (AX6.out.below (HAL.out (.cells #[.slice oc lc qc, .slice od (i + 1) qd] 24)))
          have CX9 := Lib.hid (HZa2.out.below (HAL.out (.cells #[.slice oc lc qc, .slice od (i + 1) qd] 24)))
          have C9 := Lib.hid (heap_alloc_new wa (.cells #[.slice oc lc qc, .slice od (i + 1) qd] 24))
          have CB := Lib.hid (HBW.out.trans ((HAL.out (.cells #[.slice oc lc qc, .slice od (i + 1) qd] 24)).mono (Nat.le_of_lt (Array.getElem?_eq_some_iff.1 A5.out).1)))
          go_upto_region 10 with fail
          clear A6 A5 AX6 HZa2 HBW HAL HBA H5 H6 HX5 HX6 HBR
          generalize wa.alloc (.cells #[.slice oc lc qc, .slice od (i + 1) qd] 24) = wb at *
          obtain ⟨d0, d1, y0, y1⟩ := rowp2 C5.out
          obtain ⟨f0, f1, _, _⟩ := rowp2 C9.out
          have hi2 : ((i : Nat) : Int) < 256 := by omega
          go_wp2_with fail
          have hf6 := (far2 (show G6 ≠ G5 by have := HNE2.out; omega) (.slice oc lc qc) (.slice od (i + 1) qd)).trans C6.out
          have hx6 := CX6.out.fill C5.out (.slice oc lc qc) (.slice od (i + 1) qd)
          have hx9 := CX9.out.fill C5.out (.slice oc lc qc) (.slice od (i + 1) qd)
          have hf5 := putp2 C5.out (.slice oc lc qc) (.slice od (i + 1) qd)
          have hbf := below_fill2 CB.out (Nat.le_refl G5) (.slice oc lc qc) (.slice od (i + 1) qd)
          go_roundw
          case rel => exact ⟨i + 1, by omega, by omega, by go_num, hbf, hf6, hx6, _, _, _, _, _, hf5, hx9⟩
          case measure => simp only [intOf]; omega
        · have hi : i = 256 := by omega
          rintro e wa ⟨⟨z, rfl, hz⟩, hba⟩
          rw [stk_full hi] at hz
          rw [stk_full hi]
          have hii : ((i : Nat) : Int) = 256 := by omega
          obtain ⟨_, _, rfl, hz1, hz2⟩ := hz.cells
          obtain ⟨_, oc, qc, rfl, _, _⟩ := hz1.cases
          obtain ⟨_, od, qd, rfl, _, _⟩ := hz2.cases
          have HBW := Lib.hid (HBR.out.trans (hba.mono (Nat.le_of_lt (Array.getElem?_eq_some_iff.1 H5.out).1)))
          have A5 := Lib.hid ((hba.block _ (Array.getElem?_eq_some_iff.1 H5.out).1).trans H5.out)
          clear hz1 hz2 hz hba c0 c1 d0 d1 y0 y1
          simp only [List.length_nil]
          have C5 := Lib.hid (((below1 wa (.cells #[.slice oc 0 qc, .slice od 0 qd] 24)).block _ (Array.getElem?_eq_some_iff.1 A5.out).1).trans A5.out)
          have C9 := Lib.hid (heap_alloc_new wa (.cells #[.slice oc 0 qc, .slice od 0 qd] 24))
          have CB := Lib.hid (HBW.out.trans ((below1 wa (.cells #[.slice oc 0 qc, .slice od 0 qd] 24)).mono (Nat.le_of_lt (Array.getElem?_eq_some_iff.1 A5.out).1)))
          go_upto_region 10 with fail
          clear A5 HBW H5 H6 HX5 HX6 HBR
          generalize wa.alloc (.cells #[.slice oc 0 qc, .slice od 0 qd] 24) = wb at *
          go_wp2_with fail
          refine (answers9_any wb).mono ?_
          rintro e wc ⟨rfl, hbc⟩
          have D5 := Lib.hid ((hbc.block _ (Array.getElem?_eq_some_iff.1 C5.out).1).trans C5.out)
          have D9 := Lib.hid ((hbc.block _ (Array.getElem?_eq_some_iff.1 C9.out).1).trans C9.out)
          have DB := Lib.hid (CB.out.trans (hbc.mono (Nat.le_of_lt (Array.getElem?_eq_some_iff.1 C5.out).1)))
          clear hbc
          obtain ⟨d0, d1, _, _⟩ := rowp2 D5.out
          obtain ⟨f0, f1, _, _⟩ := rowp2 D9.out
          go_wp2_with fail
          go_ret
          have hb9 := DB.out
          rw [HG5.out] at hb9
          exact ⟨rfl, hb9⟩
      · have hik : i = K := by omega
        go_wp2_with fail
        refine (answers9_any wr).mono ?_
        rintro e wc ⟨rfl, hbc⟩
        have D5 := Lib.hid ((hbc.block _ (Array.getElem?_eq_some_iff.1 H5.out).1).trans H5.out)
        have DB := Lib.hid (HBR.out.trans (hbc.mono (Nat.le_of_lt (Array.getElem?_eq_some_iff.1 H5.out).1)))
        clear hbc c0 c1 d0 d1 y0 y1
        obtain ⟨d0, d1, _, _⟩ := rowp2 D5.out
        go_wp2_with fail
        go_ret
        have hb9 := DB.out
        rw [HG5.out] at hb9
        exact ⟨ret_bl (by simp; try omega), hb9⟩
end Go.Proofs.Ytoefkhpgabmieaa
