/- read.Read, walked. | The words that a scanner answers are sound. No walk here; then read.Read of any text. | answers of the law of read. -/
import Derived.Test.YtpahfhjgcflifaaGreatDoorRdEnd
import Derived.Test.YtpahfhjgcflifaaGreatDoorTkAns
import Derived.Lib.SlBytesConst
namespace Go.Proofs.YtpahfhjgcflifaaGreatDoor
open Go.RowKit

/-- What Read answers. -/
noncomputable def readA (bs : List Nat) (depth : Int) : List Dm × Int × Nat :=
  if depth < 1 ∨ 64 < depth then ([], 0, 1)
  else if (decA bs).2.2 ≠ 0 then ([], ((decA bs).2.1 : Nat), (decA bs).2.2)
  else if (scanW (decA bs).1).2.2 ≠ 0 then ([], ((scanW (decA bs).1).2.1 : Nat), (scanW (decA bs).1).2.2)
  else ((wordsA depth.toNat (decA bs).1.length (scanW (decA bs).1).1).1, ((wordsA depth.toNat (decA bs).1.length (scanW (decA bs).1).1).2.1 : Nat), (wordsA depth.toNat (decA bs).1.length (scanW (decA bs).1).1).2.2)
/-- A word that a scanner may answer. -/
structure WOk (x : Wd) : Prop where
  k0 : x.kind ≠ 0
  txt : WdOk x
  dby : By x.d.t
  dlt : x.d.t.length ≤ maxLen
  lim : ∀ i, limb x.d.r i < 4294967296
theorem rd_scan {cs : List Nat} (hsc : ∀ c ∈ cs, scN c) : scanA (cs.map fun (c : Nat) => (c : Int)) = ((scanW cs).1, ((scanW cs).2.1 : Int), (scanW cs).2.2) := by
  have hz : idxZ (fun c => !scB c) (cs.map fun (c : Nat) => (c : Int)) < 0 := by
    rw [idxZ_none]
    · omega
    · intro j hj
      rw [List.length_map] at hj
      have e : (cs.map fun (c : Nat) => (c : Int)).getD j 0 = (cs[j] : Nat) := by
        rw [List.getD_eq_getElem?_getD, List.getElem?_map, List.getElem?_eq_getElem hj]; rfl
      rw [e]
      have hs : scB ((cs[j] : Nat) : Int) = true := by rw [scB_nat]; exact decide_eq_true (hsc _ (List.getElem_mem hj))
      simp [hs]
  have hm : (cs.map fun (c : Nat) => (c : Int)).map Int.toNat = cs := by
    rw [List.map_map]
    have : (Int.toNat ∘ fun (c : Nat) => (c : Int)) = id := by funext c; simp
    rw [this, List.map_id]
  unfold scanA
  rw [if_pos hz, hm]
theorem rd_enc (l : List Nat) : l.length ≤ (encL l).length := by
  induction l with
  | nil => simp
  | cons c l ih =>
    have e : encL (c :: l) = encN c ++ encL l := by simp [encL]
    have := (blen_le c).1
    rw [e, List.length_append, encN_len, List.length_cons]
    omega
theorem decA_sc {bs : List Nat} (hby : By bs) (h : (decA bs).2.2 = 0) : (∀ c ∈ (decA bs).1, scN c) ∧ (decA bs).1.length ≤ 65536 := by
  by_cases hl : 65536 < bs.length
  · rw [decA_large hl] at h; cases h
  · have hl2 : bs.length ≤ 65536 := by omega
    cases hc : chars bs 0 with
    | mk cs o =>
      cases o with
      | some k => rw [decA_bad hl2 (k := k) (by rw [hc])] at h; cases h
      | none =>
        rw [decA_ok hl2 hc]
        have hs := (enc_chars hby bs.length 0 cs (by omega) (Nat.zero_le _) hc)
        refine ⟨hs.2, ?_⟩
        have he : encL cs = bs := by simpa using hs.1
        have := rd_enc cs
        rw [he] at this
        exact Nat.le_trans this hl2
/-- The reader, as it begins. -/
theorem RdS.start {w : World} {h depth : Nat} (hh : w.heap[h]? = some (.cells (pmL ⟨zP, .slice none 0 0, .slice none 0 0, []⟩).toArray 63 (0, 0))) (hb : RB w (h + 1) depth 0 0 (.slice (some ⟨h, 0, none⟩) 1 1)) : RdS w (h + 1) h depth 0 [⟨zP, .slice none 0 0, .slice none 0 0, []⟩] (.slice (some ⟨h, 0, none⟩) 1 1) := by
  refine ⟨⟨Nat.le_succ h, ⟨fun e => by simp [Value.ownBlock] at e, fun m hm => by simp at hm; subst hm; intro e; cases e⟩, ⟨rfl, .inr ⟨h, 1, _, rfl, Nat.le_refl _, hh, Nat.le_refl _, by unfold maxLen; omega, rfl, rfl⟩⟩, fun m hm => ?_, fun m hm => ?_, fun m hm => ?_, ?_, fun m hm => ?_⟩, hb, Nat.le_of_lt (Array.getElem?_eq_some_iff.1 hh).1, by simp, fun m hm => ?_, fun m hm => ?_, ?_⟩
  · simp at hm; subst hm; exact World.ownsRow_nil _ _ _ _
  · simp at hm; subst hm; exact DmRow.nil _ _
  · simp at hm; subst hm; intro b _ e; cases e
  · simp
  · simp at hm; subst hm; exact ⟨none, 0, 0, rfl⟩
  · simp at hm; subst hm; exact ⟨By.nil, by simp [zP, zW]⟩
  · simp at hm; subst hm; exact Nat.le_refl _
  · show wtA [zP] ≤ 8192
    simp [wtA, ownA, zP, zW, sumA]
theorem addA_err0 : ∀ e ∈ [3, 5, 6], e ≠ 0 := by decide
theorem takeA_err {depth count : Nat} {ps : List Pt} {w : Wd} {e : Nat} (h : takeA depth count ps w = .error e) : e ≠ 0 := by
  cases ps with
  | nil => cases h; decide
  | cons p rest =>
    rw [takeA_cases] at h
    unfold closA dotA beginA at h
    repeat' split at h
    all_goals first | (cases h; decide) | cases h
theorem addA_len : ∀ (ps : List Pt) (d : Dm), (addA ps d).length ≤ ps.length
  | [], d => by simp [addA]
  | p :: ps, d => by
    by_cases h6 : p.w.kind = 6
    · rw [addA_abb h6]
      exact Nat.le_trans (addA_len ps _) (Nat.le_succ _)
    · by_cases h5 : p.w.kind = 5
      · rw [addA_skip h5]; exact Nat.le_succ _
      · rw [addA_put h6 h5]; exact Nat.le_refl _
theorem takeA_len {depth count : Nat} {ps qs : List Pt} {w : Wd} {c : Nat} (h : takeA depth count ps w = .ok (c, qs)) : qs.length ≤ ps.length + 1 := by
  cases ps with
  | nil => cases h
  | cons p rest =>
    rw [takeA_cases] at h
    unfold closA dotA beginA at h
    have h1 := fun d => addA_len rest d
    have h2 := fun d => addA_len (p :: rest) d
    repeat' split at h
    all_goals first
      | (cases h; done)
      | (injection h with h; injection h with _ h; subst h; first | (have := h1 (datA p); simp; omega) | (have := h2 (leafD w); simp at *; omega) | simp)
theorem takesA_err {depth count : Nat} {ps : List Pt} {w : Wd} {ws : List Wd} {e : Nat} (h : takeA depth count ps w = .error e) : takesA depth count ps (w :: ws) = .error (w.pl, e) := by
  simp only [takesA, h]
theorem takesA_ok {depth count : Nat} {ps qs : List Pt} {w : Wd} {ws : List Wd} {c : Nat} (h : takeA depth count ps w = .ok (c, qs)) : takesA depth count ps (w :: ws) = takesA depth c qs ws := by
  simp only [takesA, h]
theorem wordsA_err {depth len : Nat} {ws : List Wd} {a e : Nat} (h : takesA depth 0 [zP] ws = .error (a, e)) : ((wordsA depth len ws).1, (((wordsA depth len ws).2.1 : Nat) : Int), (wordsA depth len ws).2.2) = ([], ((a : Nat) : Int), e) := by
  unfold wordsA
  rw [h]
/-- What Read leaves. -/
def ReadPost (r : List Dm × Int × Nat) (w : World) (e : Ending) (w' : World) : Prop :=
  ∃ v us, e = .returned (.tuple #[v, .int .i64 r.2.1, .int .i64 (r.2.2 : Nat)]) ∧ RowV w' v r.1.length 6 us ∧ DmRow (fun _ => True) w' r.1 us ∧ Below w.heap.size w w'
theorem RowV.nilv (w : World) : RowV w (.slice none 0 0) 0 6 [] := ⟨rfl, by unfold maxLen; omega, none, 0, rfl, Nat.le_refl _, .inl ⟨rfl, fun _ => rfl⟩⟩
theorem ReadPost.empty {p : Int} {c : Nat} {w w' : World} (h : Below w.heap.size w w') : ReadPost ([], p, c) w (.returned (.tuple #[.slice none 0 0, .int .i64 p, .int .i64 (c : Nat)])) w' := ⟨_, [], rfl, RowV.nilv w', DmRow.nil _ _, h⟩
/-- Where the words have come to. -/
def RdAt (g B depth : Nat) (ws : List Wd) (k : Nat) (w wr : World) : Prop := ∃ c ms ov, takesA depth c (ptsA ms) (ws.drop k) = takesA depth 0 [zP] ws ∧ RdS wr g B depth c ms ov ∧ Base (ptsA ms) ∧ wtA (ptsA ms) ≤ c ∧ c ≤ 8192 ∧ ms.length ≤ k + 1 ∧ Below B w wr

set_option maxRecDepth 100000 in
set_option maxHeartbeats 8000000 in
theorem read_any (bv : Value) (bs : List Nat) (depth : Int) (w : World) (hs : Sl .u8 w bv bs) (hby : By bs) (ht : Tabs2 w) (hwd : Words w) (hmk : Marks w) (hok : (∀ x ∈ (scanW (decA bs).1).1, WOk x) ∧ (scanW (decA bs).1).1.length ≤ 65536) :
    Calls Tryz.prog 17 #[bv, .int .i64 depth] w (ReadPost (readA bs depth) w) := by
  have HS := Lib.hid hs
  have HBY := Lib.hid hby
  have HT := Lib.hid ht
  have HW := Lib.hid hwd
  have HM := Lib.hid hmk
  have HOK := Lib.hid hok
  clear hs hby ht hwd hmk hok
  generalize hRR : readA bs depth = R
  have HR := Lib.hid hRR
  clear hRR
  unfold readA at HR
  by_cases hd1 : depth < 1
  · have h1 : decide (depth < 1) = true := by rw [decide_eq_true_iff]; exact hd1
    have HV : Hid (R = ([], 0, 1)) := Lib.hid (HR.out.symm.trans (if_pos (.inl hd1)))
    go_enter Tryz.func17, Tryz.ntmps17
    go_wp2_with fail
    refine bodyPost_ret (v := .tuple #[.slice none 0 0, .int .i64 0, .int .i64 1]) (by simp [results, Tryz.results17, go_sem]) rfl ?_
    rw [HV.out]
    exact ReadPost.empty (Below.refl _ _)
  have h1 : decide (depth < 1) = false := by rw [decide_eq_false_iff_not]; exact hd1
  by_cases hd2 : 64 < depth
  · have h2 : decide (64 < depth) = true := by rw [decide_eq_true_iff]; exact hd2
    have HV : Hid (R = ([], 0, 1)) := Lib.hid (HR.out.symm.trans (if_pos (.inr hd2)))
    go_enter Tryz.func17, Tryz.ntmps17
    go_wp2_with fail
    refine bodyPost_ret (v := .tuple #[.slice none 0 0, .int .i64 0, .int .i64 1]) (by simp [results, Tryz.results17, go_sem]) rfl ?_
    rw [HV.out]
    exact ReadPost.empty (Below.refl _ _)
  have h2 : decide (64 < depth) = false := by rw [decide_eq_false_iff_not]; exact hd2
  have HR1 := Lib.hid ((if_neg (by rintro (h | h); exact hd1 h; exact hd2 h)).symm.trans HR.out)
  obtain ⟨d, rfl⟩ : ∃ d : Nat, depth = (d : Int) := ⟨depth.toNat, by omega⟩
  have hd64 : d ≤ 64 := by omega
  simp only [Int.toNat_natCast] at HR1
  clear hd1 hd2 HR
  go_enter Tryz.func17, Tryz.ntmps17
  go_wp2_with fail
  refine (decode_any bv bs w HS.out HBY.out HT.out.1).mono ?_
  rintro e w1 ⟨v1, rfl, hv1, hb1⟩
  have HB1 := Lib.hid hb1
  have HV1 := Lib.hid hv1
  have HSC := Lib.hid (decA_sc HBY.out)
  clear hb1 hv1
  generalize decA bs = D at *
  obtain ⟨cs, a1, e1⟩ := D
  simp only at HR1 HSC HV1 HOK
  by_cases he1 : e1 = 0
  case neg =>
    have h3 : (((e1 : Nat) : Int) != 0) = true := by rw [bne_iff_ne]; omega
    have HV : Hid (R = ([], ((a1 : Nat) : Int), e1)) := Lib.hid (by have h := HR1.out; rw [if_pos he1] at h; exact h.symm)
    clear he1
    go_wp2_with fail
    refine bodyPost_ret (v := .tuple #[.slice none 0 0, .int .i64 (a1 : Nat), .int .i64 (e1 : Nat)]) (by simp [results, Tryz.results17, go_sem]) rfl ?_
    rw [HV.out]
    exact ReadPost.empty HB1.out
  have h3 : (((e1 : Nat) : Int) != 0) = false := by rw [he1]; rfl
  obtain ⟨hsc, hlen⟩ := HSC.out he1
  have HSN := Lib.hid hsc
  have HR2 := Lib.hid ((if_neg (by simpa using he1)).symm.trans HR1.out)
  clear he1 hsc HR1 HSC
  have hsv := slv_nat HV1.out
  have hcall := scan_any v1 (cs.map fun (c : Nat) => (c : Int)) w1 hsv (by rw [List.length_map]; omega) (HT.out.below HB1.out) (HW.out.below HB1.out) (HM.out.below HB1.out)
  unfold ScanPost at hcall
  rw [rd_scan HSN.out] at hcall
  obtain ⟨ao1, cap1, hv1e⟩ : ∃ ao cap, v1 = .slice ao cs.length cap := by obtain ⟨_, ao, cap, h, _⟩ := HV1.out; exact ⟨ao, cap, h⟩
  subst hv1e
  have HC := Lib.hid hcall
  clear hsv hcall
  go_wp2_with fail
  refine HC.out.mono ?_
  rintro e w2 ⟨v2, ps, rfl, hps, htk, hpl, hb2⟩
  have HB2 := Lib.hid (HB1.out.trans (hb2.mono HB1.out.size))
  have HTK := Lib.hid htk
  have HPS := Lib.hid hps
  clear hb2 htk hps HC
  generalize scanW cs = S at *
  obtain ⟨ws, a2, e2⟩ := S
  simp only at HR2 HPS HOK
  by_cases he2 : e2 = 0
  case neg =>
    have h4 : (((e2 : Nat) : Int) != 0) = true := by rw [bne_iff_ne]; omega
    have HV : Hid (R = ([], ((a2 : Nat) : Int), e2)) := Lib.hid (by have h := HR2.out; rw [if_pos he2] at h; exact h.symm)
    clear he2
    go_wp2_with fail
    refine bodyPost_ret (v := .tuple #[.slice none 0 0, .int .i64 (a2 : Nat), .int .i64 (e2 : Nat)]) (by simp [results, Tryz.results17, go_sem]) rfl ?_
    rw [HV.out]
    exact ReadPost.empty HB2.out
  have h4 : (((e2 : Nat) : Int) != 0) = false := by rw [he2]; rfl
  have HR3 := Lib.hid ((if_neg (by simpa using he2)).symm.trans HR2.out)
  clear he2 HR2
  obtain ⟨ao2, cap2, hv2e⟩ := OwnQ.slice HTK.out.own
  subst hv2e
  go_wp2_with fail
  have hb3 := below2 w2 (.cells #[.int .i64 0, .string ⟨#[]⟩, .int .i64 0, .string ⟨#[]⟩, .bool false, .slice none 0 0, .slice none 0 0, .int .i64 0, .int .i64 0, .slice none 0 0, .int .i64 0] 63) (.cells #[.int .i64 (d : Nat), .int .i64 0, .int .i64 0, .slice (some ⟨w2.heap.size, 0, none⟩) 1 1] 66)
  have hp0 : ((w2.alloc (.cells #[.int .i64 0, .string ⟨#[]⟩, .int .i64 0, .string ⟨#[]⟩, .bool false, .slice none 0 0, .slice none 0 0, .int .i64 0, .int .i64 0, .slice none 0 0, .int .i64 0] 63)).alloc (.cells #[.int .i64 (d : Nat), .int .i64 0, .int .i64 0, .slice (some ⟨w2.heap.size, 0, none⟩) 1 1] 66)).heap[w2.heap.size]? = some (.cells #[.int .i64 0, .string ⟨#[]⟩, .int .i64 0, .string ⟨#[]⟩, .bool false, .slice none 0 0, .slice none 0 0, .int .i64 0, .int .i64 0, .slice none 0 0, .int .i64 0] 63 (0, 0)) := by rw [Below.heap_alloc _ _ _ (by simp)]; exact heap_alloc_new w2 _
  have hr0 : ((w2.alloc (.cells #[.int .i64 0, .string ⟨#[]⟩, .int .i64 0, .string ⟨#[]⟩, .bool false, .slice none 0 0, .slice none 0 0, .int .i64 0, .int .i64 0, .slice none 0 0, .int .i64 0] 63)).alloc (.cells #[.int .i64 (d : Nat), .int .i64 0, .int .i64 0, .slice (some ⟨w2.heap.size, 0, none⟩) 1 1] 66)).heap[w2.heap.size + 1]? = some (.cells #[.int .i64 (d : Nat), .int .i64 0, .int .i64 0, .slice (some ⟨w2.heap.size, 0, none⟩) 1 1] 66 (0, 0)) := by have := heap_alloc_new (w2.alloc (.cells #[.int .i64 0, .string ⟨#[]⟩, .int .i64 0, .string ⟨#[]⟩, .bool false, .slice none 0 0, .slice none 0 0, .int .i64 0, .int .i64 0, .slice none 0 0, .int .i64 0] 63)) (.cells #[.int .i64 (d : Nat), .int .i64 0, .int .i64 0, .slice (some ⟨w2.heap.size, 0, none⟩) 1 1] 66); simpa using this
  have HS3 := Lib.hid (RdS.start (h := w2.heap.size) (depth := d) hp0 hr0)
  have HB3 := Lib.hid hb3
  clear hb3 hp0 hr0
  have HLEN : Hid (ws.length = ps.length) := Lib.hid (by rw [← HPS.out, List.length_map])
  generalize (w2.alloc (.cells #[.int .i64 0, .string ⟨#[]⟩, .int .i64 0, .string ⟨#[]⟩, .bool false, .slice none 0 0, .slice none 0 0, .int .i64 0, .int .i64 0, .slice none 0 0, .int .i64 0] 63)).alloc (.cells #[.int .i64 (d : Nat), .int .i64 0, .int .i64 0, .slice (some ⟨w2.heap.size, 0, none⟩) 1 1] 66) = W3 at *
  go_loopw [45] (fun v wr => ∃ k : Nat, v = .int .i64 (k : Nat) ∧ k ≤ ps.length ∧ RdAt (w2.heap.size + 1) w2.heap.size d ws k w2 wr) (fun v _ => ps.length - (intOf v).toNat)
  case atStart => exact ⟨0, rfl, Nat.zero_le _, 0, _, _, rfl, HS3.out, Base.zero, by show wtA [zP] ≤ 0; simp [wtA, ownA, zP, zW, sumA], by omega, by simp, HB3.out⟩
  case round =>
    obtain ⟨k, rfl, hk, c, ms, ov, htk, hS, hba, hwt, hc, hml, hbl⟩ := hrel
    have HTA := Lib.hid htk
    have HS := Lib.hid hS
    have HBA := Lib.hid hba
    have HWT := Lib.hid hwt
    have HML := Lib.hid hml
    have HBL := Lib.hid hbl
    by_cases hkn : k < ps.length
    · have hki : ((k : Nat) : Int) < ((ps.length : Nat) : Int) := by omega
      obtain ⟨g2, e2', hv, hcap, hg2, hcells⟩ := HTK.out.at' hkn
      simp only [Value.slice.injEq, true_and] at hv
      obtain ⟨rfl, rfl⟩ := hv
      have hlb := HTK.out.limbs _ (List.getElem_mem hkn)
      have hkw : k < ws.length := by rw [HLEN.out]; exact hkn
      have hXe : ws[k]'hkw = (ps[k]'hkn).1 := by
        have h := congrArg (fun l => l[k]?) HPS.out
        simp only [List.getElem?_map, List.getElem?_eq_getElem hkn, List.getElem?_eq_getElem hkw, Option.map_some] at h
        exact (Option.some.inj h).symm
      have HX := Lib.hid (HOK.out.1 _ (hXe ▸ List.getElem_mem hkw))
      have HDR : Hid (ws.drop k = (ps[k]'hkn).1 :: ws.drop (k + 1)) := Lib.hid (by rw [List.drop_eq_getElem_cons hkw, hXe])
      generalize (ps[k]'hkn).1 = X at *
      generalize (ps[k]'hkn).2 = lv at *
      obtain ⟨lo, lc, rfl⟩ : ∃ o c, lv = .slice o X.d.r.length c := by obtain ⟨_, a, c, h, _⟩ := hlb; exact ⟨a, c, h⟩
      have HLV := Lib.hid hlb
      have c0 := (hbl.cell (p := ⟨g2, k * 9, none⟩) hg2).trans (hcells 0 _ rfl)
      have c1 := (hbl.cell (p := ⟨g2, k * 9 + 1, none⟩) hg2).trans (hcells 1 _ rfl)
      have c2 := (hbl.cell (p := ⟨g2, k * 9 + 2, none⟩) hg2).trans (hcells 2 _ rfl)
      have c3 := (hbl.cell (p := ⟨g2, k * 9 + 3, none⟩) hg2).trans (hcells 3 _ rfl)
      have c4 := (hbl.cell (p := ⟨g2, k * 9 + 4, none⟩) hg2).trans (hcells 4 _ rfl)
      have c5 := (hbl.cell (p := ⟨g2, k * 9 + 5, none⟩) hg2).trans (hcells 5 _ rfl)
      have c6 := (hbl.cell (p := ⟨g2, k * 9 + 6, none⟩) hg2).trans (hcells 6 _ rfl)
      have c7 := (hbl.cell (p := ⟨g2, k * 9 + 7, none⟩) hg2).trans (hcells 7 _ rfl)
      have c8 := (hbl.cell (p := ⟨g2, k * 9 + 8, none⟩) hg2).trans (hcells 8 _ rfl)
      clear hcells hlb hXe htk hS hba hwt hml hbl
      have hltc : k < cap2 := by omega
      have hb4 := below1 wr (.cells #[.int .i64 (X.kind : Nat), .string (mkB X.txt), .int .i64 (X.d.k : Nat), .string (mkB X.d.t), .bool X.d.n, .slice lo X.d.r.length lc, .slice none 0 0, .int .i64 (X.dat : Nat), .int .i64 (X.pl : Nat)] 61)
      have hx4 := heap_alloc_new wr (.cells #[.int .i64 (X.kind : Nat), .string (mkB X.txt), .int .i64 (X.d.k : Nat), .string (mkB X.d.t), .bool X.d.n, .slice lo X.d.r.length lc, .slice none 0 0, .int .i64 (X.dat : Nat), .int .i64 (X.pl : Nat)] 61)
      have HB4 := Lib.hid hb4
      have HX4 := Lib.hid hx4
      have t0 := cell_heap hx4 0
      have t1 := cell_heap hx4 1
      have t2 := cell_heap hx4 2
      have t3 := cell_heap hx4 3
      have t4 := cell_heap hx4 4
      have t5 := cell_heap hx4 5
      have t6 := cell_heap hx4 6
      have t7 := cell_heap hx4 7
      have t8 := cell_heap hx4 8
      have hbl4 := HBL.out.trans (hb4.mono HS.out.big)
      have hkl : k < 65536 := by have h1 := HOK.out.2; have h2 := HLEN.out; omega
      have HLY : Hid (LayP (fun b => b < w2.heap.size) (wr.alloc (.cells #[.int .i64 (X.kind : Nat), .string (mkB X.txt), .int .i64 (X.d.k : Nat), .string (mkB X.d.t), .bool X.d.n, .slice lo X.d.r.length lc, .slice none 0 0, .int .i64 (X.dat : Nat), .int .i64 (X.pl : Nat)] 61)) (leafD X) [.int .i64 (X.d.k : Nat), .string (mkB X.d.t), .bool X.d.n, .slice lo X.d.r.length lc, .slice none 0 0, .int .i64 (X.dat : Nat)]) := Lib.hid (LayP.mk (us := []) HX.out.dby HX.out.dlt HX.out.lim (HLV.out.below hbl4) (fun b h1 h2 => HLV.out.lt b h1 h2) ⟨rfl, by simp, none, 0, rfl, by simp, .inl ⟨rfl, fun _ => rfl⟩⟩ (fun b h => absurd rfl h) fun i hi => by simp at hi)
      have hcall := rtake_any (w2.heap.size + 1) w2.heap.size d c ov ms X lo X.d.r.length lc (wr.alloc (.cells #[.int .i64 (X.kind : Nat), .string (mkB X.txt), .int .i64 (X.d.k : Nat), .string (mkB X.d.t), .bool X.d.n, .slice lo X.d.r.length lc, .slice none 0 0, .int .i64 (X.dat : Nat), .int .i64 (X.pl : Nat)] 61)) (HS.out.below hb4) HBA.out hd64 hc HWT.out (by have := HML.out; omega) HX.out.txt (fun _ => HLY.out) HX.out.k0
      have HCL := Lib.hid hcall
      have HBL4 := Lib.hid hbl4
      have hsz4 : wr.heap.size < (wr.alloc (.cells #[.int .i64 (X.kind : Nat), .string (mkB X.txt), .int .i64 (X.d.k : Nat), .string (mkB X.d.t), .bool X.d.n, .slice lo X.d.r.length lc, .slice none 0 0, .int .i64 (X.dat : Nat), .int .i64 (X.pl : Nat)] 61)).heap.size := by simp
      clear hb4 hx4 hcall hbl4
      go_wp2_with fail
      generalize wr.alloc (.cells #[.int .i64 (X.kind : Nat), .string (mkB X.txt), .int .i64 (X.d.k : Nat), .string (mkB X.d.t), .bool X.d.n, .slice lo X.d.r.length lc, .slice none 0 0, .int .i64 (X.dat : Nat), .int .i64 (X.pl : Nat)] 61) = W4 at *
      refine HCL.out.mono ?_
      rintro e w5 h5
      have he := h5.ret
      subst he
      have H5 := Lib.hid h5
      clear h5 t0 t1 t2 t3 t4 t5 t6 t7 t8 c0 c1 c2 c3 c4 c5 c6 c7 c8
      cases hta : takeA d c (ptsA ms) X with
      | error er =>
        rw [hta] at H5
        rw [show errOf (.error er : Except Nat (Nat × List Pt)) = er from rfl]
        obtain ⟨hb5, _, hb6⟩ := H5.out
        have her := takeA_err hta
        have h5 : (((er : Nat) : Int) != 0) = true := by rw [bne_iff_ne]; omega
        have HV : Hid (R = ([], ((X.pl : Nat) : Int), er)) := Lib.hid (by
          have h := HTA.out
          rw [HDR.out, takesA_err hta] at h
          rw [← HR3.out, wordsA_err h.symm])
        have hx5 := (hb6.block wr.heap.size hsz4).trans HX4.out
        have HB9 := Lib.hid (HB2.out.trans ((HBL4.out.trans hb5).mono HB2.out.size))
        have t8 := cell_heap hx5 8
        clear hb5 hb6 her hx5
        go_wp2_with fail
        go_region
        all_goals
          go_wp2_with fail
          refine bodyPost_ret (v := .tuple #[.slice none 0 0, .int .i64 (X.pl : Nat), .int .i64 (er : Nat)]) (by simp [results, Tryz.results17, go_sem]) rfl ?_
          rw [HV.out]
          exact ReadPost.empty HB9.out.drew
      | ok r =>
        obtain ⟨c', qs⟩ := r
        rw [hta] at H5
        rw [show errOf (.ok (c', qs) : Except Nat (Nat × List Pt)) = 0 from rfl]
        obtain ⟨hb5, _, ms5, ov5, hq5, hs5⟩ := H5.out
        have HB5 := Lib.hid (HBL4.out.trans hb5)
        have HS5 := Lib.hid hs5
        have HQ5 := Lib.hid hq5
        have HWT5 := Lib.hid (takeA_wt HWT.out hc hta)
        have HBA5 := Lib.hid (takeA_base HBA.out HX.out.k0 hta)
        have HST := Lib.hid (takesA_ok (ws := ws.drop (k + 1)) hta)
        clear hb5 hs5 hq5
        go_wp2_with fail
        go_roundw
        case rel =>
          refine ⟨k + 1, by go_num, by omega, c', ms5, ov5, ?_, HS5.out, by rw [HQ5.out]; exact HBA5.out, by rw [HQ5.out]; exact HWT5.out.1, HWT5.out.2.1, ?_, HB5.out⟩
          · rw [HQ5.out, ← HST.out, ← HDR.out]
            exact HTA.out
          · have h1 := takeA_len hta
            have h2 : (ptsA ms5).length = ms5.length := by simp [ptsA]
            have h3 : (ptsA ms).length = ms.length := by simp [ptsA]
            have h4 := HML.out
            rw [HQ5.out] at h2
            omega
        case measure => simp only [intOf]; omega
    · have hkx : k = ps.length := by omega
      subst hkx
      have hfin : takesA d 0 [zP] ws = .ok (ptsA ms) := by
        rw [← HTA.out, ← HLEN.out, List.drop_length]
        rfl
      obtain ⟨m, mt, rfl⟩ : ∃ m mt, ms = m :: mt := by
        cases ms with
        | nil => exact absurd rfl HBA.out.ne
        | cons m mt => exact ⟨m, mt, rfl⟩
      obtain ⟨b, cap, rfl, hcap, hBb, hbw, hcell, hfroz⟩ := HS.out.mem.top
      obtain ⟨d0, d1, d2, d3, f1, f2, f3⟩ := HS.out.box.facts
      have hml := HML.out
      clear hS hba hwt hbl htk
      have HF := Lib.hid hfin
      clear hfin
      cases mt with
      | nil =>
        have hgt : decide ((1 : Int) < ((1 : Nat) : Int)) = false := by decide
        obtain ⟨mo, mcap, hav⟩ := own_dslice (HS.out.mem.lists m (by simp))
        obtain ⟨q, qlv, qav, qus⟩ := m
        simp only at hav
        subst hav
        have p9 := hcell 9 _ rfl
        have HV : Hid (R = (q.l, 0, 0)) := Lib.hid (by rw [← HR3.out]; unfold wordsA; rw [HF.out]; rfl)
        clear hcell hfroz
        go_wp2_with fail
        refine (top_any (w2.heap.size + 1) b 0 cap d _ c _ HS.out.box (by omega) hcap).mono ?_
        rintro e w6 ⟨rfl, nq, rfl⟩
        have hbq := below_drewN (Below.refl wr.heap.size wr) nq
        have q9 : (wr.drewN nq).cell? ⟨b, 0 * 11 + 9, none⟩ = some (.slice mo q.l.length mcap) := p9
        have HS6 := Lib.hid (HS.out.below hbq)
        have HB6 := Lib.hid (HB2.out.trans ((HBL.out.trans (hbq.mono HS.out.big)).mono HB2.out.size))
        simp only [Nat.zero_mul, Nat.zero_add] at q9
        clear hbq
        generalize wr.drewN nq = W6 at *
        go_wp2_with fail
        refine bodyPost_ret (v := .tuple #[.slice mo q.l.length mcap, .int .i64 0, .int .i64 0]) (by simp [results, Tryz.results17, go_sem]) rfl ?_
        rw [HV.out]
        exact ⟨_, qus, rfl, RowV.of_own (HS6.out.mem.lists _ List.mem_cons_self), (HS6.out.mem.each _ List.mem_cons_self).mono fun _ _ _ => trivial, HB6.out⟩
      | cons m2 mt =>
        have hgt : decide ((1 : Int) < (((m2 :: mt).length + 1 : Nat) : Int)) = true := by rw [decide_eq_true_iff]; simp only [List.length_cons]; omega
        have HV : Hid (R = ([], ((cs.length : Nat) : Int), 3)) := Lib.hid (by rw [← HR3.out]; unfold wordsA; rw [HF.out]; rfl)
        clear hcell hfroz
        go_wp2_with fail
        refine bodyPost_ret (v := .tuple #[.slice none 0 0, .int .i64 (cs.length : Nat), .int .i64 3]) (by simp [results, Tryz.results17, go_sem]) rfl ?_
        rw [HV.out]
        exact ReadPost.empty (HB2.out.trans (HBL.out.mono HB2.out.size))
end Go.Proofs.YtpahfhjgcflifaaGreatDoor
namespace Go.Proofs.YtpahfhjgcflifaaGreatDoor
open Go.RowKit

theorem quoA_sc {cs : List Nat} (hq : ∀ x ∈ cs, ScQ x) : ∀ (n i : Nat) (acc l : List Nat) (j : Nat), cs.length - i = n → acc.length ≤ 4096 → (∀ x ∈ acc, ScQ x) → quoA cs i acc = some (l, j) → l.length ≤ 4096 ∧ ∀ x ∈ l, ScQ x := by
  intro n
  induction n using Nat.strongRecOn with
  | ind n ih =>
    intro i acc l j hn hal ha h
    rcases Nat.lt_or_ge i cs.length with hl | hl
    · by_cases h1 : limb cs i = 34
      · rw [quoA_quote hl h1] at h
        injection h with h; injection h with h2 h3
        subst h2
        exact ⟨hal, ha⟩
      · cases h2 : nxA cs i with
        | none => rw [quoA_bad hl h1 h2] at h; cases h
        | some p =>
          obtain ⟨c, k⟩ := p
          have hg := nxA_gt hl h2
          by_cases h3 : acc.length = 4096
          · rw [quoA_long hl h1 h2 h3] at h; cases h
          · rw [quoA_step hl h1 h2 h3] at h
            refine ih (cs.length - k) (by omega) k _ _ _ rfl (by simp; omega) (fun x hx => ?_) h
            rcases List.mem_append.1 hx with hx | hx
            · exact ha x hx
            · rw [List.mem_singleton.1 hx]; exact nxA_sc hq hl h2
    · rw [quoA_out hl] at h; cases h
theorem maxLen_ge : 1000000 ≤ maxLen := by unfold maxLen; omega
theorem wOk_mark : ∀ k : Fin 12, mKind k.val ≠ 0 ∧ (mName k.val).length ≤ 1000 ∧ (mName k.val).all (fun x => decide (x < 128)) = true := by decide
theorem by_of' {u : List Nat} (h : u.all (fun x => decide (x < 128)) = true) : By u := by
  intro i
  rcases Nat.lt_or_ge i u.length with hi | hi
  · have e : limb u i = u[i] := by unfold limb; rw [List.getD_eq_getElem?_getD, List.getElem?_eq_getElem hi]; rfl
    rw [e]
    have := List.all_eq_true.1 h _ (List.getElem_mem hi)
    simp at this
    omega
  · rw [limb_out hi]; omega
theorem limb_nil0 (i : Nat) : limb ([] : List Nat) i < 4294967296 := by simp [limb]
theorem wOk_leaf {k : Nat} {t : List Nat} {n : Bool} {r : List Nat} (i : Nat) (hby : By t) (hlt : t.length ≤ 1000000) (hlim : ∀ i, limb r i < 4294967296) : WOk (leafW ⟨k, t, n, r⟩ i) :=
  ⟨by show (7 : Nat) ≠ 0; decide, ⟨By.nil, by show (0 : Nat) ≤ maxLen; omega⟩, hby, Nat.le_trans hlt maxLen_ge, hlim⟩
theorem atmA_ok {bs : List Nat} {d : Dt} (hby : By bs) (h : atmA bs = some d) : By d.t ∧ d.t.length ≤ 1000000 ∧ ∀ i, limb d.r i < 4294967296 := by
  unfold atmA at h
  split at h
  · injection h with h; subst h; exact ⟨By.nil, by simp, limb_nil0⟩
  · split at h
    · injection h with h; subst h; exact ⟨By.nil, by simp, limb_nil0⟩
    · split at h
      · rename_i hp
        injection h with h; subst h
        refine ⟨By.nil, by simp, fun i => ?_⟩
        by_cases hx : ∃ x, ParR (mkB bs) x
        · have e : parA (mkB bs) = hx.choose := by unfold parA; rw [dif_pos hx]
          have h2 := hx.choose_spec
          rw [← e] at h2
          rcases h2 with ⟨_, _, hs, _⟩ | ⟨h0, _⟩
          · have := hs.2.1 i
            show limb (parA (mkB bs)).2.1 i < 4294967296
            omega
          · rw [h0] at hp; cases hp
        · have e : parA (mkB bs) = (false, [], false) := by unfold parA; rw [dif_neg hx]
          rw [e] at hp; cases hp
      · split at h
        · rename_i hs
          injection h with h; subst h
          refine ⟨hby, ?_, limb_nil0⟩
          unfold symA at hs
          simp only [Bool.and_eq_true, decide_eq_true_iff] at hs
          have := hs.1.1.1.2.2.1
          show bs.length ≤ 1000000
          omega
        · cases h
theorem wrdA_ok {cs : List Nat} {i j : Nat} {x : Wd} (hq : ∀ c ∈ cs, ScQ c) (h : wrdA cs i = some (x, j)) : WOk x := by
  unfold wrdA at h
  cases hm : markA cs i with
  | some k =>
    rw [hm] at h
    injection h with h; injection h with h _; subst h
    obtain ⟨h1, h2, h3⟩ := wOk_mark ⟨k, markA_lt hm⟩
    exact ⟨h1, ⟨by_of' h3, by have := maxLen_ge; show (mName k).length ≤ maxLen; simp only at h2; omega⟩, By.nil, by show (0 : Nat) ≤ maxLen; omega, limb_nil0⟩
  | none =>
    rw [hm] at h
    simp only at h
    split at h
    · rw [Option.map_eq_some_iff] at h
      obtain ⟨⟨l, j2⟩, h1, h2⟩ := h
      injection h2 with h2 _; subst h2
      obtain ⟨h3, h4⟩ := quoA_sc hq _ _ _ _ _ rfl (by simp) (fun x hx => by cases hx) h1
      refine wOk_leaf i (encL_byQ h4) ?_ limb_nil0
      have := encL_len l
      show (encL l).length ≤ 1000000
      omega
    · split at h
      · rw [Option.map_eq_some_iff] at h
        obtain ⟨⟨c, j2⟩, h1, h2⟩ := h
        injection h2 with h2 _; subst h2
        unfold chrA at h1
        split at h1
        · rw [Option.map_eq_some_iff] at h1
          obtain ⟨c2, h3, h4⟩ := h1
          injection h4 with h4 _; subst h4
          have hc := namedA_sc (encL_byQ (cutN_sc hq)) h3
          have he : By (encN c2) := by
            have := encL_byQ (l := [c2]) (fun x hx => by rw [List.mem_singleton.1 hx]; exact hc)
            simpa [encL] using this
          refine wOk_leaf i he ?_ limb_nil0
          have h5 := encN_len c2
          have h6 := (blen_le c2).2
          show (encN c2).length ≤ 1000000
          omega
        · cases h1
      · split at h
        · injection h with h; injection h with h _; subst h
          exact ⟨by show (4 : Nat) ≠ 0; decide, ⟨By.nil, by show (0 : Nat) ≤ maxLen; omega⟩, By.nil, by show (0 : Nat) ≤ maxLen; omega, limb_nil0⟩
        · rw [Option.map_eq_some_iff] at h
          obtain ⟨d, h1, h2⟩ := h
          injection h2 with h2 _; subst h2
          obtain ⟨h3, h4, h5⟩ := atmA_ok (encL_byQ (cutN_sc hq)) h1
          exact wOk_leaf i h3 h4 h5
theorem wdsA_ok {cs : List Nat} (hq : ∀ c ∈ cs, ScQ c) : ∀ (n i : Nat) (acc : List Wd), cs.length - i = n → (∀ x ∈ acc, WOk x) → (∀ x ∈ (wdsA cs i acc).1, WOk x) ∧ (wdsA cs i acc).1.length ≤ acc.length + (cs.length - i) := by
  intro n
  induction n using Nat.strongRecOn with
  | ind n ih =>
    intro i acc hn ha
    have hsk := (skp_facts _ i rfl (cs := cs)).1
    rcases Nat.lt_or_ge (skp cs i) cs.length with hl | hl
    · cases hw : wrdA cs (skp cs i) with
      | none =>
        rw [wdsA_bad hl hw]
        exact ⟨fun x hx => (by cases hx), by simp⟩
      | some p =>
        obtain ⟨x, j⟩ := p
        have hg := wrdA_gt hw
        rw [wdsA_step hl hw]
        have h := ih (cs.length - j) (by omega) j (acc ++ [x]) rfl (fun y hy => by
          rcases List.mem_append.1 hy with hy | hy
          · exact ha y hy
          · rw [List.mem_singleton.1 hy]; exact wrdA_ok hq hw)
        refine ⟨h.1, ?_⟩
        have h2 := h.2
        rw [List.length_append, List.length_singleton] at h2
        omega
    · rw [wdsA_end hl]
      exact ⟨ha, by simp⟩
theorem scanW_ok {cs : List Nat} (hq : ∀ c ∈ cs, ScQ c) : (∀ x ∈ (scanW cs).1, WOk x) ∧ (scanW cs).1.length ≤ cs.length := by
  have h := wdsA_ok hq _ 0 [] rfl (fun x hx => by cases hx)
  unfold scanW
  generalize wdsA cs 0 [] = p at *
  obtain ⟨ws, o⟩ := p
  cases o with
  | none => exact ⟨h.1, by simpa using h.2⟩
  | some k => exact ⟨fun x hx => (by cases hx), by simp⟩
theorem read_all (bv : Value) (bs : List Nat) (depth : Int) (w : World) (hs : Sl .u8 w bv bs) (hby : By bs) (ht : Tabs2 w) (hwd : Words w) (hmk : Marks w) :
    Calls Tryz.prog 17 #[bv, .int .i64 depth] w (ReadPost (readA bs depth) w) := by
  refine read_any bv bs depth w hs hby ht hwd hmk ?_
  by_cases h : (decA bs).2.2 = 0
  · obtain ⟨h1, h2⟩ := decA_sc hby h
    have h3 := scanW_ok (cs := (decA bs).1) h1
    exact ⟨h3.1, Nat.le_trans h3.2 h2⟩
  · have h0 : (decA bs).1 = [] := by
      unfold decA at h ⊢
      split
      · rfl
      · rename_i hl
        rw [if_neg hl] at h
        split at h
        all_goals first | exact absurd rfl h | rfl | simp_all
    rw [h0]
    have h3 := scanW_ok (cs := []) (fun c hc => by cases hc)
    exact ⟨h3.1, Nat.le_trans h3.2 (by simp)⟩
end Go.Proofs.YtpahfhjgcflifaaGreatDoor
namespace Go.Proofs.YtpahfhjgcflifaaGreatDoor
open Go.RowKit

def ansC : List Nat := [40, 97, 32, 46, 32, 40, 98, 41, 41]
theorem rans_scan : scanW ansC = ([⟨1, [], zD, 0, 0⟩, leafW ⟨4, [97], false, []⟩ 1, dotW 3, ⟨1, [], zD, 0, 5⟩, leafW ⟨4, [98], false, []⟩ 6, ⟨2, [], zD, 0, 7⟩, ⟨2, [], zD, 0, 8⟩], 0, 0) := by
  have s0 : skp ansC 0 = 0 := skp_stop (by decide) (by decide) (by decide)
  have s1 : skp ansC 1 = 1 := skp_stop (by decide) (by decide) (by decide)
  have s3 : skp ansC 3 = 3 := skp_stop (by decide) (by decide) (by decide)
  have s2 : skp ansC 2 = 3 := (skp_blank (by decide) (by decide) (by decide)).trans s3
  have s5 : skp ansC 5 = 5 := skp_stop (by decide) (by decide) (by decide)
  have s4 : skp ansC 4 = 5 := (skp_blank (by decide) (by decide) (by decide)).trans s5
  have s6 : skp ansC 6 = 6 := skp_stop (by decide) (by decide) (by decide)
  have s7 : skp ansC 7 = 7 := skp_stop (by decide) (by decide) (by decide)
  have s8 : skp ansC 8 = 8 := skp_stop (by decide) (by decide) (by decide)
  have s9 : skp ansC 9 = 9 := skp_end (by decide)
  have m0 : markA ansC 0 = some 0 := by decide
  have m1 : markA ansC 1 = none := by decide
  have m3 : markA ansC 3 = none := by decide
  have m5 : markA ansC 5 = some 0 := by decide
  have m6 : markA ansC 6 = none := by decide
  have m7 : markA ansC 7 = some 1 := by decide
  have m8 : markA ansC 8 = some 1 := by decide
  have t1 : til enN ansC 1 = 2 := til_is _ 1 2 rfl (by decide) (by decide) (fun j h1 h2 => by have e : j = 1 := (by omega); subst e; decide) (fun _ => by decide)
  have t3 : til enN ansC 3 = 4 := til_is _ 3 4 rfl (by decide) (by decide) (fun j h1 h2 => by have e : j = 3 := (by omega); subst e; decide) (fun _ => by decide)
  have t6 : til enN ansC 6 = 7 := til_is _ 6 7 rfl (by decide) (by decide) (fun j h1 h2 => by have e : j = 6 := (by omega); subst e; decide) (fun _ => by decide)
  have c1 : encL (cutN ansC 1 2) = [97] := by decide
  have h1 : chars [97] 0 = ([97], none) := chars_enc [97] (by intro c hc; rw [List.mem_singleton] at hc; subst hc; decide)
  have y1 : symA [97] = true := symA_yes (by decide) (by decide) (by decide) (by decide) (by decide) (by rw [h1]) (by rw [h1]; decide)
  have a1 : atmA [97] = some ⟨4, [97], false, []⟩ := atmA_symb (fun i => by match i with | 0 => decide | i + 1 => simp [limb]) y1
  have w1 : wrdA ansC 1 = some (leafW ⟨4, [97], false, []⟩ 1, 2) := by
    rw [wrdA_atm m1 (by decide) (by decide)]
    unfold atmW
    rw [t1, c1, if_neg (by decide), a1]
    rfl
  have c6 : encL (cutN ansC 6 7) = [98] := by decide
  have h6 : chars [98] 0 = ([98], none) := chars_enc [98] (by intro c hc; rw [List.mem_singleton] at hc; subst hc; decide)
  have y6 : symA [98] = true := symA_yes (by decide) (by decide) (by decide) (by decide) (by decide) (by rw [h6]) (by rw [h6]; decide)
  have a6 : atmA [98] = some ⟨4, [98], false, []⟩ := atmA_symb (fun i => by match i with | 0 => decide | i + 1 => simp [limb]) y6
  have w6 : wrdA ansC 6 = some (leafW ⟨4, [98], false, []⟩ 6, 7) := by
    rw [wrdA_atm m6 (by decide) (by decide)]
    unfold atmW
    rw [t6, c6, if_neg (by decide), a6]
    rfl
  have c3 : encL (cutN ansC 3 4) = [46] := by decide
  have w3 : wrdA ansC 3 = some (dotW 3, 4) := by
    rw [wrdA_atm m3 (by decide) (by decide)]
    unfold atmW
    rw [t3, c3, if_pos rfl]
  have k0 : wdsA ansC 0 [] = wdsA ansC 1 [⟨1, [], zD, 0, 0⟩] := wdsA_step (x := ⟨1, [], zD, 0, 0⟩) (by rw [s0]; decide) (by rw [s0]; exact wrdA_mark m0)
  have k1 : wdsA ansC 1 [⟨1, [], zD, 0, 0⟩] = wdsA ansC 2 [⟨1, [], zD, 0, 0⟩, leafW ⟨4, [97], false, []⟩ 1] := wdsA_step (x := leafW ⟨4, [97], false, []⟩ 1) (by rw [s1]; decide) (by rw [s1]; exact w1)
  have k2 : wdsA ansC 2 [⟨1, [], zD, 0, 0⟩, leafW ⟨4, [97], false, []⟩ 1] = wdsA ansC 4 [⟨1, [], zD, 0, 0⟩, leafW ⟨4, [97], false, []⟩ 1, dotW 3] := wdsA_step (x := dotW 3) (by rw [s2]; decide) (by rw [s2]; exact w3)
  have k3 : wdsA ansC 4 [⟨1, [], zD, 0, 0⟩, leafW ⟨4, [97], false, []⟩ 1, dotW 3] = wdsA ansC 6 [⟨1, [], zD, 0, 0⟩, leafW ⟨4, [97], false, []⟩ 1, dotW 3, ⟨1, [], zD, 0, 5⟩] := wdsA_step (x := ⟨1, [], zD, 0, 5⟩) (by rw [s4]; decide) (by rw [s4]; exact wrdA_mark m5)
  have k4 : wdsA ansC 6 [⟨1, [], zD, 0, 0⟩, leafW ⟨4, [97], false, []⟩ 1, dotW 3, ⟨1, [], zD, 0, 5⟩] = wdsA ansC 7 [⟨1, [], zD, 0, 0⟩, leafW ⟨4, [97], false, []⟩ 1, dotW 3, ⟨1, [], zD, 0, 5⟩, leafW ⟨4, [98], false, []⟩ 6] := wdsA_step (x := leafW ⟨4, [98], false, []⟩ 6) (by rw [s6]; decide) (by rw [s6]; exact w6)
  have k5 : wdsA ansC 7 [⟨1, [], zD, 0, 0⟩, leafW ⟨4, [97], false, []⟩ 1, dotW 3, ⟨1, [], zD, 0, 5⟩, leafW ⟨4, [98], false, []⟩ 6] = wdsA ansC 8 [⟨1, [], zD, 0, 0⟩, leafW ⟨4, [97], false, []⟩ 1, dotW 3, ⟨1, [], zD, 0, 5⟩, leafW ⟨4, [98], false, []⟩ 6, ⟨2, [], zD, 0, 7⟩] := wdsA_step (x := ⟨2, [], zD, 0, 7⟩) (by rw [s7]; decide) (by rw [s7]; exact wrdA_mark m7)
  have k6 : wdsA ansC 8 [⟨1, [], zD, 0, 0⟩, leafW ⟨4, [97], false, []⟩ 1, dotW 3, ⟨1, [], zD, 0, 5⟩, leafW ⟨4, [98], false, []⟩ 6, ⟨2, [], zD, 0, 7⟩] = wdsA ansC 9 [⟨1, [], zD, 0, 0⟩, leafW ⟨4, [97], false, []⟩ 1, dotW 3, ⟨1, [], zD, 0, 5⟩, leafW ⟨4, [98], false, []⟩ 6, ⟨2, [], zD, 0, 7⟩, ⟨2, [], zD, 0, 8⟩] := wdsA_step (x := ⟨2, [], zD, 0, 8⟩) (by rw [s8]; decide) (by rw [s8]; exact wrdA_mark m8)
  have k7 := wdsA_end (cs := ansC) (i := 9) (acc := [⟨1, [], zD, 0, 0⟩, leafW ⟨4, [97], false, []⟩ 1, dotW 3, ⟨1, [], zD, 0, 5⟩, leafW ⟨4, [98], false, []⟩ 6, ⟨2, [], zD, 0, 7⟩, ⟨2, [], zD, 0, 8⟩]) (by rw [s9]; decide)
  unfold scanW
  rw [k0, k1, k2, k3, k4, k5, k6, k7]
theorem rans_read : ∃ d, readA ansC 5 = ([d], 0, 0) ∧ d.k = 1 ∧ d.l.length = 2 := by
  have hd : decA ansC = (ansC, 0, 0) := by
    have h : chars (encL ansC) 0 = (ansC, none) := chars_enc ansC (by decide)
    have e : encL ansC = ansC := by decide
    rw [e] at h
    exact decA_ok (by decide) h
  refine ⟨joinA [.mk 4 [97] false [] [] 1] (.mk 1 [] false [] [.mk 4 [98] false [] [] 6] 5) 0, ?_, rfl, rfl⟩
  unfold readA
  rw [if_neg (by omega), hd, if_neg (by simp), rans_scan, if_neg (by simp)]
  rfl

set_option maxRecDepth 100000 in
set_option maxHeartbeats 2000000 in
theorem ranswers_any (w : World) (ht : Tabs2 w) (hwd : Words w) (hmk : Marks w) : Calls Tryz.prog 11 #[] w fun e w' => e = .returned (.bool true) ∧ Below w.heap.size w w' := by
  have HT := Lib.hid ht; clear ht
  have HW := Lib.hid hwd; clear hwd
  have HM := Lib.hid hmk; clear hmk
  have hb0 := below1 w (.cells #[.int .u8 40, .int .u8 97, .int .u8 32, .int .u8 46, .int .u8 32, .int .u8 40, .int .u8 98, .int .u8 41, .int .u8 41] 5 (9, 10))
  have hsl : Sl .u8 (w.alloc (.cells #[.int .u8 40, .int .u8 97, .int .u8 32, .int .u8 46, .int .u8 32, .int .u8 40, .int .u8 98, .int .u8 41, .int .u8 41] 5 (9, 10))) (.slice (some ⟨w.heap.size, 0, none⟩) 9 9) ansC :=
    ⟨by simp [ansC, maxLen], some ⟨w.heap.size, 0, none⟩, 9, rfl, by simp [ansC], .inr ⟨w.heap.size, 0, rfl, by simp, fun j hj => by
      rw [cell_of_row _ _ _ _ _ (9, 10) (heap_alloc_new w _)]
      have h9 : j < 9 := hj
      match j, h9 with
      | 0, _ => rfl
      | 1, _ => rfl
      | 2, _ => rfl
      | 3, _ => rfl
      | 4, _ => rfl
      | 5, _ => rfl
      | 6, _ => rfl
      | 7, _ => rfl
      | 8, _ => rfl⟩⟩
  obtain ⟨d, hans, hk, hl⟩ := rans_read
  have hcall := read_all _ ansC 5 _ hsl (by_of' (by decide)) (HT.out.below hb0) (HW.out.below hb0) (HM.out.below hb0)
  rw [hans] at hcall
  have HC := Lib.hid hcall
  have HK := Lib.hid hk
  have HL := Lib.hid hl
  have HB0 := Lib.hid hb0
  clear hcall hk hl hb0 hsl hans
  have kc := fun (w : World) (C : Array Value) (n c : Nat) => Lib.run_convert_bytes_const (P := Tryz.prog) w 34 5 C n c Tryz.underlying34 Tryz.underlying5
  go_enter Tryz.func11, Tryz.ntmps11
  go_wp2_with fail
  clear kc
  refine HC.out.mono ?_
  rintro e w1 ⟨v, us, rfl, hrow, hin, hb⟩
  have HB := Lib.hid (HB0.out.trans (hb.mono HB0.out.size))
  have hd := hin.each 0 (by simp)
  obtain ⟨k, t, n, r, l, a⟩ := d
  obtain ⟨lv, av, xs, hus, _, _, _, _, _, hrow1, _⟩ := hd.row
  obtain ⟨hul, _, ao, cap, rfl, hcap, h | ⟨b, off, rfl, hbw, hcell⟩⟩ := hrow
  · simp at h
  have hkk : k = 1 := HK.out
  have hll : l.length = 2 := HL.out
  subst hkk
  obtain ⟨_, _, oo, oc, rfl, _⟩ := hrow1
  rw [hll] at hus
  have hu6 : us = [.int .i64 1, .string (mkB t), .bool n, lv, .slice oo 2 oc, .int .i64 a] := by
    have h6 : us.length = 6 := by simpa using hul
    rw [← hus]
    simp [List.take_of_length_le, h6]
  have c0 := hcell 0 (.int .i64 1) (by rw [hu6]; rfl)
  have c4 := hcell 4 (.slice oo 2 oc) (by rw [hu6]; rfl)
  simp only [Nat.add_zero] at c0
  simp only [List.length_singleton] at hcap ⊢
  clear hcell hus hu6 hul hin hb hd
  go_wp2_with fail
  go_ret
  exact ⟨rfl, HB.out⟩
end Go.Proofs.YtpahfhjgcflifaaGreatDoor
