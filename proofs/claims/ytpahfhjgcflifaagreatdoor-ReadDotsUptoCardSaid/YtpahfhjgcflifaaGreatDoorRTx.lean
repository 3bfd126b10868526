/- ref.Text of datums. | ref.Text of leaves. | ref.Text of lists and of all datums. | ref.Others, ref.Voids of datums. -/
import Derived.Test.YtpahfhjgcflifaaGreatDoorTx
import Derived.Test.YtpahfhjgcflifaaGreatDoorRdLight
import Derived.Test.YtpahfhjgcflifaaGreatDoorRName2
import Derived.Test.YtpahfhjgcflifaaGreatDoorTkRQuo
namespace Go.Proofs.YtpahfhjgcflifaaGreatDoor
open Go.RowKit

/-- What a leaf that may be is, a Void or Other among them. -/
theorem leafAny {g : Nat} {k : Int} {t : List Nat} {n : Bool} {r : List Nat} {l : List Dm} {a : Int} (h : okD g (.mk k t n r l a) = true) (hk : ¬ (k = 1 ∨ k = 2 ∨ k = 3)) :
    l = [] ∧ (k = 4 ∨ k = 5 ∨ (k = 6 ∧ ∃ c, chars t 0 = ([c], none)) ∨ (k = 7 ∧ Snd n r) ∨ k = 8 ∨ k = 9 ∨ k = 10 ∨ k = 11) := by
  by_cases h10 : k = 10
  · cases g with
    | zero => rw [okD_zero] at h; cases h
    | succ g =>
      rw [okD_leaf hk (by omega)] at h
      simp only [Bool.and_eq_true, decide_eq_true_iff] at h
      exact ⟨List.eq_nil_of_length_eq_zero h.2, by simp [h10]⟩
  by_cases h11 : k = 11
  · cases g with
    | zero => rw [okD_zero] at h; cases h
    | succ g =>
      rw [okD_leaf hk (by omega)] at h
      simp only [Bool.and_eq_true, decide_eq_true_iff] at h
      exact ⟨List.eq_nil_of_length_eq_zero h.2, by simp [h11]⟩
  obtain ⟨h1, h2⟩ := leaf_parts h hk h10 h11
  refine ⟨h1, ?_⟩
  rcases h2 with ⟨rfl, _, hs⟩ | ⟨_, _, h2⟩
  · exact .inr (.inr (.inr (.inl ⟨rfl, hs⟩)))
  · rcases h2 with ⟨rfl, _⟩ | ⟨rfl, _⟩ | ⟨rfl, hc⟩ | ⟨rfl, _⟩ | ⟨rfl, _⟩
    · exact .inl rfl
    · exact .inr (.inl rfl)
    · exact .inr (.inr (.inl ⟨rfl, hc⟩))
    · simp
    · simp
theorem nameA_low : ∀ c : Fin 128, (nameA c.val).length ≤ 10 := by decide +kernel
theorem nameA_len (c : Nat) : (nameA c).length ≤ 10 := by
  by_cases h : c < 128
  · exact nameA_low ⟨c, h⟩
  · rw [← nm_enc]
    unfold nmL
    rw [if_neg h]
    have e : encL [c] = encN c := by simp [encL]
    rw [e, encN_len]
    have := (blen_le c).2
    omega
theorem preT_len {dot : Bool} {n : Nat} {l : List Dm} {g : Int → List Nat → Bool → List Nat → List Nat} (h : ∀ (j : Nat) (hj : j < l.length), ((l[j]'hj).tg g).length + 10 ≤ (l[j]'hj).sz * 6000000) : ∀ i, i ≤ l.length → (preT dot n (l.map (Dm.tg g)) i).length ≤ szs l i * 6000000 := by
  intro i
  induction i with
  | zero => intro _; exact Nat.zero_le _
  | succ i ih =>
    intro hi
    have h1 := ih (by omega)
    have h2 := h i (by omega)
    have e : (l.map (Dm.tg g)).getD i [] = (l[i]'(by omega)).tg g := getD_map (by omega)
    have h3 : (sepT dot n i).length ≤ 3 := by unfold sepT; split <;> split <;> simp
    rw [preT_succ, List.length_append, List.length_append, e, szs_succ (by omega), Nat.add_mul]
    omega
theorem tb_len {N : Nat} (hN : N ≤ 1100000) : ∀ (m : Nat) (D : Dm), D.sz ≤ m → ∀ g, okD g D = true → Sm N D → D.tb.length + 10 ≤ D.sz * 6000000 := by
  intro m
  induction m with
  | zero => intro D h; have := sz_pos D; omega
  | succ m ih =>
    intro D hm g hok hsm
    obtain ⟨k, t, n, r, l, a⟩ := D
    obtain ⟨ht, hr, hl, hin⟩ := hsm.open'
    unfold Dm.tb
    by_cases hk : k = 1 ∨ k = 2 ∨ k = 3
    · obtain ⟨f, _, _, _, _, _, hall⟩ := okD_parts hok hk
      rw [tg_node hk, sz_node]
      have h1 := preT_len (dot := decide (k = 2)) (n := l.length) (g := leafB) (l := l) (fun j hj => ih _ (by
        have := Dm.sz_mem (d := .mk k t n r l a) (x := l[j]'hj) (List.getElem_mem hj)
        omega) f (hall j hj) (hin j hj)) l.length (Nat.le_refl _)
      have h2 : (hdT k).length ≤ 2 := by unfold hdT; split <;> simp
      unfold lisT
      rw [List.length_append, List.length_append, List.length_map, Nat.add_mul]
      simp only [List.length_singleton]
      omega
    · obtain ⟨rfl, h⟩ := leafAny hok hk
      rw [tg_leaf hk, leaf_sz]
      rcases h with rfl | rfl | ⟨rfl, c, hc⟩ | ⟨rfl, hs⟩ | rfl | rfl | rfl | rfl
      · show t.length + 10 ≤ _; omega
      · show (quoT t).length + 10 ≤ _
        have := esc_len t
        simp only [quoT, List.length_cons, List.length_append, List.length_nil]
        omega
      · show (35 :: 92 :: nameA (limb (chA t).1 0)).length + 10 ≤ _
        have := nameA_len (limb (chA t).1 0)
        simp only [List.length_cons]
        omega
      · show (numT n r).length + 10 ≤ _
        have := (txt_short hs).2
        unfold numT
        rw [List.length_map]
        omega
      · show ([35, 116] : List Nat).length + 10 ≤ _; simp
      · show ([35, 102] : List Nat).length + 10 ≤ _; simp
      · show ([35, 60, 118, 111, 105, 100, 62] : List Nat).length + 10 ≤ _; simp
      · show (35 :: 60 :: (t ++ [62])).length + 10 ≤ _
        simp only [List.length_cons, List.length_append, List.length_nil]
        omega
theorem mkB_three (t : List Nat) : ByteArray.mk #[35, 60] ++ mkB t ++ ByteArray.mk #[62] = mkB (35 :: 60 :: (t ++ [62])) := by
  unfold mkB
  apply ByteArray.ext
  simp
theorem mkB_chr (t : List Nat) : ByteArray.mk #[35, 92] ++ mkB t = mkB (35 :: 92 :: t) := by
  unfold mkB
  apply ByteArray.ext
  simp
theorem mkB_app2' (u : List Nat) (b : ByteArray) (v : List Nat) (h : b = mkB v) : mkB u ++ b = mkB (u ++ v) := by rw [h, mkB_app2]

end Go.Proofs.YtpahfhjgcflifaaGreatDoor
namespace Go.Proofs.YtpahfhjgcflifaaGreatDoor
open Go.RowKit

def RtP (D : Dm) (w : World) (e : Ending) (w' : World) : Prop := e = .returned (.string (mkB D.tb)) ∧ Below w.heap.size w w'
set_option maxRecDepth 100000 in
set_option maxHeartbeats 8000000 in
theorem rtext_4 (t : List Nat) (n : Bool) (r : List Nat) (a : Int) (l0 : Nat) (lv : Value) (ao : Option Addr) (cv0 : Nat) (w : World) (hby : By t) (hlt : t.length ≤ 1100000) (hlim : ∀ i, limb r i < 4294967296) (hsl : Sl .u32 w lv r) :
    Calls Tryz.prog 18 #[.agg #[.int .i64 4, .string (mkB t), .bool n, lv, .slice ao l0 cv0, .int .i64 a]] w (RtP (.mk 4 t n r [] a) w) := by
  have hbb := below1 w (.cells #[.int .i64 4, .string (mkB t), .bool n, lv, .slice ao l0 cv0, .int .i64 a] 27)
  have r0 := box1 w #[.int .i64 4, .string (mkB t), .bool n, lv, .slice ao l0 cv0, .int .i64 a] 27
  have HSL := Lib.hid hsl
  have HBY := Lib.hid hby
  have HLT := Lib.hid hlt
  have HLM := Lib.hid hlim
  have HBB := Lib.hid hbb
  obtain ⟨a0, a1, a2, a3, a4, a5⟩ := row6 r0
  obtain ⟨_, lo, lc, rfl, _⟩ := hsl
  clear hby hlt hlim hbb r0
  have HV : Hid ((Dm.mk 4 t n r [] a).tb = t) := Lib.hid (by unfold Dm.tb; rw [tg_leaf (by omega)]; rfl)
  go_enter Tryz.func18, Tryz.ntmps18
  go_wp2_with fail
  go_ret
  exact ⟨by rw [HV.out]; rfl, HBB.out⟩
set_option maxRecDepth 100000 in
set_option maxHeartbeats 8000000 in
theorem rtext_5 (t : List Nat) (n : Bool) (r : List Nat) (a : Int) (l0 : Nat) (lv : Value) (ao : Option Addr) (cv0 : Nat) (w : World) (hby : By t) (hlt : t.length ≤ 1100000) (hlim : ∀ i, limb r i < 4294967296) (hsl : Sl .u32 w lv r) :
    Calls Tryz.prog 18 #[.agg #[.int .i64 5, .string (mkB t), .bool n, lv, .slice ao l0 cv0, .int .i64 a]] w (RtP (.mk 5 t n r [] a) w) := by
  have hbb := below1 w (.cells #[.int .i64 5, .string (mkB t), .bool n, lv, .slice ao l0 cv0, .int .i64 a] 27)
  have r0 := box1 w #[.int .i64 5, .string (mkB t), .bool n, lv, .slice ao l0 cv0, .int .i64 a] 27
  have HSL := Lib.hid hsl
  have HBY := Lib.hid hby
  have HLT := Lib.hid hlt
  have HLM := Lib.hid hlim
  have HBB := Lib.hid hbb
  obtain ⟨a0, a1, a2, a3, a4, a5⟩ := row6 r0
  obtain ⟨_, lo, lc, rfl, _⟩ := hsl
  clear hby hlt hlim hbb r0
  have HV : Hid ((Dm.mk 5 t n r [] a).tb = quoT t) := Lib.hid (by unfold Dm.tb; rw [tg_leaf (by omega)]; rfl)
  go_enter Tryz.func18, Tryz.ntmps18
  go_wp2_with fail
  refine (rquoted_any (mkB t) _ (by rw [mkB_size]; have := HLT.out; omega)).mono ?_
  rw [byt_mk HBY.out]
  rintro e w1 ⟨rfl, hb1⟩
  have HB1 := Lib.hid (HBB.out.trans (hb1.mono HBB.out.size))
  clear hb1
  go_wp2_with fail
  go_ret
  exact ⟨by rw [HV.out]; rfl, HB1.out⟩
set_option maxRecDepth 100000 in
set_option maxHeartbeats 8000000 in
theorem rtext_6 (t : List Nat) (n : Bool) (r : List Nat) (a : Int) (l0 : Nat) (lv : Value) (ao : Option Addr) (cv0 : Nat) (w : World) (c : Nat) (hc : chars t 0 = ([c], none)) (hby : By t) (hlt : t.length ≤ 1100000) (hlim : ∀ i, limb r i < 4294967296) (hsl : Sl .u32 w lv r) :
    Calls Tryz.prog 18 #[.agg #[.int .i64 6, .string (mkB t), .bool n, lv, .slice ao l0 cv0, .int .i64 a]] w (RtP (.mk 6 t n r [] a) w) := by
  have hbb := below1 w (.cells #[.int .i64 6, .string (mkB t), .bool n, lv, .slice ao l0 cv0, .int .i64 a] 27)
  have r0 := box1 w #[.int .i64 6, .string (mkB t), .bool n, lv, .slice ao l0 cv0, .int .i64 a] 27
  have HSL := Lib.hid hsl
  have HBY := Lib.hid hby
  have HLT := Lib.hid hlt
  have HLM := Lib.hid hlim
  have HBB := Lib.hid hbb
  obtain ⟨a0, a1, a2, a3, a4, a5⟩ := row6 r0
  obtain ⟨_, lo, lc, rfl, _⟩ := hsl
  clear hby hlt hlim hbb r0
  have HV : Hid ((Dm.mk 6 t n r [] a).tb = 35 :: 92 :: nameA c) := Lib.hid (by unfold Dm.tb; rw [tg_leaf (by omega)]; show 35 :: 92 :: nameA (limb (chA t).1 0) = _; rw [chA_ok hc]; rfl)
  have HC := Lib.hid (chA_ok hc)
  have HSC : Hid (scB ((c : Nat) : Int) = true) := Lib.hid (by rw [scB_nat]; exact decide_eq_true ((enc_chars HBY.out _ 0 [c] (Nat.le_refl _) (Nat.zero_le _) hc).2 c (by simp)))
  clear hc
  have HM := Lib.hid (mkB_chr (nameA c))
  have HNL : Hid ((mkB (nameA c)).size ≤ 10) := Lib.hid (by rw [mkB_size]; exact nameA_len c)
  have HBM := Lib.hid (byt_mk HBY.out)
  have hconv := run_bytes_of_string (P := Tryz.prog) (w.alloc (.cells #[.int .i64 6, .string (mkB t), .bool n, .slice lo r.length lc, .slice ao l0 cv0, .int .i64 a] 27)) 9 34 5 (mkB t) Tryz.underlying9 Tryz.underlying34 Tryz.underlying5
  have hcap := grownCap_ge (w.alloc (.cells #[.int .i64 6, .string (mkB t), .bool n, .slice lo r.length lc, .slice ao l0 cv0, .int .i64 a] 27)) (mkB t).size 0 5
  simp only [World.size_alloc] at hconv
  go_enter Tryz.func18, Tryz.ntmps18
  go_wp2_with fail
  clear a0 a1 a2 a3 a4 a5
  generalize hG : grownCap (w.alloc (.cells #[.int .i64 6, .string (mkB t), .bool n, .slice lo r.length lc, .slice ao l0 cv0, .int .i64 a] 27)) (mkB t).size 0 5 = cap at *
  have hsl : Sl .u8 (((w.alloc (.cells #[.int .i64 6, .string (mkB t), .bool n, .slice lo r.length lc, .slice ao l0 cv0, .int .i64 a] 27)).alloc (.cells (bytesRow (mkB t) cap) 5 ((bytesRow (mkB t) cap).size, (bytesRow (mkB t) cap).size + 1))).drew) (.slice (some ⟨w.heap.size + 1, 0, none⟩) (mkB t).size cap) t := by
    have := row_slS (w := (w.alloc (.cells #[.int .i64 6, .string (mkB t), .bool n, .slice lo r.length lc, .slice ao l0 cv0, .int .i64 a] 27))) (s := mkB t) (cap := cap) (e := 5) (W := ((w.alloc (.cells #[.int .i64 6, .string (mkB t), .bool n, .slice lo r.length lc, .slice ao l0 cv0, .int .i64 a] 27)).alloc (.cells (bytesRow (mkB t) cap) 5 ((bytesRow (mkB t) cap).size, (bytesRow (mkB t) cap).size + 1))).drew) (heap_alloc_new (w.alloc (.cells #[.int .i64 6, .string (mkB t), .bool n, .slice lo r.length lc, .slice ao l0 cv0, .int .i64 a] 27)) _) hcap (by rw [mkB_size]; have := HLT.out; omega)
    rw [HBM.out] at this
    simpa using this
  have HBW := Lib.hid (HBB.out.trans ((below1 (w.alloc (.cells #[.int .i64 6, .string (mkB t), .bool n, .slice lo r.length lc, .slice ao l0 cv0, .int .i64 a] 27)) (.cells (bytesRow (mkB t) cap) 5 ((bytesRow (mkB t) cap).size, (bytesRow (mkB t) cap).size + 1))).drew.mono HBB.out.size))
  refine (rchars_any _ t _ hsl HBY.out (by have := HLT.out; omega)).mono ?_
  unfold CharsPost
  rw [HC.out]
  rintro e w2 ⟨v, rfl, hv, hb⟩
  have HB2 := Lib.hid (HBW.out.trans (hb.mono HBW.out.size))
  obtain ⟨_, co, cc, rfl, hcc, hh⟩ := hv
  rcases hh with ⟨h, _⟩ | ⟨b, off, rfl, _, hcell⟩
  · cases h
  have hc0 : w2.cell? ⟨b, off, none⟩ = some (.int .i64 ((c : Nat) : Int)) := hcell 0 (by simp)
  simp only [List.length_singleton] at hcc ⊢
  clear hconv hcap hG hsl hb hcell
  go_wp2_with fail
  refine (rname_any ((c : Nat) : Int) _).mono ?_
  rintro e w3 ⟨h | h, hb3⟩
  · obtain ⟨_, rfl⟩ := h
    have HB3 := Lib.hid (HB2.out.trans (hb3.mono HB2.out.size))
    clear hb3 hc0
    simp only [Int.toNat_natCast]
    have g1 : ¬ 9223372036854775807 < 2 + (mkB (nameA c)).size := by have := HNL.out; omega
    go_wp2_with fail
    go_ret
    exact ⟨by rw [HV.out, ← HM.out]; rfl, HB3.out⟩
  · rw [HSC.out] at h
    exact absurd h.1 (by simp)
set_option maxRecDepth 100000 in
set_option maxHeartbeats 8000000 in
theorem rtext_7 (t : List Nat) (n : Bool) (r : List Nat) (a : Int) (l0 : Nat) (lv : Value) (ao : Option Addr) (cv0 : Nat) (w : World) (hs : Snd n r) (hby : By t) (hlt : t.length ≤ 1100000) (hlim : ∀ i, limb r i < 4294967296) (hsl : Sl .u32 w lv r) :
    Calls Tryz.prog 18 #[.agg #[.int .i64 7, .string (mkB t), .bool n, lv, .slice ao l0 cv0, .int .i64 a]] w (RtP (.mk 7 t n r [] a) w) := by
  have hbb := below1 w (.cells #[.int .i64 7, .string (mkB t), .bool n, lv, .slice ao l0 cv0, .int .i64 a] 27)
  have r0 := box1 w #[.int .i64 7, .string (mkB t), .bool n, lv, .slice ao l0 cv0, .int .i64 a] 27
  have HSL := Lib.hid hsl
  have HBY := Lib.hid hby
  have HLT := Lib.hid hlt
  have HLM := Lib.hid hlim
  have HBB := Lib.hid hbb
  obtain ⟨a0, a1, a2, a3, a4, a5⟩ := row6 r0
  obtain ⟨_, lo, lc, rfl, _⟩ := hsl
  clear hby hlt hlim hbb r0
  have HV : Hid ((Dm.mk 7 t n r [] a).tb = numT n r) := Lib.hid (by unfold Dm.tb; rw [tg_leaf (by omega)]; rfl)
  have HN := Lib.hid (numT_mk n r)
  have HT := Lib.hid (txtA_snd hs)
  clear hs
  go_enter Tryz.func18, Tryz.ntmps18
  go_wp2_with fail
  refine (rtext_any n _ r _ (HSL.out.below HBB.out) HLM.out).mono ?_
  rw [HT.out]
  rintro e w1 ⟨rfl, hb1⟩
  have HB1 := Lib.hid (HBB.out.trans (hb1.mono HBB.out.size))
  clear hb1
  go_wp2_with fail
  go_ret
  exact ⟨by rw [HV.out, HN.out]; rfl, HB1.out⟩
set_option maxRecDepth 100000 in
set_option maxHeartbeats 8000000 in
theorem rtext_8 (t : List Nat) (n : Bool) (r : List Nat) (a : Int) (l0 : Nat) (lv : Value) (ao : Option Addr) (cv0 : Nat) (w : World) (hby : By t) (hlt : t.length ≤ 1100000) (hlim : ∀ i, limb r i < 4294967296) (hsl : Sl .u32 w lv r) :
    Calls Tryz.prog 18 #[.agg #[.int .i64 8, .string (mkB t), .bool n, lv, .slice ao l0 cv0, .int .i64 a]] w (RtP (.mk 8 t n r [] a) w) := by
  have hbb := below1 w (.cells #[.int .i64 8, .string (mkB t), .bool n, lv, .slice ao l0 cv0, .int .i64 a] 27)
  have r0 := box1 w #[.int .i64 8, .string (mkB t), .bool n, lv, .slice ao l0 cv0, .int .i64 a] 27
  have HSL := Lib.hid hsl
  have HBY := Lib.hid hby
  have HLT := Lib.hid hlt
  have HLM := Lib.hid hlim
  have HBB := Lib.hid hbb
  obtain ⟨a0, a1, a2, a3, a4, a5⟩ := row6 r0
  obtain ⟨_, lo, lc, rfl, _⟩ := hsl
  clear hby hlt hlim hbb r0
  have HV : Hid ((Dm.mk 8 t n r [] a).tb = [35, 116]) := Lib.hid (by unfold Dm.tb; rw [tg_leaf (by omega)]; rfl)
  go_enter Tryz.func18, Tryz.ntmps18
  go_wp2_with fail
  go_ret
  exact ⟨by rw [HV.out]; rfl, HBB.out⟩
set_option maxRecDepth 100000 in
set_option maxHeartbeats 8000000 in
theorem rtext_9 (t : List Nat) (n : Bool) (r : List Nat) (a : Int) (l0 : Nat) (lv : Value) (ao : Option Addr) (cv0 : Nat) (w : World) (hby : By t) (hlt : t.length ≤ 1100000) (hlim : ∀ i, limb r i < 4294967296) (hsl : Sl .u32 w lv r) :
    Calls Tryz.prog 18 #[.agg #[.int .i64 9, .string (mkB t), .bool n, lv, .slice ao l0 cv0, .int .i64 a]] w (RtP (.mk 9 t n r [] a) w) := by
  have hbb := below1 w (.cells #[.int .i64 9, .string (mkB t), .bool n, lv, .slice ao l0 cv0, .int .i64 a] 27)
  have r0 := box1 w #[.int .i64 9, .string (mkB t), .bool n, lv, .slice ao l0 cv0, .int .i64 a] 27
  have HSL := Lib.hid hsl
  have HBY := Lib.hid hby
  have HLT := Lib.hid hlt
  have HLM := Lib.hid hlim
  have HBB := Lib.hid hbb
  obtain ⟨a0, a1, a2, a3, a4, a5⟩ := row6 r0
  obtain ⟨_, lo, lc, rfl, _⟩ := hsl
  clear hby hlt hlim hbb r0
  have HV : Hid ((Dm.mk 9 t n r [] a).tb = [35, 102]) := Lib.hid (by unfold Dm.tb; rw [tg_leaf (by omega)]; rfl)
  go_enter Tryz.func18, Tryz.ntmps18
  go_wp2_with fail
  go_ret
  exact ⟨by rw [HV.out]; rfl, HBB.out⟩
set_option maxRecDepth 100000 in
set_option maxHeartbeats 8000000 in
theorem rtext_10 (t : List Nat) (n : Bool) (r : List Nat) (a : Int) (l0 : Nat) (lv : Value) (ao : Option Addr) (cv0 : Nat) (w : World) (hby : By t) (hlt : t.length ≤ 1100000) (hlim : ∀ i, limb r i < 4294967296) (hsl : Sl .u32 w lv r) :
    Calls Tryz.prog 18 #[.agg #[.int .i64 10, .string (mkB t), .bool n, lv, .slice ao l0 cv0, .int .i64 a]] w (RtP (.mk 10 t n r [] a) w) := by
  have hbb := below1 w (.cells #[.int .i64 10, .string (mkB t), .bool n, lv, .slice ao l0 cv0, .int .i64 a] 27)
  have r0 := box1 w #[.int .i64 10, .string (mkB t), .bool n, lv, .slice ao l0 cv0, .int .i64 a] 27
  have HSL := Lib.hid hsl
  have HBY := Lib.hid hby
  have HLT := Lib.hid hlt
  have HLM := Lib.hid hlim
  have HBB := Lib.hid hbb
  obtain ⟨a0, a1, a2, a3, a4, a5⟩ := row6 r0
  obtain ⟨_, lo, lc, rfl, _⟩ := hsl
  clear hby hlt hlim hbb r0
  have HV : Hid ((Dm.mk 10 t n r [] a).tb = [35, 60, 118, 111, 105, 100, 62]) := Lib.hid (by unfold Dm.tb; rw [tg_leaf (by omega)]; rfl)
  go_enter Tryz.func18, Tryz.ntmps18
  go_wp2_with fail
  go_ret
  exact ⟨by rw [HV.out]; rfl, HBB.out⟩
set_option maxRecDepth 100000 in
set_option maxHeartbeats 8000000 in
theorem rtext_11 (t : List Nat) (n : Bool) (r : List Nat) (a : Int) (l0 : Nat) (lv : Value) (ao : Option Addr) (cv0 : Nat) (w : World) (hby : By t) (hlt : t.length ≤ 1100000) (hlim : ∀ i, limb r i < 4294967296) (hsl : Sl .u32 w lv r) :
    Calls Tryz.prog 18 #[.agg #[.int .i64 11, .string (mkB t), .bool n, lv, .slice ao l0 cv0, .int .i64 a]] w (RtP (.mk 11 t n r [] a) w) := by
  have hbb := below1 w (.cells #[.int .i64 11, .string (mkB t), .bool n, lv, .slice ao l0 cv0, .int .i64 a] 27)
  have r0 := box1 w #[.int .i64 11, .string (mkB t), .bool n, lv, .slice ao l0 cv0, .int .i64 a] 27
  have HSL := Lib.hid hsl
  have HBY := Lib.hid hby
  have HLT := Lib.hid hlt
  have HLM := Lib.hid hlim
  have HBB := Lib.hid hbb
  obtain ⟨a0, a1, a2, a3, a4, a5⟩ := row6 r0
  obtain ⟨_, lo, lc, rfl, _⟩ := hsl
  clear hby hlt hlim hbb r0
  have HV : Hid ((Dm.mk 11 t n r [] a).tb = 35 :: 60 :: (t ++ [62])) := Lib.hid (by unfold Dm.tb; rw [tg_leaf (by omega)]; rfl)
  have HM := Lib.hid (mkB_three t)
  have hts : (mkB t).size ≤ 1100000 := by rw [mkB_size]; exact HLT.out
  have g1 : ¬ 9223372036854775807 < 2 + (mkB t).size := by omega
  have g2 : ¬ 9223372036854775807 < 2 + (mkB t).size + 1 := by omega
  clear hts
  go_enter Tryz.func18, Tryz.ntmps18
  go_wp2_with fail
  go_ret
  exact ⟨by rw [HV.out, ← HM.out]; rfl, HBB.out⟩
set_option maxRecDepth 100000 in
set_option maxHeartbeats 8000000 in
theorem rtext_leaf (k : Int) (t : List Nat) (n : Bool) (r : List Nat) (a : Int) (l0 : Nat) (lv : Value) (ao : Option Addr) (cv0 : Nat) (w : World) (hk : k = 4 ∨ k = 5 ∨ (k = 6 ∧ ∃ c, chars t 0 = ([c], none)) ∨ (k = 7 ∧ Snd n r) ∨ k = 8 ∨ k = 9 ∨ k = 10 ∨ k = 11) (hby : By t) (hlt : t.length ≤ 1100000) (hlim : ∀ i, limb r i < 4294967296) (hsl : Sl .u32 w lv r) :
    Calls Tryz.prog 18 #[.agg #[.int .i64 k, .string (mkB t), .bool n, lv, .slice ao l0 cv0, .int .i64 a]] w (RtP (.mk k t n r [] a) w) := by
  rcases hk with rfl | rfl | ⟨rfl, c, hc⟩ | ⟨rfl, hs⟩ | rfl | rfl | rfl | rfl
  · exact rtext_4 t n r a l0 lv ao cv0 w hby hlt hlim hsl
  · exact rtext_5 t n r a l0 lv ao cv0 w hby hlt hlim hsl
  · exact rtext_6 t n r a l0 lv ao cv0 w c hc hby hlt hlim hsl
  · exact rtext_7 t n r a l0 lv ao cv0 w hs hby hlt hlim hsl
  · exact rtext_8 t n r a l0 lv ao cv0 w hby hlt hlim hsl
  · exact rtext_9 t n r a l0 lv ao cv0 w hby hlt hlim hsl
  · exact rtext_10 t n r a l0 lv ao cv0 w hby hlt hlim hsl
  · exact rtext_11 t n r a l0 lv ao cv0 w hby hlt hlim hsl
end Go.Proofs.YtpahfhjgcflifaaGreatDoor
namespace Go.Proofs.YtpahfhjgcflifaaGreatDoor
open Go.RowKit

set_option maxRecDepth 100000 in
set_option maxHeartbeats 8000000 in
theorem rtext_n1 (t : List Nat) (n : Bool) (r : List Nat) (l : List Dm) (a : Int) (lv : Value) (ao : Option Addr) (cv0 : Nat) (w : World) (xs : List Value) (hrow : RowV w (.slice ao l.length cv0) l.length 6 xs) (hin : ∀ (i : Nat) (h : i < l.length), Lay w (l[i]'h) ((xs.drop (i * 6)).take 6)) (hsz : szs l l.length ≤ 8192) (_h2 : True)
    (hlen : ∀ (j : Nat) (hj : j < l.length), ((l[j]'hj).tb).length + 10 ≤ (l[j]'hj).sz * 6000000)
    (ih : ∀ (j : Nat) (hj : j < l.length) (us : List Value) (w : World), Lay w (l[j]'hj) us → Calls Tryz.prog 18 #[.agg us.toArray] w (RtP (l[j]'hj) w)) :
    Calls Tryz.prog 18 #[.agg #[.int .i64 1, .string (mkB t), .bool n, lv, .slice ao l.length cv0, .int .i64 a]] w (RtP (.mk 1 t n r l a) w) := by
  have HIH := Lib.hid ih
  have HI1 := Lib.hid hin
  have HW1 := Lib.hid hrow
  have HLN := Lib.hid hlen
  have HSZ := Lib.hid hsz
  have HLL : Hid (l.length ≤ 9223372036854775807) := Lib.hid (by have := hrow.2.1; unfold maxLen at this; omega)
  have HPL := Lib.hid (fun i (hi : i ≤ l.length) => preT_len (dot := false) (n := l.length) (g := leafB) (l := l) hlen i hi)
  have HV : Hid ((Dm.mk 1 t n r l a).tb = [40] ++ (preT false l.length (l.map (Dm.tg leafB)) l.length ++ [41])) := Lib.hid (by
    unfold Dm.tb
    rw [tg_node (by omega)]
    unfold lisT
    rw [List.length_map]
    rfl)
  generalize hX : l.map (Dm.tg leafB) = X at *
  have HX : Hid (∀ (i : Nat) (h : i < l.length), X.getD i [] = (l[i]'h).tb) := Lib.hid fun i h => by rw [← hX]; exact getD_map h
  clear ih hin hrow hlen hsz hX
  have HBB := Lib.hid (below1 w (.cells #[.int .i64 1, .string (mkB t), .bool n, lv, .slice ao l.length cv0, .int .i64 a] 27))
  have HQ0 := Lib.hid (box1 w #[.int .i64 1, .string (mkB t), .bool n, lv, .slice ao l.length cv0, .int .i64 a] 27)
  obtain ⟨a0, a1, a2, a3, a4, a5⟩ := row6 HQ0.out
  go_enter Tryz.func18, Tryz.ntmps18
  go_wp2_with fail
  clear a0 a1 a2 a3 a4 a5
  go_loopw [7, 8] (fun v i wr => ∃ q : Nat, q ≤ l.length ∧ i = .int .i64 (q : Nat) ∧ v = .string (mkB ([40] ++ preT false l.length X q)) ∧ Below (w.heap.size + 1) (w.alloc (.cells #[.int .i64 1, .string (mkB t), .bool n, lv, .slice ao l.length cv0, .int .i64 a] 27)) wr) (fun _ i _ => l.length - (intOf i).toNat)
  case atStart => exact ⟨0, Nat.zero_le _, rfl, rfl, Below.refl _ _⟩
  case round =>
    obtain ⟨q, hq, rfl, hv, hbel⟩ := hrel
    obtain ⟨O, hO⟩ : ∃ O, O = mkB ([40] ++ preT false l.length X q) := ⟨_, rfl⟩
    have hz : O.size ≤ 60000000000 := by
      have h1 := HPL.out q hq
      have h3 := szs_le (l := l) hq
      have h4 := HSZ.out
      rw [hO, mkB_size, List.length_append]
      simp only [List.length_cons, List.length_nil]
      omega
    rw [← hO] at hv
    subst hv
    have HO := Lib.hid hO
    have HBL := Lib.hid hbel
    have HBR := Lib.hid (HBB.out.trans (hbel.mono (by omega)))
    obtain ⟨g0, _, _, _, g4, _⟩ := row6 ((hbel.block w.heap.size (by omega)).trans HQ0.out)
    have hmx := HLL.out
    clear hO hbel
    by_cases hqn : q < l.length
    · have hii : ((q : Nat) : Int) < ((l.length : Nat) : Int) := by omega
      obtain ⟨b, off, cap, v0, v1, v2, v3, v4, v5, hav, _, _, hly, p0, p1, p2, p3, p4, p5⟩ := row_datum (HW1.out.below HBR.out) (fun j h => (HI1.out j h).keep HBR.out) hqn
      simp only [Value.slice.injEq, true_and] at hav
      obtain ⟨rfl, rfl⟩ := hav
      have HY1 := Lib.hid hly
      obtain ⟨_, _, _, e1, _⟩ := hly.open'
      clear hly e1
      have HTZ : Hid ((mkB ((l[q]'hqn).tb)).size ≤ 60000000000) := Lib.hid (by
        have h1 := HLN.out q hqn
        have h3 : (l[q]'hqn).sz ≤ szs l l.length := by
          have e := szs_succ (l := l) hqn
          have := szs_mono (l := l) (i := q + 1) (j := l.length) (by omega) (Nat.le_refl _)
          omega
        have h4 := HSZ.out
        rw [mkB_size]
        omega)
      have g1 : ¬ 9223372036854775807 < O.size + 1 := by omega
      have g2 : ¬ 9223372036854775807 < O.size + 1 + 2 := by omega
      have HPS := Lib.hid (preT_succ false l.length X q)
      by_cases hq0 : 0 < q
      · have hqi : (0 : Int) < ((q : Nat) : Int) := by omega
        have HSP : Hid (sepT false l.length q = [32]) := Lib.hid (by unfold sepT; rw [if_pos (by omega), if_neg (by rintro ⟨h, _⟩; cases h)]; rfl)
        have HST : Hid (O ++ ByteArray.mk #[32] ++ mkB ((l[q]'hqn).tb) = mkB ([40] ++ preT false l.length X (q + 1))) := Lib.hid (by
          rw [HPS.out, HSP.out, HX.out q hqn, HO.out]
          unfold mkB
          apply ByteArray.ext
          simp)
        clear hq0
        go_wp2_with fail
        refine (HIH.out q hqn [v0, v1, v2, v3, v4, v5] _ HY1.out).mono ?_
        rintro e w3 ⟨rfl, hb3⟩
        have HB3 := Lib.hid (HBL.out.trans (hb3.mono (by have := HBL.out.size; simp at this; omega)))
        clear hb3 p0 p1 p2 p3 p4 p5 g0 g4
        have g5 : ¬ 9223372036854775807 < O.size + 1 + (mkB ((l[q]'hqn).tb)).size := by have := HTZ.out; omega
        go_wp2_with fail
        go_roundw
        case measure => simp only [intOf]; omega
        case rel => exact ⟨q + 1, by omega, by go_num, by rw [← HST.out], by first | exact HB3.out | exact HB3.out.drew⟩
      · have hqi : ¬ (0 : Int) < ((q : Nat) : Int) := by omega
        have HSP : Hid (sepT false l.length q = []) := Lib.hid (by unfold sepT; rw [if_neg (by omega), if_neg (by rintro ⟨h, _⟩; cases h)]; rfl)
        have HST : Hid (O ++ mkB ((l[q]'hqn).tb) = mkB ([40] ++ preT false l.length X (q + 1))) := Lib.hid (by
          rw [HPS.out, HSP.out, HX.out q hqn, HO.out]
          unfold mkB
          apply ByteArray.ext
          simp)
        clear hq0
        go_wp2_with fail
        refine (HIH.out q hqn [v0, v1, v2, v3, v4, v5] _ HY1.out).mono ?_
        rintro e w3 ⟨rfl, hb3⟩
        have HB3 := Lib.hid (HBL.out.trans (hb3.mono (by have := HBL.out.size; simp at this; omega)))
        clear hb3 p0 p1 p2 p3 p4 p5 g0 g4
        have g5 : ¬ 9223372036854775807 < O.size + (mkB ((l[q]'hqn).tb)).size := by have := HTZ.out; omega
        go_wp2_with fail
        go_roundw
        case measure => simp only [intOf]; omega
        case rel => exact ⟨q + 1, by omega, by go_num, by rw [← HST.out], by first | exact HB3.out | exact HB3.out.drew⟩
    · obtain rfl : q = l.length := by omega
      have HST : Hid (O ++ ByteArray.mk #[41] = mkB ((Dm.mk 1 t n r l a).tb)) := Lib.hid (by
        rw [HV.out, HO.out]
        unfold mkB
        apply ByteArray.ext
        simp)
      have g1 : ¬ 9223372036854775807 < O.size + 1 := by omega
      go_wp2_with fail
      go_ret
      exact ⟨by rw [← HST.out]; rfl, HBR.out⟩

set_option maxRecDepth 100000 in
set_option maxHeartbeats 8000000 in
theorem rtext_n2 (t : List Nat) (n : Bool) (r : List Nat) (l : List Dm) (a : Int) (lv : Value) (ao : Option Addr) (cv0 : Nat) (w : World) (xs : List Value) (hrow : RowV w (.slice ao l.length cv0) l.length 6 xs) (hin : ∀ (i : Nat) (h : i < l.length), Lay w (l[i]'h) ((xs.drop (i * 6)).take 6)) (hsz : szs l l.length ≤ 8192) (h2 : 2 ≤ l.length)
    (hlen : ∀ (j : Nat) (hj : j < l.length), ((l[j]'hj).tb).length + 10 ≤ (l[j]'hj).sz * 6000000)
    (ih : ∀ (j : Nat) (hj : j < l.length) (us : List Value) (w : World), Lay w (l[j]'hj) us → Calls Tryz.prog 18 #[.agg us.toArray] w (RtP (l[j]'hj) w)) :
    Calls Tryz.prog 18 #[.agg #[.int .i64 2, .string (mkB t), .bool n, lv, .slice ao l.length cv0, .int .i64 a]] w (RtP (.mk 2 t n r l a) w) := by
  have HIH := Lib.hid ih
  have HI1 := Lib.hid hin
  have HW1 := Lib.hid hrow
  have HLN := Lib.hid hlen
  have HSZ := Lib.hid hsz
  have HLL : Hid (l.length ≤ 9223372036854775807) := Lib.hid (by have := hrow.2.1; unfold maxLen at this; omega)
  have HPL := Lib.hid (fun i (hi : i ≤ l.length) => preT_len (dot := true) (n := l.length) (g := leafB) (l := l) hlen i hi)
  have HV : Hid ((Dm.mk 2 t n r l a).tb = [40] ++ (preT true l.length (l.map (Dm.tg leafB)) l.length ++ [41])) := Lib.hid (by
    unfold Dm.tb
    rw [tg_node (by omega)]
    unfold lisT
    rw [List.length_map]
    rfl)
  generalize hX : l.map (Dm.tg leafB) = X at *
  have HX : Hid (∀ (i : Nat) (h : i < l.length), X.getD i [] = (l[i]'h).tb) := Lib.hid fun i h => by rw [← hX]; exact getD_map h
  clear ih hin hrow hlen hsz hX
  have HBB := Lib.hid (below1 w (.cells #[.int .i64 2, .string (mkB t), .bool n, lv, .slice ao l.length cv0, .int .i64 a] 27))
  have HQ0 := Lib.hid (box1 w #[.int .i64 2, .string (mkB t), .bool n, lv, .slice ao l.length cv0, .int .i64 a] 27)
  obtain ⟨a0, a1, a2, a3, a4, a5⟩ := row6 HQ0.out
  go_enter Tryz.func18, Tryz.ntmps18
  go_wp2_with fail
  clear a0 a1 a2 a3 a4 a5
  go_loopw [7, 8] (fun v i wr => ∃ q : Nat, q ≤ l.length ∧ i = .int .i64 (q : Nat) ∧ v = .string (mkB ([40] ++ preT true l.length X q)) ∧ Below (w.heap.size + 1) (w.alloc (.cells #[.int .i64 2, .string (mkB t), .bool n, lv, .slice ao l.length cv0, .int .i64 a] 27)) wr) (fun _ i _ => l.length - (intOf i).toNat)
  case atStart => exact ⟨0, Nat.zero_le _, rfl, rfl, Below.refl _ _⟩
  case round =>
    obtain ⟨q, hq, rfl, hv, hbel⟩ := hrel
    obtain ⟨O, hO⟩ : ∃ O, O = mkB ([40] ++ preT true l.length X q) := ⟨_, rfl⟩
    have hz : O.size ≤ 60000000000 := by
      have h1 := HPL.out q hq
      have h3 := szs_le (l := l) hq
      have h4 := HSZ.out
      rw [hO, mkB_size, List.length_append]
      simp only [List.length_cons, List.length_nil]
      omega
    rw [← hO] at hv
    subst hv
    have HO := Lib.hid hO
    have HBL := Lib.hid hbel
    have HBR := Lib.hid (HBB.out.trans (hbel.mono (by omega)))
    obtain ⟨g0, _, _, _, g4, _⟩ := row6 ((hbel.block w.heap.size (by omega)).trans HQ0.out)
    have hmx := HLL.out
    clear hO hbel
    by_cases hqn : q < l.length
    · have hii : ((q : Nat) : Int) < ((l.length : Nat) : Int) := by omega
      obtain ⟨b, off, cap, v0, v1, v2, v3, v4, v5, hav, _, _, hly, p0, p1, p2, p3, p4, p5⟩ := row_datum (HW1.out.below HBR.out) (fun j h => (HI1.out j h).keep HBR.out) hqn
      simp only [Value.slice.injEq, true_and] at hav
      obtain ⟨rfl, rfl⟩ := hav
      have HY1 := Lib.hid hly
      obtain ⟨_, _, _, e1, _⟩ := hly.open'
      clear hly e1
      have HTZ : Hid ((mkB ((l[q]'hqn).tb)).size ≤ 60000000000) := Lib.hid (by
        have h1 := HLN.out q hqn
        have h3 : (l[q]'hqn).sz ≤ szs l l.length := by
          have e := szs_succ (l := l) hqn
          have := szs_mono (l := l) (i := q + 1) (j := l.length) (by omega) (Nat.le_refl _)
          omega
        have h4 := HSZ.out
        rw [mkB_size]
        omega)
      have g1 : ¬ 9223372036854775807 < O.size + 1 := by omega
      have g2 : ¬ 9223372036854775807 < O.size + 1 + 2 := by omega
      have HPS := Lib.hid (preT_succ true l.length X q)
      have hwl : ((l.length : Nat) : Int) - 1 = ((l.length - 1 : Nat) : Int) := by omega
      by_cases hq0 : 0 < q
      · have hqi : (0 : Int) < ((q : Nat) : Int) := by omega
        by_cases hla : q + 1 = l.length
        · have hlb : (((q : Nat) : Int) == ((l.length : Nat) : Int) - 1) = true := by rw [beq_iff_eq]; omega
          have HSP : Hid (sepT true l.length q = [32, 46, 32]) := Lib.hid (by unfold sepT; rw [if_pos (by omega), if_pos ⟨rfl, by omega⟩]; rfl)
          have HST : Hid (O ++ ByteArray.mk #[32] ++ ByteArray.mk #[46, 32] ++ mkB ((l[q]'hqn).tb) = mkB ([40] ++ preT true l.length X (q + 1))) := Lib.hid (by
            rw [HPS.out, HSP.out, HX.out q hqn, HO.out]
            unfold mkB
            apply ByteArray.ext
            simp)
          clear hq0
          go_wp2_with fail
          refine (HIH.out q hqn [v0, v1, v2, v3, v4, v5] _ HY1.out).mono ?_
          rintro e w3 ⟨rfl, hb3⟩
          have HB3 := Lib.hid (HBL.out.trans (hb3.mono (by have := HBL.out.size; simp at this; omega)))
          clear hb3 p0 p1 p2 p3 p4 p5 g0 g4
          have g5 : ¬ 9223372036854775807 < O.size + 1 + 2 + (mkB ((l[q]'hqn).tb)).size := by have := HTZ.out; omega
          go_wp2_with fail
          go_roundw
          case measure => simp only [intOf]; omega
          case rel => exact ⟨q + 1, by omega, by go_num, by rw [← HST.out], by first | exact HB3.out | exact HB3.out.drew⟩
        · have hlb : (((q : Nat) : Int) == ((l.length : Nat) : Int) - 1) = false := by rw [beq_eq_false_iff_ne]; omega
          have HSP : Hid (sepT true l.length q = [32]) := Lib.hid (by unfold sepT; rw [if_pos (by omega), if_neg (by rintro ⟨_, h⟩; omega)]; rfl)
          have HST : Hid (O ++ ByteArray.mk #[32] ++ mkB ((l[q]'hqn).tb) = mkB ([40] ++ preT true l.length X (q + 1))) := Lib.hid (by
            rw [HPS.out, HSP.out, HX.out q hqn, HO.out]
            unfold mkB
            apply ByteArray.ext
            simp)
          clear hq0
          go_wp2_with fail
          refine (HIH.out q hqn [v0, v1, v2, v3, v4, v5] _ HY1.out).mono ?_
          rintro e w3 ⟨rfl, hb3⟩
          have HB3 := Lib.hid (HBL.out.trans (hb3.mono (by have := HBL.out.size; simp at this; omega)))
          clear hb3 p0 p1 p2 p3 p4 p5 g0 g4
          have g5 : ¬ 9223372036854775807 < O.size + 1 + (mkB ((l[q]'hqn).tb)).size := by have := HTZ.out; omega
          go_wp2_with fail
          go_roundw
          case measure => simp only [intOf]; omega
          case rel => exact ⟨q + 1, by omega, by go_num, by rw [← HST.out], by first | exact HB3.out | exact HB3.out.drew⟩
      · have hqi : ¬ (0 : Int) < ((q : Nat) : Int) := by omega
        have hlb : (((q : Nat) : Int) == ((l.length : Nat) : Int) - 1) = false := by rw [beq_eq_false_iff_ne]; omega
        have HSP : Hid (sepT true l.length q = []) := Lib.hid (by unfold sepT; rw [if_neg (by omega), if_neg (by rintro ⟨_, h⟩; omega)]; rfl)
        have HST : Hid (O ++ mkB ((l[q]'hqn).tb) = mkB ([40] ++ preT true l.length X (q + 1))) := Lib.hid (by
          rw [HPS.out, HSP.out, HX.out q hqn, HO.out]
          unfold mkB
          apply ByteArray.ext
          simp)
        clear hq0
        go_wp2_with fail
        refine (HIH.out q hqn [v0, v1, v2, v3, v4, v5] _ HY1.out).mono ?_
        rintro e w3 ⟨rfl, hb3⟩
        have HB3 := Lib.hid (HBL.out.trans (hb3.mono (by have := HBL.out.size; simp at this; omega)))
        clear hb3 p0 p1 p2 p3 p4 p5 g0 g4
        have g5 : ¬ 9223372036854775807 < O.size + (mkB ((l[q]'hqn).tb)).size := by have := HTZ.out; omega
        go_wp2_with fail
        go_roundw
        case measure => simp only [intOf]; omega
        case rel => exact ⟨q + 1, by omega, by go_num, by rw [← HST.out], by first | exact HB3.out | exact HB3.out.drew⟩
    · obtain rfl : q = l.length := by omega
      have HST : Hid (O ++ ByteArray.mk #[41] = mkB ((Dm.mk 2 t n r l a).tb)) := Lib.hid (by
        rw [HV.out, HO.out]
        unfold mkB
        apply ByteArray.ext
        simp)
      have g1 : ¬ 9223372036854775807 < O.size + 1 := by omega
      go_wp2_with fail
      go_ret
      exact ⟨by rw [← HST.out]; rfl, HBR.out⟩

set_option maxRecDepth 100000 in
set_option maxHeartbeats 8000000 in
theorem rtext_n3 (t : List Nat) (n : Bool) (r : List Nat) (l : List Dm) (a : Int) (lv : Value) (ao : Option Addr) (cv0 : Nat) (w : World) (xs : List Value) (hrow : RowV w (.slice ao l.length cv0) l.length 6 xs) (hin : ∀ (i : Nat) (h : i < l.length), Lay w (l[i]'h) ((xs.drop (i * 6)).take 6)) (hsz : szs l l.length ≤ 8192) (_h2 : True)
    (hlen : ∀ (j : Nat) (hj : j < l.length), ((l[j]'hj).tb).length + 10 ≤ (l[j]'hj).sz * 6000000)
    (ih : ∀ (j : Nat) (hj : j < l.length) (us : List Value) (w : World), Lay w (l[j]'hj) us → Calls Tryz.prog 18 #[.agg us.toArray] w (RtP (l[j]'hj) w)) :
    Calls Tryz.prog 18 #[.agg #[.int .i64 3, .string (mkB t), .bool n, lv, .slice ao l.length cv0, .int .i64 a]] w (RtP (.mk 3 t n r l a) w) := by
  have HIH := Lib.hid ih
  have HI1 := Lib.hid hin
  have HW1 := Lib.hid hrow
  have HLN := Lib.hid hlen
  have HSZ := Lib.hid hsz
  have HLL : Hid (l.length ≤ 9223372036854775807) := Lib.hid (by have := hrow.2.1; unfold maxLen at this; omega)
  have HPL := Lib.hid (fun i (hi : i ≤ l.length) => preT_len (dot := false) (n := l.length) (g := leafB) (l := l) hlen i hi)
  have HV : Hid ((Dm.mk 3 t n r l a).tb = [35, 40] ++ (preT false l.length (l.map (Dm.tg leafB)) l.length ++ [41])) := Lib.hid (by
    unfold Dm.tb
    rw [tg_node (by omega)]
    unfold lisT
    rw [List.length_map]
    rfl)
  generalize hX : l.map (Dm.tg leafB) = X at *
  have HX : Hid (∀ (i : Nat) (h : i < l.length), X.getD i [] = (l[i]'h).tb) := Lib.hid fun i h => by rw [← hX]; exact getD_map h
  clear ih hin hrow hlen hsz hX
  have HBB := Lib.hid (below1 w (.cells #[.int .i64 3, .string (mkB t), .bool n, lv, .slice ao l.length cv0, .int .i64 a] 27))
  have HQ0 := Lib.hid (box1 w #[.int .i64 3, .string (mkB t), .bool n, lv, .slice ao l.length cv0, .int .i64 a] 27)
  obtain ⟨a0, a1, a2, a3, a4, a5⟩ := row6 HQ0.out
  go_enter Tryz.func18, Tryz.ntmps18
  go_wp2_with fail
  clear a0 a1 a2 a3 a4 a5
  go_loopw [7, 8] (fun v i wr => ∃ q : Nat, q ≤ l.length ∧ i = .int .i64 (q : Nat) ∧ v = .string (mkB ([35, 40] ++ preT false l.length X q)) ∧ Below (w.heap.size + 1) (w.alloc (.cells #[.int .i64 3, .string (mkB t), .bool n, lv, .slice ao l.length cv0, .int .i64 a] 27)) wr) (fun _ i _ => l.length - (intOf i).toNat)
  case atStart => exact ⟨0, Nat.zero_le _, rfl, rfl, Below.refl _ _⟩
  case round =>
    obtain ⟨q, hq, rfl, hv, hbel⟩ := hrel
    obtain ⟨O, hO⟩ : ∃ O, O = mkB ([35, 40] ++ preT false l.length X q) := ⟨_, rfl⟩
    have hz : O.size ≤ 60000000000 := by
      have h1 := HPL.out q hq
      have h3 := szs_le (l := l) hq
      have h4 := HSZ.out
      rw [hO, mkB_size, List.length_append]
      simp only [List.length_cons, List.length_nil]
      omega
    rw [← hO] at hv
    subst hv
    have HO := Lib.hid hO
    have HBL := Lib.hid hbel
    have HBR := Lib.hid (HBB.out.trans (hbel.mono (by omega)))
    obtain ⟨g0, _, _, _, g4, _⟩ := row6 ((hbel.block w.heap.size (by omega)).trans HQ0.out)
    have hmx := HLL.out
    clear hO hbel
    by_cases hqn : q < l.length
    · have hii : ((q : Nat) : Int) < ((l.length : Nat) : Int) := by omega
      obtain ⟨b, off, cap, v0, v1, v2, v3, v4, v5, hav, _, _, hly, p0, p1, p2, p3, p4, p5⟩ := row_datum (HW1.out.below HBR.out) (fun j h => (HI1.out j h).keep HBR.out) hqn
      simp only [Value.slice.injEq, true_and] at hav
      obtain ⟨rfl, rfl⟩ := hav
      have HY1 := Lib.hid hly
      obtain ⟨_, _, _, e1, _⟩ := hly.open'
      clear hly e1
      have HTZ : Hid ((mkB ((l[q]'hqn).tb)).size ≤ 60000000000) := Lib.hid (by
        have h1 := HLN.out q hqn
        have h3 : (l[q]'hqn).sz ≤ szs l l.length := by
          have e := szs_succ (l := l) hqn
          have := szs_mono (l := l) (i := q + 1) (j := l.length) (by omega) (Nat.le_refl _)
          omega
        have h4 := HSZ.out
        rw [mkB_size]
        omega)
      have g1 : ¬ 9223372036854775807 < O.size + 1 := by omega
      have g2 : ¬ 9223372036854775807 < O.size + 1 + 2 := by omega
      have HPS := Lib.hid (preT_succ false l.length X q)
      by_cases hq0 : 0 < q
      · have hqi : (0 : Int) < ((q : Nat) : Int) := by omega
        have HSP : Hid (sepT false l.length q = [32]) := Lib.hid (by unfold sepT; rw [if_pos (by omega), if_neg (by rintro ⟨h, _⟩; cases h)]; rfl)
        have HST : Hid (O ++ ByteArray.mk #[32] ++ mkB ((l[q]'hqn).tb) = mkB ([35, 40] ++ preT false l.length X (q + 1))) := Lib.hid (by
          rw [HPS.out, HSP.out, HX.out q hqn, HO.out]
          unfold mkB
          apply ByteArray.ext
          simp)
        clear hq0
        go_wp2_with fail
        refine (HIH.out q hqn [v0, v1, v2, v3, v4, v5] _ HY1.out).mono ?_
        rintro e w3 ⟨rfl, hb3⟩
        have HB3 := Lib.hid (HBL.out.trans (hb3.mono (by have := HBL.out.size; simp at this; omega)))
        clear hb3 p0 p1 p2 p3 p4 p5 g0 g4
        have g5 : ¬ 9223372036854775807 < O.size + 1 + (mkB ((l[q]'hqn).tb)).size := by have := HTZ.out; omega
        go_wp2_with fail
        go_roundw
        case measure => simp only [intOf]; omega
        case rel => exact ⟨q + 1, by omega, by go_num, by rw [← HST.out], by first | exact HB3.out | exact HB3.out.drew⟩
      · have hqi : ¬ (0 : Int) < ((q : Nat) : Int) := by omega
        have HSP : Hid (sepT false l.length q = []) := Lib.hid (by unfold sepT; rw [if_neg (by omega), if_neg (by rintro ⟨h, _⟩; cases h)]; rfl)
        have HST : Hid (O ++ mkB ((l[q]'hqn).tb) = mkB ([35, 40] ++ preT false l.length X (q + 1))) := Lib.hid (by
          rw [HPS.out, HSP.out, HX.out q hqn, HO.out]
          unfold mkB
          apply ByteArray.ext
          simp)
        clear hq0
        go_wp2_with fail
        refine (HIH.out q hqn [v0, v1, v2, v3, v4, v5] _ HY1.out).mono ?_
        rintro e w3 ⟨rfl, hb3⟩
        have HB3 := Lib.hid (HBL.out.trans (hb3.mono (by have := HBL.out.size; simp at this; omega)))
        clear hb3 p0 p1 p2 p3 p4 p5 g0 g4
        have g5 : ¬ 9223372036854775807 < O.size + (mkB ((l[q]'hqn).tb)).size := by have := HTZ.out; omega
        go_wp2_with fail
        go_roundw
        case measure => simp only [intOf]; omega
        case rel => exact ⟨q + 1, by omega, by go_num, by rw [← HST.out], by first | exact HB3.out | exact HB3.out.drew⟩
    · obtain rfl : q = l.length := by omega
      have HST : Hid (O ++ ByteArray.mk #[41] = mkB ((Dm.mk 3 t n r l a).tb)) := Lib.hid (by
        rw [HV.out, HO.out]
        unfold mkB
        apply ByteArray.ext
        simp)
      have g1 : ¬ 9223372036854775807 < O.size + 1 := by omega
      go_wp2_with fail
      go_ret
      exact ⟨by rw [← HST.out]; rfl, HBR.out⟩

theorem rtext_dm : ∀ (m : Nat) (D : Dm), D.sz ≤ m → ∀ f, okD f D = true → Sm 1100000 D → D.sz ≤ 8192 → ∀ (us : List Value) (w : World), Lay w D us → Calls Tryz.prog 18 #[.agg us.toArray] w (RtP D w) := by
  intro m
  induction m with
  | zero => intro D h; have := sz_pos D; omega
  | succ m ih =>
    intro D hm f hok hsm hs us w h1
    obtain ⟨k, t, n, r, l, a⟩ := D
    obtain ⟨ht, hr, hl, hin⟩ := hsm.open'
    obtain ⟨lv, av, xs, rfl, hby, hlt, hlim, hsl, hrow, hla⟩ := h1.open'
    simp only [Dm.k, Dm.t, Dm.n, Dm.a, Dm.l, Dm.r] at *
    obtain ⟨ao, cv0, rfl⟩ : ∃ o c, av = .slice o l.length c := by obtain ⟨_, _, o, c, h, _⟩ := hrow; exact ⟨o, c, h⟩
    by_cases hk : k = 1 ∨ k = 2 ∨ k = 3
    · obtain ⟨f', _, _, _, _, he, hall⟩ := okD_parts hok hk
      have hszl : ∀ (j : Nat) (hj : j < l.length), (l[j]'hj).sz < (Dm.mk k t n r l a).sz := fun j hj => Dm.sz_mem (d := .mk k t n r l a) (x := l[j]'hj) (List.getElem_mem hj)
      have hz : szs l l.length ≤ 8192 := by have e := @sz_node k t n r l a; omega
      have hln : ∀ (j : Nat) (hj : j < l.length), ((l[j]'hj).tb).length + 10 ≤ (l[j]'hj).sz * 6000000 := fun j hj => tb_len (Nat.le_refl _) _ _ (Nat.le_refl _) f' (hall j hj) (hin j hj)
      have hih : ∀ (j : Nat) (hj : j < l.length) (us : List Value) (w : World), Lay w (l[j]'hj) us → Calls Tryz.prog 18 #[.agg us.toArray] w (RtP (l[j]'hj) w) := fun j hj us w h => ih _ (by have := hszl j hj; omega) f' (hall j hj) (hin j hj) (by have := hszl j hj; omega) us w h
      rcases hk with rfl | rfl | rfl
      · exact rtext_n1 t n r l a lv ao cv0 w xs hrow hla hz trivial hln hih
      · have h2 : 2 ≤ l.length := by
          unfold endA at he
          rw [if_pos rfl] at he
          cases hlx : l.getLast? with
          | none => rw [hlx] at he; cases he
          | some x =>
            rw [hlx] at he
            simp only [Bool.and_eq_true, decide_eq_true_iff] at he
            exact he.1
        exact rtext_n2 t n r l a lv ao cv0 w xs hrow hla hz h2 hln hih
      · exact rtext_n3 t n r l a lv ao cv0 w xs hrow hla hz trivial hln hih
    · obtain ⟨rfl, h⟩ := leafAny hok hk
      exact rtext_leaf k t n r a _ lv ao cv0 w h hby ht hlim hsl
end Go.Proofs.YtpahfhjgcflifaaGreatDoor
namespace Go.Proofs.YtpahfhjgcflifaaGreatDoor
open Go.RowKit

set_option maxRecDepth 100000 in
set_option maxHeartbeats 4000000 in
theorem rothers_any : ∀ (m : Nat) (D : Dm), D.sz ≤ m → ∀ (us : List Value) (w : World), Lay w D us → Calls Tryz.prog 20 #[.agg us.toArray] w fun e w' => e = .returned (.bool (hasK 11 D)) ∧ Below w.heap.size w w' := by
  intro m
  induction m with
  | zero => intro D h; have := sz_pos D; omega
  | succ m ih =>
    intro D hsz us w h1
    have HIH := Lib.hid ih
    clear ih
    obtain ⟨k, t, n, r, l, a⟩ := D
    have HSZ : Hid (∀ (j : Nat) (h : j < l.length), (l[j]'h).sz ≤ m) := Lib.hid fun j h => by
      have := Dm.sz_mem (d := .mk k t n r l a) (x := l[j]'h) (List.getElem_mem h)
      omega
    obtain ⟨lv, av, xs, rfl, _, _, _, _, hrow1, hin1⟩ := h1.open'
    simp only [Dm.l] at hrow1 hin1
    simp only [Dm.k, Dm.t, Dm.n, Dm.a]
    have HI1 := Lib.hid hin1
    have HW1 := Lib.hid hrow1
    obtain ⟨ao, cv0, rfl⟩ : ∃ o c, av = .slice o l.length c := by obtain ⟨_, _, o, c, h, _⟩ := hrow1; exact ⟨o, c, h⟩
    clear h1 hrow1 hin1 hsz
    have hbb := below1 w (.cells #[.int .i64 k, .string (mkB t), .bool n, lv, .slice ao l.length cv0, .int .i64 a] 27)
    have r0 := box1 w #[.int .i64 k, .string (mkB t), .bool n, lv, .slice ao l.length cv0, .int .i64 a] 27
    have HBB := Lib.hid hbb
    have HQ0 := Lib.hid r0
    clear hbb r0
    have HLL : Hid (l.length ≤ 9223372036854775807) := Lib.hid (by have := HW1.out.2.1; unfold maxLen at this; omega)
    have HV := Lib.hid (hasK_mk 11 k t n r l a)
    show Calls Tryz.prog 20 #[.agg #[.int .i64 k, .string (mkB t), .bool n, lv, .slice ao l.length cv0, .int .i64 a]] w _
    go_enter Tryz.func20, Tryz.ntmps20
    go_wp2_with fail
    go_loopw [3] (fun v wr => ∃ i : Nat, i ≤ l.length ∧ v = .int .i64 (i : Nat) ∧ (∀ (j : Nat) (h : j < l.length), j < i → hasK 11 (l[j]'h) = false) ∧ Below (w.heap.size + 1) (w.alloc (.cells #[.int .i64 k, .string (mkB t), .bool n, lv, .slice ao l.length cv0, .int .i64 a] 27)) wr) (fun v _ => l.length - (intOf v).toNat)
    case atStart => exact ⟨0, Nat.zero_le _, rfl, fun j _ h => by omega, Below.refl _ _⟩
    case round =>
      obtain ⟨i, hi, rfl, hall, hbel⟩ := hrel
      have hmx := HLL.out
      have HALL := Lib.hid hall
      have HBL := Lib.hid hbel
      have HBR := Lib.hid (HBB.out.trans (hbel.mono (by omega)))
      obtain ⟨g0, _, _, _, g4, _⟩ := row6 ((hbel.block w.heap.size (by omega)).trans HQ0.out)
      clear hall hbel
      by_cases hin : i < l.length
      · have hii : ((i : Nat) : Int) < ((l.length : Nat) : Int) := by omega
        obtain ⟨b, off, cap, v0, v1, v2, v3, v4, v5, hav, _, _, hly, p0, p1, p2, p3, p4, p5⟩ := row_datum (HW1.out.below HBR.out) (fun j h => (HI1.out j h).keep HBR.out) hin
        simp only [Value.slice.injEq, true_and] at hav
        obtain ⟨rfl, rfl⟩ := hav
        have HY1 := Lib.hid hly
        obtain ⟨_, _, _, e1, _⟩ := hly.open'
        clear hly e1
        go_wp2_with fail
        clear p0 p1 p2 p3 p4 p5 g0 g4
        refine (HIH.out (l[i]'hin) (HSZ.out i hin) [v0, v1, v2, v3, v4, v5] _ HY1.out).mono ?_
        rintro e w3 ⟨rfl, hb3⟩
        have HB3 := Lib.hid (HBL.out.trans (hb3.mono (by have := HBL.out.size; simp at this; omega)))
        clear hb3
        cases hs : hasK 11 (l[i]'hin) with
        | true =>
          have HNO : Hid (hasK 11 (.mk k t n r l a) = true) := Lib.hid (by
            rw [HV.out]
            have : l.any (hasK 11) = true := List.any_eq_true.2 ⟨_, List.getElem_mem hin, hs⟩
            rw [this, Bool.or_true])
          clear hs
          go_wp2_with fail
          go_ret
          exact ⟨by rw [HNO.out]; rfl, HBB.out.trans (HB3.out.mono (by omega))⟩
        | false =>
          have HS := Lib.hid hs
          clear hs
          go_wp2_with fail
          go_roundw
          case measure => simp only [intOf]; omega
          case rel =>
            refine ⟨i + 1, by omega, by go_num, fun j h hj => ?_, HB3.out⟩
            rcases Nat.lt_or_eq_of_le (Nat.le_of_lt_succ hj) with h2 | h2
            · exact HALL.out j h h2
            · subst h2; exact HS.out
      · obtain rfl : i = l.length := by omega
        have HYES : Hid (hasK 11 (.mk k t n r l a) = decide (k = 11)) := Lib.hid (by
          rw [HV.out]
          have : l.any (hasK 11) = false := by
            rw [List.any_eq_false]
            intro x hx
            obtain ⟨j, hj, rfl⟩ := List.mem_iff_getElem.1 hx
            rw [HALL.out j hj hj]
            simp
          rw [this, Bool.or_false])
        by_cases hk : k = 11
        · have hk2 : (k == 11) = true := by rw [hk]; rfl
          have HD : Hid (decide (k = 11) = true) := Lib.hid (by rw [hk]; rfl)
          clear hk
          go_wp2_with fail
          go_ret
          exact ⟨by rw [HYES.out, HD.out]; rfl, HBR.out⟩
        · have hk2 : (k == 11) = false := by rw [beq_eq_false_iff_ne]; exact hk
          have HD : Hid (decide (k = 11) = false) := Lib.hid (by rw [decide_eq_false_iff_not]; exact hk)
          clear hk
          go_wp2_with fail
          go_ret
          exact ⟨by rw [HYES.out, HD.out]; rfl, HBR.out⟩

set_option maxRecDepth 100000 in
set_option maxHeartbeats 4000000 in
theorem rvoids_any : ∀ (m : Nat) (D : Dm), D.sz ≤ m → ∀ (us : List Value) (w : World), Lay w D us → Calls Tryz.prog 21 #[.agg us.toArray] w fun e w' => e = .returned (.bool (hasK 10 D)) ∧ Below w.heap.size w w' := by
  intro m
  induction m with
  | zero => intro D h; have := sz_pos D; omega
  | succ m ih =>
    intro D hsz us w h1
    have HIH := Lib.hid ih
    clear ih
    obtain ⟨k, t, n, r, l, a⟩ := D
    have HSZ : Hid (∀ (j : Nat) (h : j < l.length), (l[j]'h).sz ≤ m) := Lib.hid fun j h => by
      have := Dm.sz_mem (d := .mk k t n r l a) (x := l[j]'h) (List.getElem_mem h)
      omega
    obtain ⟨lv, av, xs, rfl, _, _, _, _, hrow1, hin1⟩ := h1.open'
    simp only [Dm.l] at hrow1 hin1
    simp only [Dm.k, Dm.t, Dm.n, Dm.a]
    have HI1 := Lib.hid hin1
    have HW1 := Lib.hid hrow1
    obtain ⟨ao, cv0, rfl⟩ : ∃ o c, av = .slice o l.length c := by obtain ⟨_, _, o, c, h, _⟩ := hrow1; exact ⟨o, c, h⟩
    clear h1 hrow1 hin1 hsz
    have hbb := below1 w (.cells #[.int .i64 k, .string (mkB t), .bool n, lv, .slice ao l.length cv0, .int .i64 a] 27)
    have r0 := box1 w #[.int .i64 k, .string (mkB t), .bool n, lv, .slice ao l.length cv0, .int .i64 a] 27
    have HBB := Lib.hid hbb
    have HQ0 := Lib.hid r0
    clear hbb r0
    have HLL : Hid (l.length ≤ 9223372036854775807) := Lib.hid (by have := HW1.out.2.1; unfold maxLen at this; omega)
    have HV := Lib.hid (hasK_mk 10 k t n r l a)
    show Calls Tryz.prog 21 #[.agg #[.int .i64 k, .string (mkB t), .bool n, lv, .slice ao l.length cv0, .int .i64 a]] w _
    go_enter Tryz.func21, Tryz.ntmps21
    go_wp2_with fail
    go_loopw [3] (fun v wr => ∃ i : Nat, i ≤ l.length ∧ v = .int .i64 (i : Nat) ∧ (∀ (j : Nat) (h : j < l.length), j < i → hasK 10 (l[j]'h) = false) ∧ Below (w.heap.size + 1) (w.alloc (.cells #[.int .i64 k, .string (mkB t), .bool n, lv, .slice ao l.length cv0, .int .i64 a] 27)) wr) (fun v _ => l.length - (intOf v).toNat)
    case atStart => exact ⟨0, Nat.zero_le _, rfl, fun j _ h => by omega, Below.refl _ _⟩
    case round =>
      obtain ⟨i, hi, rfl, hall, hbel⟩ := hrel
      have hmx := HLL.out
      have HALL := Lib.hid hall
      have HBL := Lib.hid hbel
      have HBR := Lib.hid (HBB.out.trans (hbel.mono (by omega)))
      obtain ⟨g0, _, _, _, g4, _⟩ := row6 ((hbel.block w.heap.size (by omega)).trans HQ0.out)
      clear hall hbel
      by_cases hin : i < l.length
      · have hii : ((i : Nat) : Int) < ((l.length : Nat) : Int) := by omega
        obtain ⟨b, off, cap, v0, v1, v2, v3, v4, v5, hav, _, _, hly, p0, p1, p2, p3, p4, p5⟩ := row_datum (HW1.out.below HBR.out) (fun j h => (HI1.out j h).keep HBR.out) hin
        simp only [Value.slice.injEq, true_and] at hav
        obtain ⟨rfl, rfl⟩ := hav
        have HY1 := Lib.hid hly
        obtain ⟨_, _, _, e1, _⟩ := hly.open'
        clear hly e1
        go_wp2_with fail
        clear p0 p1 p2 p3 p4 p5 g0 g4
        refine (HIH.out (l[i]'hin) (HSZ.out i hin) [v0, v1, v2, v3, v4, v5] _ HY1.out).mono ?_
        rintro e w3 ⟨rfl, hb3⟩
        have HB3 := Lib.hid (HBL.out.trans (hb3.mono (by have := HBL.out.size; simp at this; omega)))
        clear hb3
        cases hs : hasK 10 (l[i]'hin) with
        | true =>
          have HNO : Hid (hasK 10 (.mk k t n r l a) = true) := Lib.hid (by
            rw [HV.out]
            have : l.any (hasK 10) = true := List.any_eq_true.2 ⟨_, List.getElem_mem hin, hs⟩
            rw [this, Bool.or_true])
          clear hs
          go_wp2_with fail
          go_ret
          exact ⟨by rw [HNO.out]; rfl, HBB.out.trans (HB3.out.mono (by omega))⟩
        | false =>
          have HS := Lib.hid hs
          clear hs
          go_wp2_with fail
          go_roundw
          case measure => simp only [intOf]; omega
          case rel =>
            refine ⟨i + 1, by omega, by go_num, fun j h hj => ?_, HB3.out⟩
            rcases Nat.lt_or_eq_of_le (Nat.le_of_lt_succ hj) with h2 | h2
            · exact HALL.out j h h2
            · subst h2; exact HS.out
      · obtain rfl : i = l.length := by omega
        have HYES : Hid (hasK 10 (.mk k t n r l a) = decide (k = 10)) := Lib.hid (by
          rw [HV.out]
          have : l.any (hasK 10) = false := by
            rw [List.any_eq_false]
            intro x hx
            obtain ⟨j, hj, rfl⟩ := List.mem_iff_getElem.1 hx
            rw [HALL.out j hj hj]
            simp
          rw [this, Bool.or_false])
        by_cases hk : k = 10
        · have hk2 : (k == 10) = true := by rw [hk]; rfl
          have HD : Hid (decide (k = 10) = true) := Lib.hid (by rw [hk]; rfl)
          clear hk
          go_wp2_with fail
          go_ret
          exact ⟨by rw [HYES.out, HD.out]; rfl, HBR.out⟩
        · have hk2 : (k == 10) = false := by rw [beq_eq_false_iff_ne]; exact hk
          have HD : Hid (decide (k = 10) = false) := Lib.hid (by rw [decide_eq_false_iff_not]; exact hk)
          clear hk
          go_wp2_with fail
          go_ret
          exact ⟨by rw [HYES.out, HD.out]; rfl, HBR.out⟩
end Go.Proofs.YtpahfhjgcflifaaGreatDoor
