/- ref.Text of datums. | ref.Text of leaves. | ref.Text of lists and of all datums. | ref.Others, ref.Voids of datums. -/
import Derived.Test.YtpahfhjgcflifaaGreatDoorTx
import Derived.Test.YtpahfhjgcflifaaGreatDoorRdLight
import Derived.Test.YtpahfhjgcflifaaGreatDoorTkRQuo
namespace Go.Proofs.YtpahfhjgcflifaaGreatDoor
open Go.RowKit

/-- What a leaf that may be is, a Void or Other among them. -/
theorem leafAny {g : Nat} {k : Int} {t : List Nat} {n : Bool} {r : List Nat} {l : List Dm} {a : Int} (h : okD g (.mk k t n r l a) = true) (hk : ¬ (k = 1 ∨ k = 2 ∨ k = 3)) :
    l = [] ∧ (k = 4 ∨ k = 5 ∨ (k = 6 ∧ ∃ c, chars t 0 = ([c], none)) ∨ (k = 7 ∧ Snd n r) ∨ k = 8 ∨ k = 9 ∨ k = 10 ∨ k = 11) := by
  by_cases h10 : k = 10
  · cases g with
    | zero => rw [okD_zero] at h; cases h
    | succ g =>
      rw [okD_leaf hk (by omega)] at h
      simp only [Bool.and_eq_true, decide_eq_true_iff] at h
      exact ⟨List.eq_nil_of_length_eq_zero h.2, by simp [h10]⟩
  by_cases h11 : k = 11
  · cases g with
    | zero => rw [okD_zero] at h; cases h
    | succ g =>
      rw [okD_leaf hk (by omega)] at h
      simp only [Bool.and_eq_true, decide_eq_true_iff] at h
      exact ⟨List.eq_nil_of_length_eq_zero h.2, by simp [h11]⟩
  obtain ⟨h1, h2⟩ := leaf_parts h hk h10 h11
  refine ⟨h1, ?_⟩
  rcases h2 with ⟨rfl, _, hs⟩ | ⟨_, _, h2⟩
  · exact .inr (.inr (.inr (.inl ⟨rfl, hs⟩)))
  · rcases h2 with ⟨rfl, _⟩ | ⟨rfl, _⟩ | ⟨rfl, hc⟩ | ⟨rfl, _⟩ | ⟨rfl, _⟩
    · exact .inl rfl
    · exact .inr (.inl rfl)
    · exact .inr (.inr (.inl ⟨rfl, hc⟩))
    · simp
    · simp
theorem nameA_low : ∀ c : Fin 128, (nameA c.val).length ≤ 10 := by decide +kernel
theorem nameA_len (c : Nat) : (nameA c).length ≤ 10 := by
  by_cases h : c < 128
  · exact nameA_low ⟨c, h⟩
  · rw [← nm_enc]
    unfold nmL
    rw [if_neg h]
    have e : encL [c] = encN c := by simp [encL]
    rw [e, encN_len]
    have := (blen_le c).2
    omega
theorem preT_len {dot : Bool} {n : Nat} {l : List Dm} {g : Int → List Nat → Bool → List Nat → List Nat} (h : ∀ (j : Nat) (hj : j < l.length), ((l[j]'hj).tg g).length + 10 ≤ (l[j]'hj).sz * 6000000) : ∀ i, i ≤ l.length → (preT dot n (l.map (Dm.tg g)) i).length ≤ szs l i * 6000000 := by
  intro i
  induction i with
  | zero => intro _; exact Nat.zero_le _
  | succ i ih =>
    intro hi
    have h1 := ih (by omega)
    have h2 := h i (by omega)
    have e : (l.map (Dm.tg g)).getD i [] = (l[i]'(by omega)).tg g := getD_map (by omega)
    have h3 : (sepT dot n i).length ≤ 3 := by unfold sepT; split <;> split <;> simp
    rw [preT_succ, List.length_append, List.length_append, e, szs_succ (by omega), Nat.add_mul]
    omega
theorem tb_len {N : Nat} (hN : N ≤ 1100000) : ∀ (m : Nat) (D : Dm), D.sz ≤ m → ∀ g, okD g D = true → Sm N D → D.tb.length + 10 ≤ D.sz * 6000000 := by
  intro m
  induction m with
  | zero => intro D h; have := sz_pos D; omega
  | succ m ih =>
    intro D hm g hok hsm
    obtain ⟨k, t, n, r, l, a⟩ := D
    obtain ⟨ht, hr, hl, hin⟩ := hsm.open'
    unfold Dm.tb
    by_cases hk : k = 1 ∨ k = 2 ∨ k = 3
    · obtain ⟨f, _, _, _, _, _, hall⟩ := okD_parts hok hk
      rw [tg_node hk, sz_node]
      have h1 := preT_len (dot := decide (k = 2)) (n := l.length) (g := leafB) (l := l) (fun j hj => ih _ (by
        have := Dm.sz_mem (d := .mk k t n r l a) (x := l[j]'hj) (List.getElem_mem hj)
        omega) f (hall j hj) (hin j hj)) l.length (Nat.le_refl _)
      have h2 : (hdT k).length ≤ 2 := by unfold hdT; split <;> simp
      unfold lisT
      rw [List.length_append, List.length_append, List.length_map, Nat.add_mul]
      simp only [List.length_singleton]
      omega
    · obtain ⟨rfl, h⟩ := leafAny hok hk
      rw [tg_leaf hk, leaf_sz]
      rcases h with rfl | rfl | ⟨rfl, c, hc⟩ | ⟨rfl, hs⟩ | rfl | rfl | rfl | rfl
      · show t.length + 10 ≤ _; omega
      · show (quoT t).length + 10 ≤ _
        have := esc_len t
        simp only [quoT, List.length_cons, List.length_append, List.length_nil]
        omega
      · show (35 :: 92 :: nameA (limb (chA t).1 0)).length + 10 ≤ _
        have := nameA_len (limb (chA t).1 0)
        simp only [List.length_cons]
        omega
      · show (numT n r).length + 10 ≤ _
        have := (txt_short hs).2
        unfold numT
        rw [List.length_map]
        omega
      · show ([35, 116] : List Nat).length + 10 ≤ _; simp
      · show ([35, 102] : List Nat).length + 10 ≤ _; simp
      · show ([35, 60, 118, 111, 105, 100, 62] : List Nat).length + 10 ≤ _; simp
      · show (35 :: 60 :: (t ++ [62])).length + 10 ≤ _
        simp only [List.length_cons, List.length_append, List.length_nil]
        omega
theorem mkB_chr (t : List Nat) : ByteArray.mk #[35, 92] ++ mkB t = mkB (35 :: 92 :: t) := by
  unfold mkB
  apply ByteArray.ext
  simp
end Go.Proofs.YtpahfhjgcflifaaGreatDoor
namespace Go.Proofs.YtpahfhjgcflifaaGreatDoor
open Go.RowKit

end Go.Proofs.YtpahfhjgcflifaaGreatDoor
namespace Go.Proofs.YtpahfhjgcflifaaGreatDoor
open Go.RowKit

end Go.Proofs.YtpahfhjgcflifaaGreatDoor
namespace Go.Proofs.YtpahfhjgcflifaaGreatDoor
open Go.RowKit

set_option maxRecDepth 100000 in
set_option maxHeartbeats 4000000 in
theorem rothers_any : ∀ (m : Nat) (D : Dm), D.sz ≤ m → ∀ (us : List Value) (w : World), Lay w D us → Calls Tryz.prog 20 #[.agg us.toArray] w fun e w' => e = .returned (.bool (hasK 11 D)) ∧ Below w.heap.size w w' := by
  intro m
  induction m with
  | zero => intro D h; have := sz_pos D; omega
  | succ m ih =>
    intro D hsz us w h1
    have HIH := Lib.hid ih
    clear ih
    obtain ⟨k, t, n, r, l, a⟩ := D
    have HSZ : Hid (∀ (j : Nat) (h : j < l.length), (l[j]'h).sz ≤ m) := Lib.hid fun j h => by
      have := Dm.sz_mem (d := .mk k t n r l a) (x := l[j]'h) (List.getElem_mem h)
      omega
    obtain ⟨lv, av, xs, rfl, _, _, _, _, hrow1, hin1⟩ := h1.open'
    simp only [Dm.l] at hrow1 hin1
    simp only [Dm.k, Dm.t, Dm.n, Dm.a]
    have HI1 := Lib.hid hin1
    have HW1 := Lib.hid hrow1
    obtain ⟨ao, cv0, rfl⟩ : ∃ o c, av = .slice o l.length c := by obtain ⟨_, _, o, c, h, _⟩ := hrow1; exact ⟨o, c, h⟩
    clear h1 hrow1 hin1 hsz
    have hbb := below1 w (.cells #[.int .i64 k, .string (mkB t), .bool n, lv, .slice ao l.length cv0, .int .i64 a] 27)
    have r0 := box1 w #[.int .i64 k, .string (mkB t), .bool n, lv, .slice ao l.length cv0, .int .i64 a] 27
    have HBB := Lib.hid hbb
    have HQ0 := Lib.hid r0
    clear hbb r0
    have HLL : Hid (l.length ≤ 9223372036854775807) := Lib.hid (by have := HW1.out.2.1; unfold maxLen at this; omega)
    have HV := Lib.hid (hasK_mk 11 k t n r l a)
    show Calls Tryz.prog 20 #[.agg #[.int .i64 k, .string (mkB t), .bool n, lv, .slice ao l.length cv0, .int .i64 a]] w _
    go_enter Tryz.func20, Tryz.ntmps20
    go_wp2_with fail
    go_loopw [3] (fun v wr => ∃ i : Nat, i ≤ l.length ∧ v = .int .i64 (i : Nat) ∧ (∀ (j : Nat) (h : j < l.length), j < i → hasK 11 (l[j]'h) = false) ∧ Below (w.heap.size + 1) (w.alloc (.cells #[.int .i64 k, .string (mkB t), .bool n, lv, .slice ao l.length cv0, .int .i64 a] 27)) wr) (fun v _ => l.length - (intOf v).toNat)
    case atStart => exact ⟨0, Nat.zero_le _, rfl, fun j _ h => by omega, Below.refl _ _⟩
    case round =>
      obtain ⟨i, hi, rfl, hall, hbel⟩ := hrel
      have hmx := HLL.out
      have HALL := Lib.hid hall
      have HBL := Lib.hid hbel
      have HBR := Lib.hid (HBB.out.trans (hbel.mono (by omega)))
      obtain ⟨g0, _, _, _, g4, _⟩ := row6 ((hbel.block w.heap.size (by omega)).trans HQ0.out)
      clear hall hbel
      by_cases hin : i < l.length
      · have hii : ((i : Nat) : Int) < ((l.length : Nat) : Int) := by omega
        obtain ⟨b, off, cap, v0, v1, v2, v3, v4, v5, hav, _, _, hly, p0, p1, p2, p3, p4, p5⟩ := row_datum (HW1.out.below HBR.out) (fun j h => (HI1.out j h).keep HBR.out) hin
        simp only [Value.slice.injEq, true_and] at hav
        obtain ⟨rfl, rfl⟩ := hav
        have HY1 := Lib.hid hly
        obtain ⟨_, _, _, e1, _⟩ := hly.open'
        clear hly e1
        go_wp2_with fail
        clear p0 p1 p2 p3 p4 p5 g0 g4
        refine (HIH.out (l[i]'hin) (HSZ.out i hin) [v0, v1, v2, v3, v4, v5] _ HY1.out).mono ?_
        rintro e w3 ⟨rfl, hb3⟩
        have HB3 := Lib.hid (HBL.out.trans (hb3.mono (by have := HBL.out.size; simp at this; omega)))
        clear hb3
        cases hs : hasK 11 (l[i]'hin) with
        | true =>
          have HNO : Hid (hasK 11 (.mk k t n r l a) = true) := Lib.hid (by
            rw [HV.out]
            have : l.any (hasK 11) = true := List.any_eq_true.2 ⟨_, List.getElem_mem hin, hs⟩
            rw [this, Bool.or_true])
          clear hs
          go_wp2_with fail
          go_ret
          exact ⟨by rw [HNO.out]; rfl, HBB.out.trans (HB3.out.mono (by omega))⟩
        | false =>
          have HS := Lib.hid hs
          clear hs
          go_wp2_with fail
          go_roundw
          case measure => simp only [intOf]; omega
          case rel =>
            refine ⟨i + 1, by omega, by go_num, fun j h hj => ?_, HB3.out⟩
            rcases Nat.lt_or_eq_of_le (Nat.le_of_lt_succ hj) with h2 | h2
            · exact HALL.out j h h2
            · subst h2; exact HS.out
      · obtain rfl : i = l.length := by omega
        have HYES : Hid (hasK 11 (.mk k t n r l a) = decide (k = 11)) := Lib.hid (by
          rw [HV.out]
          have : l.any (hasK 11) = false := by
            rw [List.any_eq_false]
            intro x hx
            obtain ⟨j, hj, rfl⟩ := List.mem_iff_getElem.1 hx
            rw [HALL.out j hj hj]
            simp
          rw [this, Bool.or_false])
        by_cases hk : k = 11
        · have hk2 : (k == 11) = true := by rw [hk]; rfl
          have HD : Hid (decide (k = 11) = true) := Lib.hid (by rw [hk]; rfl)
          clear hk
          go_wp2_with fail
          go_ret
          exact ⟨by rw [HYES.out, HD.out]; rfl, HBR.out⟩
        · have hk2 : (k == 11) = false := by rw [beq_eq_false_iff_ne]; exact hk
          have HD : Hid (decide (k = 11) = false) := Lib.hid (by rw [decide_eq_false_iff_not]; exact hk)
          clear hk
          go_wp2_with fail
          go_ret
          exact ⟨by rw [HYES.out, HD.out]; rfl, HBR.out⟩

set_option maxRecDepth 100000 in
set_option maxHeartbeats 4000000 in
theorem rvoids_any : ∀ (m : Nat) (D : Dm), D.sz ≤ m → ∀ (us : List Value) (w : World), Lay w D us → Calls Tryz.prog 21 #[.agg us.toArray] w fun e w' => e = .returned (.bool (hasK 10 D)) ∧ Below w.heap.size w w' := by
  intro m
  induction m with
  | zero => intro D h; have := sz_pos D; omega
  | succ m ih =>
    intro D hsz us w h1
    have HIH := Lib.hid ih
    clear ih
    obtain ⟨k, t, n, r, l, a⟩ := D
    have HSZ : Hid (∀ (j : Nat) (h : j < l.length), (l[j]'h).sz ≤ m) := Lib.hid fun j h => by
      have := Dm.sz_mem (d := .mk k t n r l a) (x := l[j]'h) (List.getElem_mem h)
      omega
    obtain ⟨lv, av, xs, rfl, _, _, _, _, hrow1, hin1⟩ := h1.open'
    simp only [Dm.l] at hrow1 hin1
    simp only [Dm.k, Dm.t, Dm.n, Dm.a]
    have HI1 := Lib.hid hin1
    have HW1 := Lib.hid hrow1
    obtain ⟨ao, cv0, rfl⟩ : ∃ o c, av = .slice o l.length c := by obtain ⟨_, _, o, c, h, _⟩ := hrow1; exact ⟨o, c, h⟩
    clear h1 hrow1 hin1 hsz
    have hbb := below1 w (.cells #[.int .i64 k, .string (mkB t), .bool n, lv, .slice ao l.length cv0, .int .i64 a] 27)
    have r0 := box1 w #[.int .i64 k, .string (mkB t), .bool n, lv, .slice ao l.length cv0, .int .i64 a] 27
    have HBB := Lib.hid hbb
    have HQ0 := Lib.hid r0
    clear hbb r0
    have HLL : Hid (l.length ≤ 9223372036854775807) := Lib.hid (by have := HW1.out.2.1; unfold maxLen at this; omega)
    have HV := Lib.hid (hasK_mk 10 k t n r l a)
    show Calls Tryz.prog 21 #[.agg #[.int .i64 k, .string (mkB t), .bool n, lv, .slice ao l.length cv0, .int .i64 a]] w _
    go_enter Tryz.func21, Tryz.ntmps21
    go_wp2_with fail
    go_loopw [3] (fun v wr => ∃ i : Nat, i ≤ l.length ∧ v = .int .i64 (i : Nat) ∧ (∀ (j : Nat) (h : j < l.length), j < i → hasK 10 (l[j]'h) = false) ∧ Below (w.heap.size + 1) (w.alloc (.cells #[.int .i64 k, .string (mkB t), .bool n, lv, .slice ao l.length cv0, .int .i64 a] 27)) wr) (fun v _ => l.length - (intOf v).toNat)
    case atStart => exact ⟨0, Nat.zero_le _, rfl, fun j _ h => by omega, Below.refl _ _⟩
    case round =>
      obtain ⟨i, hi, rfl, hall, hbel⟩ := hrel
      have hmx := HLL.out
      have HALL := Lib.hid hall
      have HBL := Lib.hid hbel
      have HBR := Lib.hid (HBB.out.trans (hbel.mono (by omega)))
      obtain ⟨g0, _, _, _, g4, _⟩ := row6 ((hbel.block w.heap.size (by omega)).trans HQ0.out)
      clear hall hbel
      by_cases hin : i < l.length
      · have hii : ((i : Nat) : Int) < ((l.length : Nat) : Int) := by omega
        obtain ⟨b, off, cap, v0, v1, v2, v3, v4, v5, hav, _, _, hly, p0, p1, p2, p3, p4, p5⟩ := row_datum (HW1.out.below HBR.out) (fun j h => (HI1.out j h).keep HBR.out) hin
        simp only [Value.slice.injEq, true_and] at hav
        obtain ⟨rfl, rfl⟩ := hav
        have HY1 := Lib.hid hly
        obtain ⟨_, _, _, e1, _⟩ := hly.open'
        clear hly e1
        go_wp2_with fail
        clear p0 p1 p2 p3 p4 p5 g0 g4
        refine (HIH.out (l[i]'hin) (HSZ.out i hin) [v0, v1, v2, v3, v4, v5] _ HY1.out).mono ?_
        rintro e w3 ⟨rfl, hb3⟩
        have HB3 := Lib.hid (HBL.out.trans (hb3.mono (by have := HBL.out.size; simp at this; omega)))
        clear hb3
        cases hs : hasK 10 (l[i]'hin) with
        | true =>
          have HNO : Hid (hasK 10 (.mk k t n r l a) = true) := Lib.hid (by
            rw [HV.out]
            have : l.any (hasK 10) = true := List.any_eq_true.2 ⟨_, List.getElem_mem hin, hs⟩
            rw [this, Bool.or_true])
          clear hs
          go_wp2_with fail
          go_ret
          exact ⟨by rw [HNO.out]; rfl, HBB.out.trans (HB3.out.mono (by omega))⟩
        | false =>
          have HS := Lib.hid hs
          clear hs
          go_wp2_with fail
          go_roundw
          case measure => simp only [intOf]; omega
          case rel =>
            refine ⟨i + 1, by omega, by go_num, fun j h hj => ?_, HB3.out⟩
            rcases Nat.lt_or_eq_of_le (Nat.le_of_lt_succ hj) with h2 | h2
            · exact HALL.out j h h2
            · subst h2; exact HS.out
      · obtain rfl : i = l.length := by omega
        have HYES : Hid (hasK 10 (.mk k t n r l a) = decide (k = 10)) := Lib.hid (by
          rw [HV.out]
          have : l.any (hasK 10) = false := by
            rw [List.any_eq_false]
            intro x hx
            obtain ⟨j, hj, rfl⟩ := List.mem_iff_getElem.1 hx
            rw [HALL.out j hj hj]
            simp
          rw [this, Bool.or_false])
        by_cases hk : k = 10
        · have hk2 : (k == 10) = true := by rw [hk]; rfl
          have HD : Hid (decide (k = 10) = true) := Lib.hid (by rw [hk]; rfl)
          clear hk
          go_wp2_with fail
          go_ret
          exact ⟨by rw [HYES.out, HD.out]; rfl, HBR.out⟩
        · have hk2 : (k == 10) = false := by rw [beq_eq_false_iff_ne]; exact hk
          have HD : Hid (decide (k = 10) = false) := Lib.hid (by rw [decide_eq_false_iff_not]; exact hk)
          clear hk
          go_wp2_with fail
          go_ret
          exact ⟨by rw [HYES.out, HD.out]; rfl, HBR.out⟩
end Go.Proofs.YtpahfhjgcflifaaGreatDoor
