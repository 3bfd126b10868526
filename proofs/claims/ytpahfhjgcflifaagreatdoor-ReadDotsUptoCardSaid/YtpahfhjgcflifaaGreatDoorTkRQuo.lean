/- ref.Quoted -/
import Derived.Test.YtpahfhjgcflifaaGreatDoorTkSMath
import Derived.Test.YtpahfhjgcflifaaGreatDoorRName2
import Derived.Test.YtpahfhjgcflifaaGreatDoorTkLit
import Derived.Test.YtpahfhjgcflifaaGreatDoorUOne
namespace Go.Proofs.YtpahfhjgcflifaaGreatDoor
open Go.RowKit Go.Lib

theorem mkB_app2 (a b : List Nat) : mkB a ++ mkB b = mkB (a ++ b) := by unfold mkB; apply ByteArray.ext; simp
theorem ext_cut {s : ByteArray} {i j : Nat} (_hi : i ≤ j) (hj : j ≤ s.size) : s.extract i j = mkB (((byt s).drop i).take (j - i)) := by
  rw [← byt_mkB (s.extract i j)]
  congr 1
  unfold byt
  cases s with
  | mk d =>
    rw [ByteArray.extract_mk]
    simp only []
    rw [List.map_take, List.map_drop]
theorem sl_cellsQ {k : IntKind} {w : World} {ao : Option Addr} {cap : Nat} {xs : List Nat} (h : Sl k w (.slice ao xs.length cap) xs) {j : Nat} (hj : j < xs.length) : ∃ b off, ao = some ⟨b, off, none⟩ ∧ b < w.heap.size ∧ w.cell? ⟨b, off + j, none⟩ = some (.int k ((limb xs j : Nat) : Int)) := by
  obtain ⟨_, ao', cap', hv, _, h⟩ := h
  simp only [Value.slice.injEq, true_and] at hv
  obtain ⟨rfl, rfl⟩ := hv
  rcases h with ⟨h, _⟩ | ⟨b, off, h1, h2, h3⟩
  · rw [h] at hj; simp at hj
  · exact ⟨b, off, h1, h2, h3 j hj⟩
theorem esc_len (l : List Nat) : (l.flatMap escL).length ≤ 5 * l.length := by
  induction l with
  | nil => simp
  | cons c l ih =>
    rw [List.flatMap_cons, List.length_append, List.length_cons]
    have : (escL c).length ≤ 5 := by
      rcases Nat.lt_or_ge c 128 with h | h
      · exact (escL_low ⟨c, h⟩).2.2
      · rw [escL_high h]; simp
    omega
/-- What is written up to a place. -/
def qup (bs : List Nat) (k : Nat) : List Nat := 34 :: (bs.take k).flatMap escL
theorem qup_len {bs : List Nat} {k : Nat} : (qup bs k).length ≤ 5 * bs.length + 1 := by
  have := esc_len (bs.take k)
  unfold qup
  simp only [List.length_cons, List.length_take] at *
  omega
theorem qup_step {bs : List Nat} {k n : Nat} : qup bs (k + n) = qup bs k ++ ((bs.drop k).take n).flatMap escL := by
  unfold qup
  rw [List.take_add, List.flatMap_append]
  rfl
theorem qup_end (bs : List Nat) : qup bs bs.length ++ [34] = quoT bs := by unfold qup quoT; rw [List.take_length]; rfl
theorem esc_plain {c : Nat} (h1 : c ≠ 92) (h2 : c ≠ 34) (h3 : c ≠ 10) (h4 : c ≠ 9) (h5 : c ≠ 13) (h6 : 32 ≤ c) (h7 : c ≠ 127) : escL c = [c] := by
  unfold escL
  rw [if_neg (by omega), if_neg h3, if_neg h4, if_neg h5, if_neg (by omega)]
theorem hexT_L (c : Nat) : hexT c = hexL c := rfl
theorem esc_hex {c : Nat} (_h1 : c ≠ 92 ∧ c ≠ 34) (h2 : c ≠ 10 ∧ c ≠ 9) (h3 : c ≠ 13) (h : c < 32 ∨ c = 127) : mkB (encL (escL c)) = ByteArray.mk #[92, 120] ++ (mkB (hexT c) ++ ByteArray.mk #[59]) := by
  have e : escL c = [92, 120] ++ (hexT c ++ [59]) := by unfold escL; rw [if_neg (by omega), if_neg h2.1, if_neg h2.2, if_neg h3, if_pos h]; rfl
  have hlow : encL (escL c) = escL c := encL_low fun a ha => by
    have := List.all_eq_true.1 (escL_low ⟨c, by omega⟩).1 a ha
    simpa using this
  rw [hlow, e, ← mkB_app2, ← mkB_app2]
  rfl
/-- One character more. -/
theorem qup_char {bs : List Nat} (hby : By bs) {k : Nat} (hk : k < bs.length) (hg : badB (dc bs k) = false) : qup bs (k + (dc bs k).2) = qup bs k ++ encL (escL (dc bs k).1) := by
  obtain ⟨h1, h2⟩ := enc_dc hby hk hg
  rw [qup_step, ← h1, escN_esc _ h2]
theorem qup_bad {bs : List Nat} {k : Nat} (hk : k < bs.length) (hg : badB (dc bs k) = true) : qup bs (k + 1) = qup bs k ++ (bs.drop k).take 1 := by
  have h128 : 128 ≤ limb bs k := by
    apply Classical.byContradiction
    intro h
    have := dc_one (bs := bs) (i := k) (by omega)
    rw [this] at hg
    have : badB (limb bs k, 1) = false := by rw [badB_false]; simp only []; omega
    rw [this] at hg
    cases hg
  rw [qup_step, drop_take1 (by omega), List.flatMap_cons, escL_high h128]
  rfl
theorem hext_127 (w : World) : Calls Tryz.prog 61 #[.int .i64 127] w fun e w' => e = .returned (.string (mkB (hexT 127))) ∧ Below w.heap.size w w' := by
  go_enter Tryz.func61, Tryz.ntmps61
  go_wp2_with fail
  go_region_with (first | (go_at_call 61; refine (hext_low 7 _ (by omega)).mono ?_; rintro e w2 ⟨rfl, rfl⟩))
  all_goals
    go_wp2_with fail
    go_ret
    exact ⟨by rfl, by first | exact Below.refl _ _ | exact below_drewN (Below.refl _ _) _ | exact (Below.refl _ _).drew⟩
theorem hext_all (n : Nat) (w : World) (hn : n < 32 ∨ n = 127) : Calls Tryz.prog 61 #[.int .i64 (n : Int)] w fun e w' => e = .returned (.string (mkB (hexT n))) ∧ Below w.heap.size w w' := by
  rcases hn with hn | rfl
  · exact hext_any n w hn
  · exact hext_127 w

set_option maxRecDepth 100000 in
set_option maxHeartbeats 4000000 in
theorem rquoted_any (s : ByteArray) (w : World) (hs : s.size ≤ 100000000) :
    Calls Tryz.prog 35 #[.string s] w fun e w' => e = .returned (.string (mkB (quoT (byt s)))) ∧ Below w.heap.size w w' := by
  have hconv := run_bytes_of_string (P := Tryz.prog) w 9 34 5 s Tryz.underlying9 Tryz.underlying34 Tryz.underlying5
  have hcap := grownCap_ge w s.size 0 5
  go_enter Tryz.func35, Tryz.ntmps35
  go_wp2_with fail
  generalize hG : grownCap w s.size 0 5 = cap at *
  have hsl := row_slS (w := w) (e := 5) (W := (w.alloc (Obj.cells (bytesRow s cap) 5 ((bytesRow s cap).size, (bytesRow s cap).size + 1))).drew) (heap_alloc_new w _) hcap (by omega)
  have hbq : Below w.heap.size w ((w.alloc (Obj.cells (bytesRow s cap) 5 ((bytesRow s cap).size, (bytesRow s cap).size + 1))).drew) := (below1 w _).drew
  have hlt : w.heap.size < ((w.alloc (Obj.cells (bytesRow s cap) 5 ((bytesRow s cap).size, (bytesRow s cap).size + 1))).drew).heap.size := by simp
  generalize ((w.alloc (Obj.cells (bytesRow s cap) 5 ((bytesRow s cap).size, (bytesRow s cap).size + 1))).drew) = W at *
  have HLT := Lib.hid hlt
  have hc : ∀ j, j < (byt s).length → W.cell? ⟨w.heap.size, 0 + j, none⟩ = some (.int .u8 ((limb (byt s) j : Nat) : Int)) := by
    have hsl' := hsl
    rw [← byt_len s] at hsl'
    intro j hj
    obtain ⟨b, off, h1, _, h3⟩ := sl_cellsQ hsl' hj
    injection h1 with h1; injection h1 with e1 e2
    subst e1
    subst e2
    exact h3
  have HC := Lib.hid hc
  have HB0 := Lib.hid hbq
  have HY := Lib.hid (byt_by s)
  have HN := Lib.hid (byt_len s)
  clear hconv hcap hG hsl hbq hlt hc
  go_loopw [3, 5] (fun v i wr => ∃ k, k ≤ s.size ∧ i = .int .i64 (k : Nat) ∧ v = .string (mkB (qup (byt s) k)) ∧ Below W.heap.size W wr) (fun _ i _ => s.size - (intOf i).toNat)
  case atStart => exact ⟨0, Nat.zero_le _, rfl, rfl, Below.refl _ _⟩
  case round =>
    obtain ⟨k, hk, rfl, hv, hbel⟩ := hrel
    have HQL : Hid ((mkB (qup (byt s) k)).size ≤ 500000001) := Lib.hid (by rw [mkB_size]; have := @qup_len (byt s) k; rw [HN.out] at this; omega)
    obtain ⟨O, hO⟩ : ∃ O, O = mkB (qup (byt s) k) := ⟨_, rfl⟩
    rw [← hO] at hv HQL
    subst hv
    have HO := Lib.hid hO
    have HB := Lib.hid hbel
    clear hO hbel
    by_cases hkn : k < s.size
    · have hki : ((k : Nat) : Int) < ((s.size : Nat) : Int) := by omega
      have hone := one_any w.heap.size 0 cap k (byt s) wr (by rw [HN.out]; exact hkn) (by rw [HN.out]; omega) HY.out (fun j hj => by rw [HB.out.cell (p := ⟨w.heap.size, 0 + j, none⟩) HLT.out]; exact HC.out j hj)
      rw [HN.out] at hone
      have hin := dc_in (bs := byt s) (i := k) (by rw [HN.out]; exact hkn)
      have hz := dc_size (byt s) k
      rw [HN.out] at hin
      go_wp2_with fail
      refine hone.mono ?_
      rintro e w1 ⟨rfl, hb1⟩
      clear hone
      have HB1 := Lib.hid (HB.out.trans (hb1.mono HB.out.size))
      clear hb1
      cases hbad : badB (dc (byt s) k)
      · have HBAD := Lib.hid hbad
        rw [oneA_ok hbad]
        have HST := Lib.hid (qup_char HY.out (by rw [HN.out]; exact hkn) hbad)
        have HED := Lib.hid (enc_dc HY.out (i := k) (by rw [HN.out]; exact hkn) hbad)
        have HEX := Lib.hid (ext_cut (s := s) (i := k) (j := k + (dc (byt s) k).2) (by omega) hin)
        clear hbad
        have hn0 : ((((dc (byt s) k).2 : Nat) : Int) == 0) = false := by rw [beq_eq_false_iff_ne]; omega
        generalize dc (byt s) k = p at *
        obtain ⟨c, n⟩ := p
        simp only at hin hz hn0
        have HCN := Lib.hid (show c ≤ 1114111 by have := HED.out.2; unfold scN at this; omega)
        have hz1 : 1 ≤ n := by omega
        have HF : Hid (∀ X, mkB (encL (escL c)) = X → mkB (qup (byt s) (k + n)) = O ++ X) := Lib.hid (by
          rintro X rfl
          have h := HST.out
          simp only at h
          rw [h, ← mkB_app2, ← HO.out])
        have HO1 : O.size ≤ 500000001 := HQL.out
        have g1 : ¬ 9223372036854775807 < O.size + 1 := by omega
        have g2 : ¬ 9223372036854775807 < O.size + 2 := by omega
        clear HST
        by_cases c1 : c = 92 ∨ c = 34
        · have HBX0 := HB1.out
          rcases c1 with rfl | rfl
          · have g3 : ¬ 9223372036854775807 < O.size + 1 + 1 := by omega
            go_wp2_with fail
            refine (rbytes_any 92 _ (by omega)).mono ?_
            rintro e w2 ⟨rfl, rfl⟩
            have hrow : Row .u8 5 (w1.alloc (.cells ((encN 92).map fun (x : Nat) => Value.int .u8 (x : Int)).toArray 5)) w1.heap.size (encN 92) := heap_alloc_new w1 _
            have hsl := hrow.sl_all (n := (encN 92).length) (cap := (encN 92).length) rfl (Nat.le_refl _) (by decide)
            have hconv := conv_sl (P := Tryz.prog) (src := 34) (e := 5) (dst := 9) Tryz.underlying34 Tryz.underlying5 Tryz.underlying9 hsl
            rw [strOf_mkB] at hconv
            have g4 : ¬ 9223372036854775807 < O.size + 1 + (mkB (encN 92)).size := by rw [mkB_size]; exact g3
            have HBX := HBX0.trans ((below1 w1 (.cells ((encN 92).map fun (x : Nat) => Value.int .u8 (x : Int)).toArray 5)).mono HBX0.size)
            clear hsl hrow HBX0
            generalize w1.alloc (.cells ((encN 92).map fun (x : Nat) => Value.int .u8 (x : Int)).toArray 5) = W2 at *
            go_wp2_with fail
            go_roundw
            case measure => simp only [intOf]; omega
            case rel =>
              refine ⟨k + n, hin, by go_num, ?_, by first | exact HBX | exact HBX.drew⟩
              rw [HF.out _ (show _ = ByteArray.mk #[92] ++ mkB (encN 92) from rfl), ByteArray.append_assoc]
          · have g3 : ¬ 9223372036854775807 < O.size + 1 + 1 := by omega
            go_wp2_with fail
            refine (rbytes_any 34 _ (by omega)).mono ?_
            rintro e w2 ⟨rfl, rfl⟩
            have hrow : Row .u8 5 (w1.alloc (.cells ((encN 34).map fun (x : Nat) => Value.int .u8 (x : Int)).toArray 5)) w1.heap.size (encN 34) := heap_alloc_new w1 _
            have hsl := hrow.sl_all (n := (encN 34).length) (cap := (encN 34).length) rfl (Nat.le_refl _) (by decide)
            have hconv := conv_sl (P := Tryz.prog) (src := 34) (e := 5) (dst := 9) Tryz.underlying34 Tryz.underlying5 Tryz.underlying9 hsl
            rw [strOf_mkB] at hconv
            have g4 : ¬ 9223372036854775807 < O.size + 1 + (mkB (encN 34)).size := by rw [mkB_size]; exact g3
            have HBX := HBX0.trans ((below1 w1 (.cells ((encN 34).map fun (x : Nat) => Value.int .u8 (x : Int)).toArray 5)).mono HBX0.size)
            clear hsl hrow HBX0
            generalize w1.alloc (.cells ((encN 34).map fun (x : Nat) => Value.int .u8 (x : Int)).toArray 5) = W2 at *
            go_wp2_with fail
            go_roundw
            case measure => simp only [intOf]; omega
            case rel =>
              refine ⟨k + n, hin, by go_num, ?_, by first | exact HBX | exact HBX.drew⟩
              rw [HF.out _ (show _ = ByteArray.mk #[92] ++ mkB (encN 34) from rfl), ByteArray.append_assoc]
        have t92 : ((c : Int) == 92) = false := by rw [beq_eq_false_iff_ne]; omega
        have t34 : ((c : Int) == 34) = false := by rw [beq_eq_false_iff_ne]; omega
        by_cases c10 : c = 10
        · subst c10
          clear t92 t34
          go_wp2_with fail
          go_roundw
          case measure => simp only [intOf]; omega
          case rel =>
            refine ⟨k + n, hin, by go_num, ?_, by first | exact HB1.out | exact HB1.out.drew⟩
            rw [HF.out _ (show _ = ByteArray.mk #[92, 110] from rfl)]
        have t10 : ((c : Int) == 10) = false := by rw [beq_eq_false_iff_ne]; omega
        by_cases c9 : c = 9
        · subst c9
          clear t92 t34
          go_wp2_with fail
          go_roundw
          case measure => simp only [intOf]; omega
          case rel =>
            refine ⟨k + n, hin, by go_num, ?_, by first | exact HB1.out | exact HB1.out.drew⟩
            rw [HF.out _ (show _ = ByteArray.mk #[92, 116] from rfl)]
        have t9 : ((c : Int) == 9) = false := by rw [beq_eq_false_iff_ne]; omega
        by_cases c13 : c = 13
        · subst c13
          clear t92 t34
          go_wp2_with fail
          go_roundw
          case measure => simp only [intOf]; omega
          case rel =>
            refine ⟨k + n, hin, by go_num, ?_, by first | exact HB1.out | exact HB1.out.drew⟩
            rw [HF.out _ (show _ = ByteArray.mk #[92, 114] from rfl)]
        have t13 : ((c : Int) == 13) = false := by rw [beq_eq_false_iff_ne]; omega
        by_cases c32 : c < 32 ∨ c = 127
        · have hlen : (mkB (hexT c)).size ≤ 2 := by rw [mkB_size]; unfold hexT; split <;> simp
          have g5 : ¬ 9223372036854775807 < O.size + 2 + (mkB (hexT c)).size := by omega
          have g6 : ¬ 9223372036854775807 < O.size + 2 + (mkB (hexT c)).size + 1 := by omega
          have HX : Hid (mkB (encL (escL c)) = ByteArray.mk #[92, 120] ++ (mkB (hexT c) ++ ByteArray.mk #[59])) := Lib.hid (esc_hex (by omega) (by omega) (by omega) c32)
          have hall := hext_all c w1 c32
          have hcase : ((c : Int) < 32) ∨ (¬ (c : Int) < 32 ∧ ((c : Int) == 127) = true) := by
            rcases c32 with h | h
            · exact .inl (by omega)
            · exact .inr ⟨by omega, by rw [beq_iff_eq]; omega⟩
          clear hlen c32 c1 c10 c9 c13
          rcases hcase with d1 | ⟨d1, d2⟩
          all_goals
            go_wp2_with fail
            refine hall.mono ?_
            rintro e w2 ⟨rfl, hb2⟩
            have HBX := HB1.out.trans (hb2.mono HB1.out.size)
            clear hb2 hall
            go_wp2_with fail
            go_roundw
            case measure => simp only [intOf]; omega
            case rel =>
              refine ⟨k + n, hin, by go_num, ?_, by first | exact HBX | exact HBX.drew⟩
              rw [HF.out _ HX.out]
              simp only [ByteArray.append_assoc]
        have t127 : ((c : Int) == 127) = false := by rw [beq_eq_false_iff_ne]; omega
        have t32 : ¬ (c : Int) < 32 := by omega
        have HX : Hid (mkB (encL (escL c)) = s.extract k (k + n)) := Lib.hid (by
          have h1 := HED.out.1
          have h2 := HEX.out
          simp only at h1 h2
          rw [h2, esc_plain (by omega) (by omega) c10 c9 c13 (by omega) (by omega), show k + n - k = n by omega, ← h1]
          simp [encL])
        have hes : (s.extract k (k + n)).size ≤ s.size := by rw [ByteArray.size_extract]; omega
        have g7 : ¬ 9223372036854775807 < O.size + (s.extract k (k + n)).size := by omega
        clear HED HEX hes c32 c1 c10 c9 c13
        go_wp2_with fail
        go_roundw
        case measure => simp only [intOf]; omega
        case rel =>
          refine ⟨k + n, hin, by go_num, ?_, by first | exact HB1.out | exact HB1.out.drew⟩
          rw [HF.out _ HX.out]
      · rw [oneA_bad hbad]
        have HST := Lib.hid (qup_bad (by rw [HN.out]; exact hkn) hbad)
        have HEX := Lib.hid (ext_cut (s := s) (i := k) (j := k + 1) (by omega) (by omega))
        have HO1 : O.size ≤ 500000001 := HQL.out
        have hes : (s.extract k (k + 1)).size ≤ s.size := by rw [ByteArray.size_extract]; omega
        have g7 : ¬ 9223372036854775807 < O.size + (s.extract k (k + 1)).size := by omega
        clear hbad hes hin hz
        go_wp2_with fail
        go_roundw
        case measure => simp only [intOf]; omega
        case rel =>
          refine ⟨k + 1, hkn, by go_num, ?_, by first | exact HB1.out | exact HB1.out.drew⟩
          rw [HST.out, ← mkB_app2, ← HO.out, HEX.out, show k + 1 - k = 1 by omega]
    · obtain rfl : k = s.size := by omega
      have hsz : ¬ 9223372036854775807 < O.size + 1 := by have := HQL.out; omega
      go_wp2_with fail
      go_ret
      refine ⟨?_, HB0.out.trans (HB.out.mono HB0.out.size)⟩
      rw [HO.out, ← qup_end, ← HN.out]
      exact congrArg (fun x => Ending.returned (Value.string x)) (mkB_app2 _ [34])
end Go.Proofs.YtpahfhjgcflifaaGreatDoor
