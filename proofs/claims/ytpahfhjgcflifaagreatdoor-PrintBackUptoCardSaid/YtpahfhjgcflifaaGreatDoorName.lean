/- utf.Name -/
import Derived.Test.YtpahfhjgcflifaaGreatDoorNumbered
import Derived.Deep.RegionHeld3
namespace Go.Proofs.YtpahfhjgcflifaaGreatDoor
open Go.RowKit Go.Lib

/-- What Name answers. -/
def NamePost (c : Int) (w : World) (e : Ending) (w' : World) : Prop :=
  ((scB c = true ∧ e = .returned (.tuple #[.string (mkB (nameA c.toNat)), .int .i64 0])) ∨ (scB c = false ∧ e = .returned (.tuple #[.string ⟨#[]⟩, .int .i64 1]))) ∧ Below w.heap.size w w'

/-- A character's number. -/
structure ScOk (n : Nat) : Prop where
  ok : scB (n : Int) = true
theorem nameA_word {n k : Nat} (hk : k < 6) (h : wChar k = n) : nameA n = wName k := by
  subst h
  have : k = 0 ∨ k = 1 ∨ k = 2 ∨ k = 3 ∨ k = 4 ∨ k = 5 := by omega
  rcases this with rfl | rfl | rfl | rfl | rfl | rfl <;> decide

theorem utf8_enc {n : Nat} (h : scB (n : Int) = true) : Utf8.encode (n : Int) = mkB (encN n) := by
  have hv : Utf8.valid (n : Int) = true := by
    unfold scB at h
    simp only [decide_eq_true_iff] at h
    unfold Utf8.valid
    simp
    omega
  unfold Utf8.encode encN
  simp only [hv, if_true, Int.toNat_natCast]
  (repeat' split) <;> rfl
def dgHx : ByteArray := ⟨#[48, 49, 50, 51, 52, 53, 54, 55, 56, 57, 97, 98, 99, 100, 101, 102]⟩
theorem low_names : ∀ n : Fin 32, n.val ≠ 0 ∧ n.val ≠ 9 ∧ n.val ≠ 10 ∧ n.val ≠ 13 → (120 : UInt8) :: trimLeftB ([UInt8.ofNat (limb (byt dgHx) (n.val / 16))] ++ [UInt8.ofNat (limb (byt dgHx) (n.val % 16))]) 48 = (nameA n.val).map fun x => x.toUInt8 := by decide +kernel
theorem low_name {n : Nat} (hn : n < 32) (hno : ∀ j, j < 6 → wChar j ≠ n) : (ByteArray.mk #[120]) ++ (ByteArray.mk (trimLeftB (dgHx.extract (n / 16) (n / 16 + 1) ++ dgHx.extract (n % 16) (n % 16 + 1)).data.toList 48).toArray) = mkB (nameA n) := by
  have h := low_names ⟨n, hn⟩ ⟨fun h => hno 4 (by omega) h.symm, fun h => hno 2 (by omega) h.symm, fun h => hno 1 (by omega) h.symm, fun h => hno 3 (by omega) h.symm⟩
  simp only at h
  have h1 := ext_one (s := dgHx) (k := n / 16) (show n / 16 < 16 by omega)
  have h2 := ext_one (s := dgHx) (k := n % 16) (show n % 16 < 16 by omega)
  unfold mkB
  rw [← h, ByteArray.data_append, Array.toList_append, h1, h2]
  rfl

set_option maxRecDepth 100000 in
set_option maxHeartbeats 16000000 in
theorem name_any (c : Int) (w : World) (hw : Words w) : Calls Tryz.prog 89 #[.int .i64 c] w (NamePost c w) := by
  obtain ⟨b, off, cap, hc0, hc⟩ := hw
  have HC := Lib.hid hc; clear hc
  go_enter Tryz.func89, Tryz.ntmps89
  go_wp2_with fail
  refine (scalar_any c _).mono ?_
  rintro e w1 ⟨rfl, rfl⟩
  cases hsc : scB c with
  | false =>
    have HSC := Lib.hid hsc; clear hsc
    go_wp2_with fail
    refine bodyPost_ret (v := .tuple #[.string ⟨#[]⟩, .int .i64 1]) (by simp [results, Tryz.results89, go_sem]) rfl ?_
    exact ⟨.inr ⟨HSC.out, rfl⟩, Below.refl _ _⟩
  | true =>
    obtain ⟨r0, r1⟩ := scB_range hsc
    obtain ⟨n, rfl⟩ : ∃ n : Nat, c = (n : Int) := ⟨c.toNat, by omega⟩
    have HSC : ScOk n := ⟨hsc⟩
    clear hsc
    have HN := Lib.hid (show n ≤ 1114111 by omega)
    clear r0 r1
    go_wp2_with fail
    go_loopw [13] (fun i wr => ∃ k : Nat, k ≤ 6 ∧ i = .int .i64 (k : Nat) ∧ (∀ j, j < k → wChar j ≠ n) ∧ Below w.heap.size w wr) (fun i _ => 6 - (intOf i).toNat)
    case atStart => exact ⟨0, by omega, rfl, fun j hj => by omega, Below.refl _ _⟩
    case round =>
      obtain ⟨k, hk, rfl, hno, hbel⟩ := hrel
      have HNO := Lib.hid hno; clear hno
      rcases Nat.lt_or_ge k 6 with hlt | hge
      · obtain ⟨c0, c1⟩ := HC.out k hlt
        have d0 := cell_keep c0 hbel
        have d1 := cell_keep c1 hbel
        obtain ⟨cv, hcv⟩ : ∃ cv, cv = wChar k := ⟨_, rfl⟩
        have HCV := Lib.hid hcv
        rw [← hcv] at d1
        clear c0 c1 hcv
        by_cases he : cv = n
        · have hq : ((cv : Int) == (n : Int)) = true := by rw [he]; simp
          have HE := Lib.hid he; clear he
          go_wp2_with fail
          refine bodyPost_ret (v := .tuple #[.string (mkB (wName k)), .int .i64 0]) (by simp [results, Tryz.results89, go_sem]) rfl ?_
          refine ⟨.inl ⟨HSC.ok, ?_⟩, hbel.alloc hbel.size _⟩
          rw [show ((n : Int)).toNat = n from rfl, nameA_word hlt (HCV.out.symm.trans HE.out)]
        · have hq : ((cv : Int) == (n : Int)) = false := by rw [beq_eq_false_iff_ne]; omega
          have HE := Lib.hid he; clear he
          go_wp2_with fail
          go_roundw
          case rel =>
            refine ⟨k + 1, by omega, by go_num, fun j hj hw => ?_, hbel.alloc hbel.size _⟩
            by_cases e : j = k
            · subst e; exact HE.out (HCV.out.trans hw)
            · exact HNO.out j (by omega) hw
          case measure => simp only [intOf]; omega
      · obtain rfl : k = 6 := by omega
        rcases Nat.lt_or_ge n 32 with h32 | h32
        · have HL := Lib.hid (low_name h32 HNO.out)
          have hall : n = 0 ∨ n = 1 ∨ n = 2 ∨ n = 3 ∨ n = 4 ∨ n = 5 ∨ n = 6 ∨ n = 7 ∨ n = 8 ∨ n = 9 ∨ n = 10 ∨ n = 11 ∨ n = 12 ∨ n = 13 ∨ n = 14 ∨ n = 15 ∨ n = 16 ∨ n = 17 ∨ n = 18 ∨ n = 19 ∨ n = 20 ∨ n = 21 ∨ n = 22 ∨ n = 23 ∨ n = 24 ∨ n = 25 ∨ n = 26 ∨ n = 27 ∨ n = 28 ∨ n = 29 ∨ n = 30 ∨ n = 31 := by omega
          clear h32 HN HC hc0
          rcases hall with rfl | rfl | rfl | rfl | rfl | rfl | rfl | rfl | rfl | rfl | rfl | rfl | rfl | rfl | rfl | rfl | rfl | rfl | rfl | rfl | rfl | rfl | rfl | rfl | rfl | rfl | rfl | rfl | rfl | rfl | rfl | rfl
          all_goals first
            | exact absurd rfl (HNO.out 4 (by omega))
            | exact absurd rfl (HNO.out 2 (by omega))
            | exact absurd rfl (HNO.out 1 (by omega))
            | exact absurd rfl (HNO.out 3 (by omega))
            | skip
          all_goals
            clear HNO
            go_wp2_with fail
            go_region_with (first | (go_at_call 108; refine (Tryz.strings_TrimLeft_one _ 48 (by decide) _).mono ?_; rintro e w2 ⟨rfl, rfl⟩))
          all_goals
            go_wp2_with fail
            refine bodyPost_ret (v := .tuple #[.string (mkB (nameA _)), .int .i64 0]) (by rw [← HL.out]; simp [results, Tryz.results89, go_sem, dgHx]) rfl ?_
            exact ⟨.inl ⟨HSC.ok, rfl⟩, by first | exact hbel | exact hbel.drew | exact below_drewN hbel _⟩
        · have hn0 : (32 : Int) ≤ (n : Int) := by omega
          have e32 : IntKind.i32.wrap (n : Int) = (n : Int) := by rw [IntKind.wrap_i32]; have := HN.out; omega
          go_wp2_with fail
          refine bodyPost_ret (v := .tuple #[.string (Utf8.encode (n : Int)), .int .i64 0]) (by simp [results, Tryz.results89, go_sem]) rfl ?_
          refine ⟨.inl ⟨HSC.ok, ?_⟩, hbel⟩
          have hno := HNO.out
          rw [utf8_enc HSC.ok, show ((n : Int)).toNat = n from rfl]
          have e : nameA n = encN n := by
            unfold nameA
            rw [if_neg (fun h => hno 0 (by omega) h.symm), if_neg (fun h => hno 1 (by omega) h.symm), if_neg (fun h => hno 2 (by omega) h.symm), if_neg (fun h => hno 3 (by omega) h.symm), if_neg (fun h => hno 4 (by omega) h.symm), if_neg (fun h => hno 5 (by omega) h.symm), if_neg (by omega), if_neg (by omega)]
          rw [e]
end Go.Proofs.YtpahfhjgcflifaaGreatDoor
