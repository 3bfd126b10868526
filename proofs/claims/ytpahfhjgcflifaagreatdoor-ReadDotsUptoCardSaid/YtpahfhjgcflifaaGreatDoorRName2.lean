/- ref.Name -/
import Derived.Test.YtpahfhjgcflifaaGreatDoorRName
import Derived.Test.YtpahfhjgcflifaaGreatDoorUOne
import Derived.Test.YtpahfhjgcflifaaGreatDoorUEncMath
import Derived.Test.YtpahfhjgcflifaaGreatDoorApp
namespace Go.Proofs.YtpahfhjgcflifaaGreatDoor
open Go.RowKit Go.Lib

/-- What the reference's Name answers. -/
def RNamePost (c : Int) (w : World) (e : Ending) (w' : World) : Prop :=
  ((scB c = true ∧ e = .returned (.tuple #[.string (mkB (nameA c.toNat)), .int .i64 0])) ∨ (scB c = false ∧ e = .returned (.tuple #[.string ⟨#[]⟩, .int .i64 1]))) ∧ Below w.heap.size w w'
/-- A character's number. -/
structure ScOk2 (n : Nat) : Prop where
  ok : scB (n : Int) = true
theorem strOf_mkB (l : List Nat) : strOf l = mkB l := rfl
theorem mkB_consR (a : Nat) (l : List Nat) : (ByteArray.mk #[a.toUInt8]) ++ mkB l = mkB (a :: l) := by
  unfold mkB
  apply ByteArray.ext
  rw [ByteArray.data_append]
  simp
/-- Not a character. -/
structure ScNo (c : Int) : Prop where
  ok : scB c = false

set_option maxRecDepth 100000 in
set_option maxHeartbeats 4000000 in
theorem rname_any (c : Int) (w : World) : Calls Tryz.prog 37 #[.int .i64 c] w (RNamePost c w) := by
  cases hsc : scB c with
  | false =>
    have HSC : ScNo c := ⟨hsc⟩
    clear hsc
    go_enter Tryz.func37, Tryz.ntmps37
    go_wp2_with fail
    refine (rscalar_any c _).mono ?_
    rintro e w1 ⟨rfl, rfl⟩
    rw [HSC.ok]
    go_wp2_with fail
    refine bodyPost_ret (v := .tuple #[.string ⟨#[]⟩, .int .i64 1]) (by simp [results, Tryz.results37, go_sem]) rfl ?_
    exact ⟨.inr ⟨HSC.ok, rfl⟩, Below.refl _ _⟩
  | true =>
    obtain ⟨r0, r1⟩ := scB_range hsc
    obtain ⟨n, rfl⟩ : ∃ n : Nat, c = (n : Int) := ⟨c.toNat, by omega⟩
    have HSC : ScOk2 n := ⟨hsc⟩
    have HN := Lib.hid (show n ≤ 1114111 by omega)
    clear hsc r0 r1
    by_cases n32 : n = 32
    · subst n32
      clear HN
      go_enter Tryz.func37, Tryz.ntmps37
      go_wp2_with fail
      refine (rscalar_any _ _).mono ?_
      rintro e w1 ⟨rfl, rfl⟩
      rw [show scB (32 : Int) = true from HSC.ok]
      go_wp2_with fail
      refine bodyPost_ret (v := .tuple #[.string (mkB (nameA 32)), .int .i64 0]) (by simp [results, Tryz.results37, go_sem]; rfl) rfl ?_
      exact ⟨.inl ⟨HSC.ok, rfl⟩, Below.refl _ _⟩
    by_cases n10 : n = 10
    · subst n10
      clear HN
      go_enter Tryz.func37, Tryz.ntmps37
      go_wp2_with fail
      refine (rscalar_any _ _).mono ?_
      rintro e w1 ⟨rfl, rfl⟩
      rw [show scB (10 : Int) = true from HSC.ok]
      go_wp2_with fail
      refine bodyPost_ret (v := .tuple #[.string (mkB (nameA 10)), .int .i64 0]) (by simp [results, Tryz.results37, go_sem]; rfl) rfl ?_
      exact ⟨.inl ⟨HSC.ok, rfl⟩, Below.refl _ _⟩
    by_cases n9 : n = 9
    · subst n9
      clear HN
      go_enter Tryz.func37, Tryz.ntmps37
      go_wp2_with fail
      refine (rscalar_any _ _).mono ?_
      rintro e w1 ⟨rfl, rfl⟩
      rw [show scB (9 : Int) = true from HSC.ok]
      go_wp2_with fail
      refine bodyPost_ret (v := .tuple #[.string (mkB (nameA 9)), .int .i64 0]) (by simp [results, Tryz.results37, go_sem]; rfl) rfl ?_
      exact ⟨.inl ⟨HSC.ok, rfl⟩, Below.refl _ _⟩
    by_cases n13 : n = 13
    · subst n13
      clear HN
      go_enter Tryz.func37, Tryz.ntmps37
      go_wp2_with fail
      refine (rscalar_any _ _).mono ?_
      rintro e w1 ⟨rfl, rfl⟩
      rw [show scB (13 : Int) = true from HSC.ok]
      go_wp2_with fail
      refine bodyPost_ret (v := .tuple #[.string (mkB (nameA 13)), .int .i64 0]) (by simp [results, Tryz.results37, go_sem]; rfl) rfl ?_
      exact ⟨.inl ⟨HSC.ok, rfl⟩, Below.refl _ _⟩
    by_cases n0 : n = 0
    · subst n0
      clear HN
      go_enter Tryz.func37, Tryz.ntmps37
      go_wp2_with fail
      refine (rscalar_any _ _).mono ?_
      rintro e w1 ⟨rfl, rfl⟩
      rw [show scB (0 : Int) = true from HSC.ok]
      go_wp2_with fail
      refine bodyPost_ret (v := .tuple #[.string (mkB (nameA 0)), .int .i64 0]) (by simp [results, Tryz.results37, go_sem]; rfl) rfl ?_
      exact ⟨.inl ⟨HSC.ok, rfl⟩, Below.refl _ _⟩
    by_cases n127 : n = 127
    · subst n127
      clear HN
      go_enter Tryz.func37, Tryz.ntmps37
      go_wp2_with fail
      refine (rscalar_any _ _).mono ?_
      rintro e w1 ⟨rfl, rfl⟩
      rw [show scB (127 : Int) = true from HSC.ok]
      go_wp2_with fail
      refine bodyPost_ret (v := .tuple #[.string (mkB (nameA 127)), .int .i64 0]) (by simp [results, Tryz.results37, go_sem]; rfl) rfl ?_
      exact ⟨.inl ⟨HSC.ok, rfl⟩, Below.refl _ _⟩
    have t32 : ((n : Int) == 32) = false := by rw [beq_eq_false_iff_ne]; omega
    have t10 : ((n : Int) == 10) = false := by rw [beq_eq_false_iff_ne]; omega
    have t9 : ((n : Int) == 9) = false := by rw [beq_eq_false_iff_ne]; omega
    have t13 : ((n : Int) == 13) = false := by rw [beq_eq_false_iff_ne]; omega
    have t0 : ((n : Int) == 0) = false := by rw [beq_eq_false_iff_ne]; omega
    have t127 : ((n : Int) == 127) = false := by rw [beq_eq_false_iff_ne]; omega
    have hnm : nameA n = if n < 16 then [120, hexc n] else if n < 32 then [120, hexc (n / 16), hexc (n % 16)] else encN n := by
      unfold nameA
      rw [if_neg n32, if_neg n10, if_neg n9, if_neg n13, if_neg n0, if_neg n127]
    have HNM := Lib.hid hnm
    clear hnm n32 n10 n9 n13 n0 n127
    rcases Nat.lt_or_ge n 32 with h32 | h32
    · have hlt : (n : Int) < 32 := by omega
      have HT : Hid ((ByteArray.mk #[120]) ++ mkB (hexT n) = mkB (nameA n)) := Lib.hid (by
        have := mkB_consR 120 (hexT n)
        rw [HNM.out]
        refine this.trans ?_
        unfold hexT
        by_cases h : n < 16
        · rw [if_pos h, if_pos h]
        · rw [if_neg h, if_neg h, if_pos h32])
      go_enter Tryz.func37, Tryz.ntmps37
      go_wp2_with fail
      refine (rscalar_any _ _).mono ?_
      rintro e w1 ⟨rfl, rfl⟩
      rw [HSC.ok]
      go_wp2_with fail
      refine (hext_any n _ h32).mono ?_
      rintro e w2 ⟨rfl, hb⟩
      have hlen : ¬ 9223372036854775807 < 1 + (mkB (hexT n)).size := by
        rw [mkB_size]
        unfold hexT
        split <;> simp
      go_wp2_with fail
      refine bodyPost_ret (v := .tuple #[.string (mkB (nameA n)), .int .i64 0]) (by rw [← HT.out]; simp [results, Tryz.results37, go_sem]) rfl ?_
      exact ⟨.inl ⟨HSC.ok, rfl⟩, hb⟩
    · have hge : (32 : Int) ≤ (n : Int) := by omega
      have HE : Hid (nameA n = encN n) := Lib.hid (by rw [HNM.out, if_neg (by omega), if_neg (by omega)])
      go_enter Tryz.func37, Tryz.ntmps37
      go_wp2_with fail
      refine (rscalar_any _ _).mono ?_
      rintro e w1 ⟨rfl, rfl⟩
      rw [HSC.ok]
      go_wp2_with fail
      refine (rbytes_any n _ HN.out).mono ?_
      rintro e w2 ⟨rfl, rfl⟩
      have hrow : Row .u8 5 (w.alloc (.cells ((encN n).map fun (x : Nat) => Value.int .u8 (x : Int)).toArray 5)) w.heap.size (encN n) := heap_alloc_new w _
      have hsl := hrow.sl_all (n := (encN n).length) (cap := (encN n).length) rfl (Nat.le_refl _) (by rw [encN_len]; have := (blen_le n).2; unfold maxLen; omega)
      have hconv := conv_sl (P := Tryz.prog) (src := 34) (e := 5) (dst := 9) Tryz.underlying34 Tryz.underlying5 Tryz.underlying9 hsl
      rw [strOf_mkB] at hconv
      clear hsl hrow
      have hb2 := below1 w (.cells ((encN n).map fun (x : Nat) => Value.int .u8 (x : Int)).toArray 5)
      generalize w.alloc (.cells ((encN n).map fun (x : Nat) => Value.int .u8 (x : Int)).toArray 5) = W2 at *
      go_wp2_with fail
      refine bodyPost_ret (v := .tuple #[.string (mkB (encN n)), .int .i64 0]) (by simp [results, Tryz.results37, go_sem]) rfl ?_
      refine ⟨.inl ⟨HSC.ok, ?_⟩, by first | exact hb2 | exact hb2.drew⟩
      rw [show ((n : Int)).toNat = n from rfl, HE.out]
end Go.Proofs.YtpahfhjgcflifaaGreatDoor
