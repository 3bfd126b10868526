/- The document's answer's list: the cells of all objects. -/
import Derived.Test.YtioidaojnbenbaaRsWrap
namespace Go.Proofs.Ytioidaojnbenbaa
open Go.RowKit

/-- What an object of the list weighs is what its slots, or its piece, weigh. -/
def RkOk (o : Ob) : Prop := (o.k ≠ 10 ∧ o.x = none ∧ o.c = 1 + o.s.length) ∨ (o.k = 10 ∧ (∃ p, o.x = some p) ∧ o.s.length = 0 ∧ o.c = 2)
theorem sum_take_succ {l : List Nat} {i : Nat} (hi : i < l.length) : (l.take (i + 1)).sum = (l.take i).sum + l[i] := by
  rw [List.take_succ_eq_append_getElem hi, List.sum_append]; simp
theorem sum_take_le (l : List Nat) (i : Nat) : (l.take i).sum ≤ l.sum := by
  conv => rhs; rw [← List.take_append_drop i l, List.sum_append]
  omega

set_option maxRecDepth 100000 in
set_option maxHeartbeats 4000000 in
theorem rcount_any (g : Nat) (L U : Int) (ov nv : Value) (ms : List RO) (w : World) (hbox : w.heap[g]? = some (.cells #[.int .i64 L, .int .i64 U, ov, nv] 32 (0, 0)))
    (hrow : RowV w ov ms.length 10 (roLs ms)) (hx : ∀ i (hi : i < ms.length), RkOk (ms[i]'hi).o ∧ ∃ so sc, (ms[i]'hi).sv = .slice so (ms[i]'hi).o.s.length sc) (hsum : (ms.map fun m => m.o.c).sum ≤ 1048576) (hlen : ms.length ≤ 1048576) :
    Calls Try.prog 59 #[.pointer (some ⟨g, 0, none⟩)] w fun e w' => e = .returned (.int .i64 (((ms.map fun m => m.o.c).sum : Nat) : Int)) ∧ Below w.heap.size w w' := by
  obtain ⟨ao, cap, rfl⟩ : ∃ ao c, ov = .slice ao ms.length c := by obtain ⟨_, _, a, c, e, _⟩ := hrow; exact ⟨a, c, e⟩
  have HB := Lib.hid hbox
  have HR := Lib.hid hrow
  have HX := Lib.hid hx
  have HS := Lib.hid hsum
  have hgl : g < w.heap.size := (Array.getElem?_eq_some_iff.1 hbox).1
  clear hbox hrow hx hsum
  go_enter Try.func59, Try.ntmps59
  go_wp2_with fail
  go_loopw [3, 4] (fun c v wr => ∃ i : Nat, i ≤ ms.length ∧ v = .int .i64 (i : Nat) ∧ c = .int .i64 ((((ms.map fun m => m.o.c).take i).sum : Nat) : Int) ∧ Below w.heap.size w wr) (fun _ v _ => ms.length - (intOf v).toNat)
  case atStart => exact ⟨0, Nat.zero_le _, rfl, rfl, Below.refl _ _⟩
  case round =>
    obtain ⟨i, hi, rfl, rfl, hbr⟩ := hrel
    have HBR := Lib.hid hbr
    have hbx : wr.heap[g]? = some (.cells #[.int .i64 L, .int .i64 U, .slice ao ms.length cap, nv] 32 (0, 0)) := (hbr.block g hgl).trans HB.out
    have c2 : wr.cell? ⟨g, 2, none⟩ = some (.slice ao ms.length cap) := cell_heap hbx 2
    clear hbx hbr
    by_cases hlt : i < ms.length
    · have hii : ((i : Nat) : Int) < ((ms.length : Nat) : Int) := by omega
      obtain ⟨hrk, so, sc, hsv⟩ := HX.out i hlt
      have hr := HR.out.below HBR.out
      obtain ⟨ob, oo, hao, hob, hcell⟩ : ∃ b off, ao = some ⟨b, off, none⟩ ∧ b < wr.heap.size ∧ ∀ j u, (roLs ms)[j]? = some u → wr.cell? ⟨b, off + j, none⟩ = some u := by
        obtain ⟨_, _, ao2, cap2, e, _, h⟩ := hr
        injection e with e1 e2 e3
        subst e1
        rcases h with ⟨h0, _⟩ | h
        · omega
        · exact h
      subst hao
      have hg := roLs_get ms i hlt
      have hm1 : ((ms.map fun m => m.o.c).take (i + 1)).sum = ((ms.map fun m => m.o.c).take i).sum + (ms[i]'hlt).o.c := by
        rw [sum_take_succ (by simpa using hlt)]; simp
      have hle := sum_take_le (ms.map fun m => m.o.c) (i + 1)
      have HM1 := Lib.hid hm1
      have HLE := Lib.hid hle
      generalize hme : ms[i]'hlt = m at *
      clear hr hm1 hle hme
      rcases hrk with ⟨hk, hxn, hc⟩ | ⟨hk, ⟨p, hxp⟩, hl0, hc⟩
      · have hro : roL m = [.int .i64 m.o.k, .slice so m.o.s.length sc, .int .i64 0, .string ⟨#[]⟩, .bool false, .slice none 0 0, .slice none 0 0, .int .i64 0, .slice none 0 0, .slice none 0 0] := by unfold roL; rw [hsv, hxn]; rfl
        rw [hro] at hg
        have k0 := hcell _ _ ((hg 0 (by omega)).trans rfl)
        have k1 := hcell _ _ ((hg 1 (by omega)).trans rfl)
        have k2 := hcell _ _ ((hg 2 (by omega)).trans rfl)
        have k3 := hcell _ _ ((hg 3 (by omega)).trans rfl)
        have k4 := hcell _ _ ((hg 4 (by omega)).trans rfl)
        have k5 := hcell _ _ ((hg 5 (by omega)).trans rfl)
        have k6 := hcell _ _ ((hg 6 (by omega)).trans rfl)
        have k7 := hcell _ _ ((hg 7 (by omega)).trans rfl)
        have k8 := hcell _ _ ((hg 8 (by omega)).trans rfl)
        have k9 := hcell _ _ ((hg 9 (by omega)).trans rfl)
        simp only [Nat.add_zero, ← Nat.add_assoc] at k0 k1 k2 k3 k4 k5 k6 k7 k8 k9
        have hcl : m.o.c ≤ 1048576 := by have := HLE.out; have := HM1.out; have := HS.out; omega
        have hn2 : m.o.s.length ≤ 2000000 := by omega
        have HC := Lib.hid hc
        have HK := Lib.hid hk
        obtain ⟨n, hn⟩ : ∃ n, n = m.o.s.length := ⟨_, rfl⟩
        obtain ⟨kk, hkk⟩ : ∃ k, k = m.o.k := ⟨_, rfl⟩
        rw [← hn] at k1 hn2
        rw [← hkk] at k0
        have HNE := Lib.hid hn
        have HKE := Lib.hid hkk
        clear hg hro hcell hc hk hxn hsv hcl hn hkk
        go_wp2_with fail
        refine (rcells_any kk so n sc [.int .i64 0, .string ⟨#[]⟩, .bool false, .slice none 0 0, .slice none 0 0, .int .i64 0, .slice none 0 0, .slice none 0 0] _ (by rw [HKE.out]; exact HK.out) ⟨_, _, _, _, _, _, _, _, rfl⟩ hn2).mono ?_
        rintro e w2 ⟨rfl, hb2⟩
        have HB2 := Lib.hid (HBR.out.trans (hb2.mono HBR.out.size))
        have hcs : ((((ms.map fun m => m.o.c).take i).sum : Nat) : Int) + ((1 + n : Nat) : Int) = ((((ms.map fun m => m.o.c).take (i + 1)).sum : Nat) : Int) := by
          rw [HM1.out, HC.out, HNE.out]; omega
        have hub : ((((ms.map fun m => m.o.c).take (i + 1)).sum : Nat) : Int) ≤ 1048576 := by have := HLE.out; have := HS.out; omega
        clear hb2 k0 k1 k2 k3 k4 k5 k6 k7 k8 k9 c2
        go_wp2_with fail
        go_roundw
        case measure => simp only [intOf]; omega
        case rel => exact ⟨i + 1, by omega, by go_num, by first | (rw [← hcs]; go_num; done) | (rw [← hcs]; rfl) | (simp only [hcs]), HB2.out⟩
      · have hro : roL m = [.int .i64 m.o.k, .slice so m.o.s.length sc, .int .i64 p.k, .string p.t, .bool p.ng, .slice none 0 0, .slice none 0 0, .int .i64 p.a, .slice none 0 0, .slice none 0 0] := by unfold roL; rw [hsv, hxp]; rfl
        rw [hro] at hg
        have k0 := hcell _ _ ((hg 0 (by omega)).trans rfl)
        have k1 := hcell _ _ ((hg 1 (by omega)).trans rfl)
        have k2 := hcell _ _ ((hg 2 (by omega)).trans rfl)
        have k3 := hcell _ _ ((hg 3 (by omega)).trans rfl)
        have k4 := hcell _ _ ((hg 4 (by omega)).trans rfl)
        have k5 := hcell _ _ ((hg 5 (by omega)).trans rfl)
        have k6 := hcell _ _ ((hg 6 (by omega)).trans rfl)
        have k7 := hcell _ _ ((hg 7 (by omega)).trans rfl)
        have k8 := hcell _ _ ((hg 8 (by omega)).trans rfl)
        have k9 := hcell _ _ ((hg 9 (by omega)).trans rfl)
        simp only [Nat.add_zero, ← Nat.add_assoc] at k0 k1 k2 k3 k4 k5 k6 k7 k8 k9
        have HC := Lib.hid hc
        obtain ⟨n, hn⟩ : ∃ n, n = m.o.s.length := ⟨_, rfl⟩
        obtain ⟨kk, hkk⟩ : ∃ k, k = m.o.k := ⟨_, rfl⟩
        rw [← hn] at k1
        rw [← hkk] at k0
        have HK : Hid (kk = 10) := Lib.hid (by rw [hkk]; exact hk)
        clear hg hro hcell hc hk hxp hsv hn hkk hl0
        go_wp2_with fail
        refine (rcellsx_any kk so n sc p _ HK.out).mono ?_
        rintro e w2 ⟨rfl, hb2⟩
        have HB2 := Lib.hid (HBR.out.trans (hb2.mono HBR.out.size))
        have hcs : ((((ms.map fun m => m.o.c).take i).sum : Nat) : Int) + ((2 : Nat) : Int) = ((((ms.map fun m => m.o.c).take (i + 1)).sum : Nat) : Int) := by
          rw [HM1.out, HC.out]; omega
        have hub : ((((ms.map fun m => m.o.c).take (i + 1)).sum : Nat) : Int) ≤ 1048576 := by have := HLE.out; have := HS.out; omega
        clear hb2 k0 k1 k2 k3 k4 k5 k6 k7 k8 k9 c2
        go_wp2_with fail
        go_roundw
        case measure => simp only [intOf]; omega
        case rel => exact ⟨i + 1, by omega, by go_num, by first | (rw [← hcs]; go_num; done) | (rw [← hcs]; rfl) | (simp only [hcs]), HB2.out⟩
    · have hge : ¬ ((i : Nat) : Int) < ((ms.length : Nat) : Int) := by omega
      obtain rfl : i = ms.length := by omega
      have hfull : ((ms.map fun m => m.o.c).take ms.length) = ms.map fun m => m.o.c := List.take_of_length_le (by simp)
      have HF := Lib.hid hfull
      clear hfull
      go_wp2_with fail
      go_ret
      exact ⟨by first | rfl | (rw [HF.out]; rfl), HBR.out⟩
end Go.Proofs.Ytioidaojnbenbaa
