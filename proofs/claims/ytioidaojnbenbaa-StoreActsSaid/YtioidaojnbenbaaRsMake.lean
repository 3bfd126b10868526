/- The document's answer's list: Make. -/
import Derived.Test.YtioidaojnbenbaaRsPut
namespace Go.Proofs.Ytioidaojnbenbaa
open Go.RowKit

theorem rmk_arg {s : St} {k : Int} {l : List (Int × Int)} (h : mayA k l.length = false) : s.make k l = (((0, 0), 1), s) := by unfold St.make; rw [if_pos h]
theorem rmk_form {s : St} {k : Int} {l : List (Int × Int)} (h : mayA k l.length = true) (h2 : l.all (sdV s.os.length s.ns.length) = false) : s.make k l = (((0, 0), 2), s) := by unfold St.make; rw [if_neg (by rw [h]; simp), if_pos h2]
theorem rmk_full {s : St} {k : Int} {l : List (Int × Int)} (h : mayA k l.length = true) (h2 : l.all (sdV s.os.length s.ns.length) = true) (h3 : s.L < s.U + (1 + l.length)) : s.make k l = (((0, 0), 16), s) := by unfold St.make; rw [if_neg (by rw [h]; simp), if_neg (by rw [h2]; simp), if_pos h3]
theorem rmk_ok {s : St} {k : Int} {l : List (Int × Int)} (h : mayA k l.length = true) (h2 : l.all (sdV s.os.length s.ns.length) = true) (h3 : ¬ s.L < s.U + (1 + l.length)) : s.make k l = (((7, ((s.os.length : Nat) : Int)), 0), s.add ⟨k, 1 + l.length, l, none⟩) := by unfold St.make; rw [if_neg (by rw [h]; simp), if_neg (by rw [h2]; simp), if_neg h3]
theorem mayA_kind {k : Int} {n : Nat} (h : mayA k n = true) : 1 ≤ k ∧ k ≤ 9 := by
  unfold mayA at h
  by_cases h1 : k = 1
  · omega
  · rw [if_neg h1] at h
    by_cases h3 : k = 3
    · omega
    · rw [if_neg h3] at h
      simpa using h
theorem Kd_make {s : St} {k : Int} {l : List (Int × Int)} (h : s.Kd) : (s.make k l).2.Kd := by
  unfold St.make
  split
  · exact h
  · rename_i hm
    split
    · exact h
    · split
      · exact h
      · intro o ho
        rcases List.mem_append.1 ho with ho | ho
        · exact h o ho
        · obtain rfl := List.mem_singleton.1 ho
          exact (mayA_kind (by simpa using hm)).1
theorem Kd_set {s : St} {v x : Int × Int} {i : Int} (h : s.Kd) : (s.setA v i x).2.Kd := by
  unfold St.setA
  split
  · exact h
  · split
    · exact h
    · intro o ho
      obtain ⟨o', ho', rfl | rfl⟩ := put_mem o ho
      · exact h o ho'
      · exact h o' ho'

set_option maxRecDepth 100000 in
set_option maxHeartbeats 8000000 in
theorem rmake_any (g : Nat) (Q : Nat → Nat) (s : St) (k : Int) (lv : Value) (l : List (Int × Int)) (w : World) (h : RsW w g Q s) (hr : RowV w lv l.length 2 (vcs l)) (hl : l.length ≤ 2000000) :
    Calls Try.prog 29 #[.pointer (some ⟨g, 0, none⟩), .int .i64 k, lv] w fun e w' => e = .returned (.tuple #[.agg #[.int .i64 (s.make k l).1.1.1, .int .i64 (s.make k l).1.1.2], .int .i64 (s.make k l).1.2]) ∧ RsP w g Q (s.make k l).2 w' := by
  have HS := Lib.hid h
  have HR := Lib.hid hr
  obtain ⟨i0, hi, hz0, hz1, hz2⟩ := info_parts infoVal
  have HI := Lib.hid (And.intro hi (And.intro hz0 (And.intro hz1 hz2)))
  clear hi hz0 hz1 hz2
  obtain ⟨_, _, lo, lc, rfl, _⟩ := hr
  obtain ⟨n, hn⟩ : ∃ n, n = l.length := ⟨_, rfl⟩
  rw [← hn]
  have HN := Lib.hid hn
  have hb1 := below1 w (.cells #[.int .i64 0, .int .i64 0] 35)
  have HB1 := Lib.hid hb1
  have HRB := Lib.hid (box1 w #[.int .i64 0, .int .i64 0] 35)
  have hnl : n ≤ 2000000 := by omega
  clear h hn hb1 hl
  by_cases hm : mayA k n = false
  · have HM := Lib.hid (rmk_arg (s := s) (k := k) (l := l) (by rw [← HN.out]; exact hm))
    have hcase : k < 1 ∨ k > 9 ∨ (k = 1 ∧ n ≠ 2) ∨ (k = 3 ∧ n ≠ 1) := by
      unfold mayA at hm
      by_cases h1 : k = 1
      · rw [if_pos h1] at hm; simp at hm; omega
      · rw [if_neg h1] at hm
        by_cases h3 : k = 3
        · rw [if_pos h3] at hm; simp at hm; omega
        · rw [if_neg h3] at hm
          simp at hm
          omega
    clear hm
    rcases hcase with hc | hc | ⟨rfl, hc⟩ | ⟨rfl, hc⟩
    all_goals
      first
        | (have hne : (((n : Nat) : Int) != 2) = true := by rw [bne_iff_ne]; omega)
        | skip
      first
        | (have hne1 : (((n : Nat) : Int) != 1) = true := by rw [bne_iff_ne]; omega)
        | skip
      go_enter Try.func29, Try.ntmps29
      go_upto_region 1 with fail
      generalize w.alloc (.cells #[.int .i64 0, .int .i64 0] 35) = w1 at *
      obtain ⟨r0, r1, rz0, rz1⟩ := row2 HRB.out
      go_wp2_with fail
      have hx := put2 HRB.out (.int .i64 0) (.int .i64 0)
      obtain ⟨r0, r1, _⟩ := row2 hx
      refine bodyPost_ret (v := .tuple #[.agg #[.int .i64 0, .int .i64 0], .int .i64 1]) (by simp [results, Try.results29, go_sem, r0, r1]) rfl ?_
      rw [HM.out]
      exact ⟨rfl, .of_below HS.out ((HB1.out.setCell (by simp) _).setCell (by simp) _)⟩
  · have hmt : mayA k n = true := by simpa using hm
    have hkk := mayA_kind hmt
    have hlo : ¬ k < 1 := by omega
    have hhi : ¬ k > 9 := by omega
    have HMT := Lib.hid hmt
    have HKK := Lib.hid hkk
    have hcase : ((k == 1) = true ∧ (k == 3) = false ∧ (((n : Nat) : Int) != 2) = false) ∨ ((k == 1) = false ∧ (k == 3) = true ∧ (((n : Nat) : Int) != 1) = false) ∨ ((k == 1) = false ∧ (k == 3) = false ∧ (0 : Int) = 0) := by
      unfold mayA at hmt
      by_cases h1 : k = 1
      · rw [if_pos h1] at hmt
        simp at hmt
        refine .inl ⟨by rw [beq_iff_eq]; exact h1, by rw [beq_eq_false_iff_ne]; omega, ?_⟩
        rw [bne_eq_false_iff_eq]; omega
      · rw [if_neg h1] at hmt
        by_cases h3 : k = 3
        · rw [if_pos h3] at hmt
          simp at hmt
          refine .inr (.inl ⟨by rw [beq_eq_false_iff_ne]; omega, by rw [beq_iff_eq]; exact h3, ?_⟩)
          rw [bne_eq_false_iff_eq]; omega
        · exact .inr (.inr ⟨by rw [beq_eq_false_iff_ne]; omega, by rw [beq_eq_false_iff_ne]; omega, rfl⟩)
    clear hm hmt hkk
    rcases hcase with ⟨hc1, hc2, hc3⟩ | ⟨hc1, hc2, hc3⟩ | ⟨hc1, hc2, hc3⟩
    all_goals
      go_enter Try.func29, Try.ntmps29
      go_upto_region 1 with fail
      generalize w.alloc (.cells #[.int .i64 0, .int .i64 0] 35) = w1 at *
      go_wp2_with fail
      clear hc1 hc2 hc3 hlo hhi
      go_loopw [8] (fun v wr => ∃ i : Nat, i ≤ n ∧ v = .int .i64 (i : Nat) ∧ Below w.heap.size w wr ∧ wr.heap[w.heap.size]? = some (.cells #[.int .i64 0, .int .i64 0] 35 (0, 0)) ∧ (l.take i).all (sdV s.os.length s.ns.length) = true) (fun v _ => n - (intOf v).toNat)
      case atStart => exact ⟨0, Nat.zero_le _, rfl, HB1.out, HRB.out, by simp⟩
      case round =>
        obtain ⟨i, hi, rfl, hbel, hbox, hall⟩ := hrel
        have HBL := Lib.hid hbel
        have HBX := Lib.hid hbox
        have HAL := Lib.hid hall
        clear hbel hbox hall
        by_cases hlt : i < n
        · have hii : ((i : Nat) : Int) < ((n : Nat) : Int) := by omega
          have hil : i < l.length := by rw [← HN.out]; exact hlt
          obtain ⟨b, off, cap', he, _, q0, q1⟩ := vrow_at (HR.out.below HBL.out) hil
          simp only [Value.slice.injEq] at he
          obtain ⟨rfl, _, rfl⟩ := he
          have HTK := Lib.hid (show l.take (i + 1) = l.take i ++ [l[i]] from by rw [List.take_succ_eq_append_getElem hil])
          have HMEM := Lib.hid (List.getElem_mem hil)
          generalize hx : l[i] = x at *
          obtain ⟨x0, x1⟩ := x
          simp only at q0 q1
          clear hx
          go_wp2_with fail
          refine (rsound_any g Q s (x0, x1) wr (HS.out.below HBL.out)).mono ?_
          rintro e w3 ⟨rfl, hb3⟩
          have HB3 := Lib.hid (HBL.out.trans (hb3.mono HBL.out.size))
          have HX3 := Lib.hid ((hb3.block _ (Array.getElem?_eq_some_iff.1 HBX.out).1).trans HBX.out)
          clear hb3 q0 q1
          obtain ⟨E, hE⟩ : ∃ E, E = sdV s.os.length s.ns.length (x0, x1) := ⟨_, rfl⟩
          rw [← hE]
          have HE := Lib.hid hE
          clear hE
          cases E with
          | true =>
            go_wp2_with fail
            go_roundw
            case measure => simp only [intOf]; omega
            case rel => exact ⟨i + 1, by omega, by go_num, HB3.out, HX3.out, by rw [HTK.out, List.all_append, HAL.out]; simp [← HE.out]⟩
          | false =>
            have hnall : l.all (sdV s.os.length s.ns.length) = false := by
              rw [Bool.eq_false_iff]
              intro hn
              have := List.all_eq_true.1 hn _ HMEM.out
              rw [← HE.out] at this
              cases this
            have HM := Lib.hid (rmk_form (by rw [← HN.out]; exact HMT.out) hnall)
            clear hnall
            obtain ⟨r0, r1, rz0, rz1⟩ := row2 HX3.out
            go_wp2_with fail
            have hx := put2 HX3.out (.int .i64 0) (.int .i64 0)
            obtain ⟨r0, r1, _⟩ := row2 hx
            refine bodyPost_ret (v := .tuple #[.agg #[.int .i64 0, .int .i64 0], .int .i64 2]) (by simp [results, Try.results29, go_sem, r0, r1]) rfl ?_
            rw [HM.out]
            exact ⟨rfl, .of_below HS.out ((HB3.out.setCell (by simp) _).setCell (by simp) _)⟩
        · obtain rfl : i = n := by omega
          have hii : ¬ ((i : Nat) : Int) < ((i : Nat) : Int) := by omega
          have hall : l.all (sdV s.os.length s.ns.length) = true := by
            have := HAL.out
            rwa [HN.out, List.take_length] at this
          have HALL := Lib.hid hall
          clear hall hi hlt
          obtain ⟨ms, ov, nv, hm0⟩ := HS.out
          have HM0 := Lib.hid hm0
          clear hm0
          have hrow0 : (wr.alloc (.cells #[] 35)).ownsRow wr.heap.size 35 2 (.slice (some ⟨wr.heap.size, 0, none⟩) 0 0) 0 [] := ⟨rfl, .inr ⟨wr.heap.size, 0, #[], rfl, Nat.le_refl _, heap_alloc_new wr _, Nat.le_refl _, Nat.zero_le _, rfl, rfl⟩⟩
          have HR0 := Lib.hid hrow0
          clear hrow0
          have hrl := (HR.out.below HBL.out).below (below1 wr (.cells #[] 35))
          rw [← HN.out] at hrl
          have HRL := Lib.hid hrl
          clear hrl
          have hi0 := HI.out.1
          have hz0 := HI.out.2.1
          have hz1 := HI.out.2.2.1
          have hz2 := HI.out.2.2.2
          go_wp2_with (at_builtin; go_loud (refine wpList_append_row _ rfl _ _ 33 rfl wr.heap.size 35 i0 _ 2 16 Try.underlying33 hi0 hz0 hz1 hz2 rfl (by decide) (.slice (some ⟨wr.heap.size, 0, none⟩) 0 0) 0 [] rfl HR0.out _ i (vcs l) rfl HRL.out (vcs_one _) (by unfold maxLen; omega) (by omega) (by simp) ?_); go_loud (intro v' w7 hown7 hgrow7 hmv7; rw [Nat.zero_add, List.nil_append] at hown7; obtain ⟨vo, vc, hv7⟩ := own_dslice hown7; subst hv7; have HO7 := Lib.hid hown7; have HG7 := Lib.hid hgrow7; clear hown7 hgrow7 hmv7 hi0 hz0 hz1 hz2))
          have hwb : w.heap.size ≤ wr.heap.size := HBL.out.size
          have HQW : Hid (∀ b, w.heap.size ≤ b → Q b = 0) := Lib.hid fun b hb => Classical.byContradiction fun hn => by have := HM0.out.lt b hn; omega
          have hb7 : Below w.heap.size w w7 := (HBL.out.trans ((below1 wr _).mono hwb)).grown HG7.out (by simp; omega) (fun q hq => by injection hq with hq; simp only at hq; omega)
          have hk7 : Keeps (fun b => Q b ≠ 0) w w7 := Keeps.of_below hb7
          have HM7 := Lib.hid (HM0.out.keep hk7)
          have HB7 := Lib.hid hb7
          have HX7 := Lib.hid ((HG7.out.block w.heap.size (by simp; omega) (fun e => by injection e with e; simp only at e; have := (Array.getElem?_eq_some_iff.1 HBX.out).1; omega)).trans ((Below.heap_alloc wr _ _ (Array.getElem?_eq_some_iff.1 HBX.out).1).trans HBX.out))
          have HSO : Hid (w7.ownsRow 0 35 2 (.slice vo i vc) l.length (vcs l)) := Lib.hid (by have := ownsRow_base HO7.out (Nat.zero_le _); rw [HN.out] at this ⊢; exact this)
          have HSQ : Hid (∀ b, (Value.slice vo i vc).ownBlock = some b → Q b = 0) := Lib.hid fun b hb => HQW.out b (by have := (HO7.out.lt b hb).1; omega)
          clear hb7 hk7 hwb
          have HPUT := Lib.hid (rput_any g Q s ms ov nv ⟨⟨k, 1 + l.length, l, none⟩, .slice vo i vc⟩ w7 HM7.out HSO.out HSQ.out rfl rfl (by have := HKK.out; simp only; omega) (by rw [← HN.out]; exact hnl) HALL.out)
          refine (show Calls _ _ _ _ _ from HPUT.out).mono ?_
          rintro e w8 (⟨hfull, rfl, hb8⟩ | ⟨hroom, rfl, hfr8, Q', hrs8, hq1, hq2⟩)
          · have HM := Lib.hid (rmk_full (s := s) (k := k) (l := l) (by rw [← HN.out]; exact HMT.out) HALL.out hfull)
            have HB8 := Lib.hid (HB7.out.trans (hb8.mono HB7.out.size))
            have HX8 := Lib.hid ((hb8.block _ (Array.getElem?_eq_some_iff.1 HX7.out).1).trans HX7.out)
            clear hfull hb8
            obtain ⟨r0, r1, rz0, rz1⟩ := row2 HX8.out
            go_wp2_with fail
            have hx := put2 HX8.out (.int .i64 0) (.int .i64 0)
            obtain ⟨r0, r1, _⟩ := row2 hx
            refine bodyPost_ret (v := .tuple #[.agg #[.int .i64 0, .int .i64 0], .int .i64 16]) (by simp [results, Try.results29, go_sem, r0, r1]) rfl ?_
            rw [HM.out]
            exact ⟨rfl, .of_below HS.out ((HB8.out.setCell (by simp) _).setCell (by simp) _)⟩
          · have HM := Lib.hid (rmk_ok (s := s) (k := k) (l := l) (by rw [← HN.out]; exact HMT.out) HALL.out (by have : s.U + (1 + l.length) ≤ s.L := hroom; omega))
            have HX8 := Lib.hid ((hfr8.blk w.heap.size (Array.getElem?_eq_some_iff.1 HX7.out).1 (HQW.out _ (Nat.le_refl _))).trans HX7.out)
            have hq0 : Q' w.heap.size = 0 := Classical.byContradiction fun hn => by
              rcases hq2 _ hn with h | h | h
              · exact h (HQW.out _ (Nat.le_refl _))
              · have := (HO7.out.lt _ h).1; have := (Array.getElem?_eq_some_iff.1 HBX.out).1; omega
              · have := (Array.getElem?_eq_some_iff.1 HX7.out).1; omega
            have HQ0 := Lib.hid hq0
            have HRS := Lib.hid hrs8
            have HFR := Lib.hid ((Fr.of_below HB7.out).tr hfr8)
            have HQI : Hid (∀ b, b < w.heap.size → (Q' b = 0 ↔ Q b = 0)) := Lib.hid fun b hb => ⟨fun h0 => Classical.byContradiction fun hn => by have := hq1 b hn; omega, fun h0 => Classical.byContradiction fun hn => by
              rcases hq2 b hn with h | h | h
              · exact h h0
              · have := (HO7.out.lt _ h).1; have := HBL.out.size; omega
              · have := HB7.out.size; omega⟩
            clear hroom hfr8 hrs8 hq1 hq2 hq0
            obtain ⟨r0, r1, rz0, rz1⟩ := row2 HX8.out
            go_wp2_with fail
            have hx := put2 HX8.out (.int .i64 7) (.int .i64 ((s.os.length : Nat) : Int))
            obtain ⟨r0, r1, _⟩ := row2 hx
            refine bodyPost_ret (v := .tuple #[.agg #[.int .i64 7, .int .i64 ((s.os.length : Nat) : Int)], .int .i64 0]) (by simp [results, Try.results29, go_sem, r0, r1]) rfl ?_
            rw [HM.out]
            refine ⟨rfl, Q', HRS.out.keep (((Keeps.refl (fun b => Q' b ≠ 0) _).set (p := ⟨w.heap.size, 0, none⟩) (fun h => h HQ0.out) _).set (p := ⟨w.heap.size, 1, none⟩) (fun h => h HQ0.out) _), ?_, HQI.out⟩
            exact (HFR.out.set (p := ⟨w.heap.size, 0, none⟩) (.inl (Nat.le_refl _)) _).set (p := ⟨w.heap.size, 1, none⟩) (.inl (Nat.le_refl _)) _
end Go.Proofs.Ytioidaojnbenbaa
