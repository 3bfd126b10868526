/- The document's answer's list: Get and Set. -/
import Derived.Test.YtioidaojnbenbaaRsRead
namespace Go.Proofs.Ytioidaojnbenbaa
open Go.RowKit

theorem rnews2 {w : World} {a b : Obj} : ((w.alloc a).alloc b).heap[w.heap.size]? = some a ∧ ((w.alloc a).alloc b).heap[w.heap.size + 1]? = some b := by
  refine ⟨?_, ?_⟩
  · rw [Below.heap_alloc _ _ _ (by simp)]; exact heap_alloc_new w _
  · have := heap_alloc_new (w.alloc a) b
    simpa using this
theorem put2 {W : World} {g : Nat} {a0 a1 : Value} {e : TypeId} (h : W.heap[g]? = some (.cells #[a0, a1] e (0, 0))) (b0 b1 : Value) : ((W.setCell ⟨g, 0, none⟩ b0).setCell ⟨g, 1, none⟩ b1).heap[g]? = some (.cells #[b0, b1] e (0, 0)) := (rowSet (rowSet h 0 b0) 1 b1).trans (by simp)
/-- Every object has a kind. -/
def St.Kd (s : St) : Prop := ∀ o ∈ s.os, 1 ≤ o.k
theorem rgt_none {s : St} {v : Int × Int} {i : Int} (h : s.obj v = none) : s.get v i = ((0, 0), 10) := by unfold St.get; rw [h]
theorem rgt_neg {s : St} {v : Int × Int} {i : Int} {o : Ob} (h : s.obj v = some o) (hi : i < 0) : s.get v i = ((0, 0), 12) := by unfold St.get; rw [h]; simp only; rw [if_neg (by omega)]
theorem rgt_far {s : St} {v : Int × Int} {i : Int} {o : Ob} (h : s.obj v = some o) (hi : (o.s.length : Int) ≤ i) : s.get v i = ((0, 0), 12) := by
  unfold St.get; rw [h]; simp only; rw [if_pos (by omega), List.getElem?_eq_none (by omega)]
theorem rgt_in {s : St} {v : Int × Int} {j : Nat} {o : Ob} (h : s.obj v = some o) (hj : j < o.s.length) : s.get v (j : Int) = (o.s[j]'hj, 0) := by
  unfold St.get; rw [h]; simp only; rw [if_pos (by omega), Int.toNat_natCast, List.getElem?_eq_getElem hj]
theorem obj_slots {s : St} {v : Int × Int} {o : Ob} (h : s.obj v = some o) : s.slots v = o.s := by unfold St.slots; rw [h]
theorem obj_kind {s : St} {v : Int × Int} {o : Ob} (h : s.obj v = some o) : s.kind v = o.k := by unfold St.kind; rw [h]

set_option maxRecDepth 100000 in
set_option maxHeartbeats 2000000 in
theorem rget_any (g : Nat) (Q : Nat → Nat) (s : St) (v : Int × Int) (i : Int) (w : World) (h : RsW w g Q s) (hkd : s.Kd) :
    Calls Try.prog 31 #[.pointer (some ⟨g, 0, none⟩), .agg #[.int .i64 v.1, .int .i64 v.2], .int .i64 i] w fun e w' => e = .returned (.tuple #[.agg #[.int .i64 (s.get v i).1.1, .int .i64 (s.get v i).1.2], .int .i64 (s.get v i).2]) ∧ Below w.heap.size w w' := by
  have HS := Lib.hid h
  have HKD := Lib.hid hkd
  have HB2 := Lib.hid (below2 w (.cells #[.int .i64 v.1, .int .i64 v.2] 35) (.cells #[.int .i64 0, .int .i64 0] 35))
  obtain ⟨n0, n1⟩ := @rnews2 w (.cells #[.int .i64 v.1, .int .i64 v.2] 35) (.cells #[.int .i64 0, .int .i64 0] 35)
  have HN0 := Lib.hid n0
  have HN1 := Lib.hid n1
  obtain ⟨K, hK⟩ : ∃ K, K = s.kind v := ⟨_, rfl⟩
  have HK : Hid (∀ W, RsW W g Q s → Calls Try.prog 39 #[.pointer (some ⟨g, 0, none⟩), .agg #[.int .i64 v.1, .int .i64 v.2]] W fun e w' => e = .returned (.int .i64 K) ∧ Below W.heap.size W w') := Lib.hid fun W hW => by rw [hK]; exact rkind_any g Q s v W hW
  have HKE := Lib.hid hK
  clear h hkd n0 n1 hK
  go_enter Try.func31, Try.ntmps31
  go_upto_region 1 with fail
  generalize (w.alloc (.cells #[.int .i64 v.1, .int .i64 v.2] 35)).alloc (.cells #[.int .i64 0, .int .i64 0] 35) = w1 at *
  obtain ⟨p0, p1, _⟩ := row2 HN0.out
  go_wp2_with fail
  refine (HK.out w1 (HS.out.below HB2.out)).mono ?_
  rintro e w2 ⟨rfl, hb2⟩
  have HB3 := Lib.hid (HB2.out.trans (hb2.mono HB2.out.size))
  have HM0 := Lib.hid ((hb2.block _ (Array.getElem?_eq_some_iff.1 HN0.out).1).trans HN0.out)
  have HM1 := Lib.hid ((hb2.block _ (Array.getElem?_eq_some_iff.1 HN1.out).1).trans HN1.out)
  clear hb2 p0 p1
  cases ho : s.obj v with
  | none =>
    have hk0 : K = 0 := by rw [HKE.out]; unfold St.kind; rw [ho]
    subst hk0
    have HG := Lib.hid (rgt_none (i := i) ho)
    clear ho
    obtain ⟨r0, r1, z0, z1⟩ := row2 HM1.out
    go_wp2_with fail
    have hx := put2 HM1.out (.int .i64 0) (.int .i64 0)
    obtain ⟨r0, r1, _⟩ := row2 hx
    refine bodyPost_ret (v := .tuple #[.agg #[.int .i64 0, .int .i64 0], .int .i64 10]) (by simp [results, Try.results31, go_sem, r0, r1]) rfl ⟨by rw [HG.out], ?_⟩
    exact (HB3.out.setCell (by simp) _).setCell (by simp) _
  | some o =>
    have hk1 : 1 ≤ K := by rw [HKE.out, obj_kind ho]; exact HKD.out o (List.mem_of_getElem? (St.obj_some ho).2.2.2)
    have hkf : (K == 0) = false := by rw [beq_eq_false_iff_ne]; omega
    have HO := Lib.hid ho
    clear ho hk1
    obtain ⟨p0, p1, _⟩ := row2 HM0.out
    go_wp2_with fail
    refine (rslots_any g Q s v w2 (HS.out.below HB3.out)).mono ?_
    rintro e w3 ⟨lv, rfl, hb3, hrv, _⟩
    have HB4 := Lib.hid (HB3.out.trans (hb3.mono HB3.out.size))
    have HL1 := Lib.hid ((hb3.block _ (Array.getElem?_eq_some_iff.1 HM1.out).1).trans HM1.out)
    rw [obj_slots HO.out] at hrv
    have HRV := Lib.hid hrv
    obtain ⟨_, _, la, lc, rfl, _⟩ := hrv
    clear hb3 p0 p1 hkf
    obtain ⟨r0, r1, z0, z1⟩ := row2 HL1.out
    by_cases hneg : i < 0
    · have HG := Lib.hid (rgt_neg HO.out hneg)
      go_wp2_with fail
      have hx := put2 HL1.out (.int .i64 0) (.int .i64 0)
      obtain ⟨r0, r1, _⟩ := row2 hx
      refine bodyPost_ret (v := .tuple #[.agg #[.int .i64 0, .int .i64 0], .int .i64 12]) (by simp [results, Try.results31, go_sem, r0, r1]) rfl ⟨by rw [HG.out], ?_⟩
      exact (HB4.out.setCell (by simp) _).setCell (by simp) _
    · by_cases hfar : i ≥ ((o.s.length : Nat) : Int)
      · have HG := Lib.hid (rgt_far HO.out hfar)
        go_wp2_with fail
        have hx := put2 HL1.out (.int .i64 0) (.int .i64 0)
        obtain ⟨r0, r1, _⟩ := row2 hx
        refine bodyPost_ret (v := .tuple #[.agg #[.int .i64 0, .int .i64 0], .int .i64 12]) (by simp [results, Try.results31, go_sem, r0, r1]) rfl ⟨by rw [HG.out], ?_⟩
        exact (HB4.out.setCell (by simp) _).setCell (by simp) _
      · obtain ⟨j, rfl⟩ : ∃ j : Nat, i = (j : Int) := ⟨i.toNat, by omega⟩
        have hj : j < o.s.length := by omega
        have HG := Lib.hid (rgt_in HO.out hj)
        obtain ⟨b, off, cap', he, hbl, q0, q1⟩ := vrow_at HRV.out hj
        simp only [Value.slice.injEq, true_and] at he
        obtain ⟨rfl, rfl⟩ := he
        generalize hx : o.s[j] = x at *
        obtain ⟨x0, x1⟩ := x
        simp only at q0 q1
        have HX := Lib.hid hx
        clear hx
        go_wp2_with fail
        have hx := put2 HL1.out (.int .i64 x0) (.int .i64 x1)
        obtain ⟨r0, r1, _⟩ := row2 hx
        refine bodyPost_ret (v := .tuple #[.agg #[.int .i64 x0, .int .i64 x1], .int .i64 0]) (by simp [results, Try.results31, go_sem, r0, r1]) rfl ⟨by rw [HG.out], ?_⟩
        exact (HB4.out.setCell (by simp) _).setCell (by simp) _

theorem setA_get {s : St} {v x : Int × Int} {i : Int} (h : (s.get v i).2 ≠ 0) : s.setA v i x = ((s.get v i).2, s) := by unfold St.setA; rw [if_pos h]
theorem setA_bad {s : St} {v x : Int × Int} {i : Int} (h : (s.get v i).2 = 0) (hx : sdV s.os.length s.ns.length x = false) : s.setA v i x = (2, s) := by unfold St.setA; rw [if_neg (by rw [h]; simp), if_pos hx]
theorem setA_ok {s : St} {v x : Int × Int} {i : Int} (h : (s.get v i).2 = 0) (hx : sdV s.os.length s.ns.length x = true) : s.setA v i x = (0, s.put v.2.toNat i.toNat x) := by unfold St.setA; rw [if_neg (by rw [h]; simp), if_neg (by rw [hx]; simp)]
theorem get_is {s : St} {v : Int × Int} {i : Int} (h : (s.get v i).2 = 0) : ∃ o, s.obj v = some o ∧ ∃ j : Nat, i = (j : Int) ∧ j < o.s.length := by
  unfold St.get at h
  cases ho : s.obj v with
  | none => rw [ho] at h; simp at h
  | some o =>
    rw [ho] at h
    simp only at h
    split at h
    · rename_i h0
      refine ⟨o, rfl, i.toNat, by omega, ?_⟩
      cases hx : o.s[i.toNat]? with
      | none => rw [hx] at h; simp at h
      | some x => exact (List.getElem?_eq_some_iff.1 hx).1
    · simp at h

set_option maxRecDepth 100000 in
set_option maxHeartbeats 2000000 in
theorem rset_any (g : Nat) (Q : Nat → Nat) (s : St) (v : Int × Int) (i : Int) (x : Int × Int) (w : World) (h : RsW w g Q s) (hkd : s.Kd) :
    Calls Try.prog 30 #[.pointer (some ⟨g, 0, none⟩), .agg #[.int .i64 v.1, .int .i64 v.2], .int .i64 i, .agg #[.int .i64 x.1, .int .i64 x.2]] w fun e w' => e = .returned (.int .i64 (s.setA v i x).1) ∧ RsP w g Q (s.setA v i x).2 w' := by
  have HS := Lib.hid h
  have HKD := Lib.hid hkd
  have HB2 := Lib.hid (below2 w (.cells #[.int .i64 v.1, .int .i64 v.2] 35) (.cells #[.int .i64 x.1, .int .i64 x.2] 35))
  obtain ⟨n0, n1⟩ := @rnews2 w (.cells #[.int .i64 v.1, .int .i64 v.2] 35) (.cells #[.int .i64 x.1, .int .i64 x.2] 35)
  have HN0 := Lib.hid n0
  have HN1 := Lib.hid n1
  clear h hkd n0 n1
  go_enter Try.func30, Try.ntmps30
  go_upto_region 1 with fail
  generalize (w.alloc (.cells #[.int .i64 v.1, .int .i64 v.2] 35)).alloc (.cells #[.int .i64 x.1, .int .i64 x.2] 35) = w1 at *
  obtain ⟨p0, p1, _⟩ := row2 HN0.out
  go_wp2_with fail
  refine (rget_any g Q s v i w1 (HS.out.below HB2.out) HKD.out).mono ?_
  rintro e w2 ⟨rfl, hb2⟩
  have HB3 := Lib.hid (HB2.out.trans (hb2.mono HB2.out.size))
  have HM0 := Lib.hid ((hb2.block _ (Array.getElem?_eq_some_iff.1 HN0.out).1).trans HN0.out)
  have HM1 := Lib.hid ((hb2.block _ (Array.getElem?_eq_some_iff.1 HN1.out).1).trans HN1.out)
  clear hb2 p0 p1
  obtain ⟨G, hG⟩ : ∃ G, G = s.get v i := ⟨_, rfl⟩
  rw [← hG]
  have HG := Lib.hid hG
  clear hG
  obtain ⟨⟨g0, g1⟩, ge⟩ := G
  simp only
  have HB4 := Lib.hid (HB3.out.trans ((below1 w2 (.cells #[.int .i64 g0, .int .i64 g1] 35)).mono HB3.out.size))
  have HM0' := Lib.hid (((below1 w2 (.cells #[.int .i64 g0, .int .i64 g1] 35)).block _ (Array.getElem?_eq_some_iff.1 HM0.out).1).trans HM0.out)
  have HM1' := Lib.hid (((below1 w2 (.cells #[.int .i64 g0, .int .i64 g1] 35)).block _ (Array.getElem?_eq_some_iff.1 HM1.out).1).trans HM1.out)
  go_upto_region 2 with fail
  generalize w2.alloc (.cells #[.int .i64 g0, .int .i64 g1] 35) = w3 at *
  by_cases he : ge = 0
  · have hget : (s.get v i).2 = 0 := by rw [← HG.out]; exact he
    subst he
    obtain ⟨q0, q1, _⟩ := row2 HM1'.out
    go_wp2_with fail
    refine (rsound_any g Q s x w3 (HS.out.below HB4.out)).mono ?_
    rintro e w4 ⟨rfl, hb4⟩
    have HB5 := Lib.hid (HB4.out.trans (hb4.mono HB4.out.size))
    have HL0 := Lib.hid ((hb4.block _ (Array.getElem?_eq_some_iff.1 HM0'.out).1).trans HM0'.out)
    have HL1 := Lib.hid ((hb4.block _ (Array.getElem?_eq_some_iff.1 HM1'.out).1).trans HM1'.out)
    clear hb4 q0 q1
    obtain ⟨E, hE⟩ : ∃ E, E = sdV s.os.length s.ns.length x := ⟨_, rfl⟩
    rw [← hE]
    cases E with
    | false =>
      have HR := Lib.hid (setA_bad hget hE.symm)
      clear hE hget
      go_wp2_with fail
      go_ret
      rw [HR.out]
      exact ⟨rfl, .of_below HS.out HB5.out⟩
    | true =>
      have HR := Lib.hid (setA_ok hget hE.symm)
      have HE := Lib.hid hE
      obtain ⟨o, ho, j, hij, hj⟩ := get_is hget
      obtain ⟨ms, ov, nv, hm⟩ := HS.out
      obtain ⟨h7, hge, hlt, hat⟩ := St.obj_some ho
      obtain ⟨k, hk, hvk, hok⟩ := hm.objIs h7 (by rw [sdV_obj h7, decide_eq_true_iff]; omega)
      have hoe : o = (ms[k]'hk).o := Option.some.inj (ho.symm.trans hok)
      have hm5 := hm.below HB5.out
      obtain ⟨⟨c0, c1, c2, c3⟩, _⟩ := hm5.boxf
      obtain ⟨b, cap, rfl, hcap, _, _, q0, q1⟩ := hm5.objAt hk
      have hjk : j < (ms[k]'hk).o.s.length := by rw [← hoe]; exact hj
      obtain ⟨sb, sc, hsv, hscap, hsq, hsl, _, _, hsz⟩ := hm5.slotAt hk hjk
      have hzz0 := hsz (j * 2)
      have hzz1 := hsz (j * 2 + 1)
      obtain ⟨ms', hput⟩ := hm5.put hk hjk x hE.symm hsv
      rw [hsv] at q1
      have hv2 : v.2 = (k : Int) := by rw [hvk]
      have HPUT := Lib.hid hput
      have HRES : Hid (s.put v.2.toNat i.toNat x = s.put k j x) := Lib.hid (by rw [hv2, hij]; rfl)
      obtain ⟨p0, p1, _⟩ := row2 HL0.out
      obtain ⟨x0, x1, _⟩ := row2 HL1.out
      rw [hv2] at p1
      have hix : ((k : Nat) : Int) < ((ms.length : Nat) : Int) := by omega
      have hjx : ((j : Nat) : Int) < (((ms[k]'hk).o.s.length : Nat) : Int) := by omega
      have HSB : Hid (Q sb ≠ 0 ∧ sb < w4.heap.size) := Lib.hid ⟨by omega, hsl⟩
      subst hij
      clear hE hget ho hvk hok hoe hm hm5 hput hv2 h7 hge hlt hat hj hsv hsz
      go_wp2_with fail
      go_region
      go_wp2_with fail
      go_ret
      rw [HR.out, HRES.out]
      refine ⟨rfl, Q, ?_, ?_, fun _ _ => Iff.rfl⟩
      · first
          | exact ⟨_, _, _, HPUT.out⟩
          | exact ⟨_, _, _, HPUT.out.below ((Below.refl _ _).drew)⟩
      · first
          | exact ((Fr.of_below HB5.out).set (p := ⟨sb, j * 2, none⟩) (.inr HSB.out.1) _).set (p := ⟨sb, j * 2 + 1, none⟩) (.inr HSB.out.1) _
          | exact (((Fr.of_below HB5.out).set (p := ⟨sb, j * 2, none⟩) (.inr HSB.out.1) _).set (p := ⟨sb, j * 2 + 1, none⟩) (.inr HSB.out.1) _).drew
  · have HR := Lib.hid (setA_get (x := x) (s := s) (v := v) (i := i) (by rw [← HG.out]; exact he))
    have hef : (ge != 0) = true := by rw [bne_iff_ne]; exact he
    go_wp2_with fail
    go_ret
    rw [HR.out, ← HG.out]
    exact ⟨rfl, .of_below HS.out HB4.out⟩
end Go.Proofs.Ytioidaojnbenbaa
