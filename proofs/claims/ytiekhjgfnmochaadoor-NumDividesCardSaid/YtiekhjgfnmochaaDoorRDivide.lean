/- ref.Divide of sound numbers, the second not nought -/
import Derived.Test.YtiekhjgfnmochaaDoorDivide
import Derived.Test.YtiekhjgfnmochaaDoorRDivMath
import Derived.Test.YtiekhjgfnmochaaDoorApp
import Derived.Test.YtiekhjgfnmochaaDoorRPlus
import Derived.Test.YtiekhjgfnmochaaDoorRMake
import Derived.Test.YtiekhjgfnmochaaDoorAnyRes
namespace Go.Proofs.YtiekhjgfnmochaaDoor
open Go.RowKit
open DV

theorem dig_len2 {xs ds : List Nat} (hx : Lb xs) (hl : xs.length ≤ 64) (hb : Db ds) (ht : Top ds) (hv : dval ds = val xs) : ds.length ≤ 576 := by
  obtain ⟨n, hn⟩ : ∃ n, n = 64 := ⟨_, rfl⟩
  rw [← hn] at hl
  have h1 : dval ds < 10 ^ (9 * n) := by
    rw [hv, pow9]
    exact Nat.lt_of_lt_of_le (val_lt hx) (Nat.pow_le_pow_right (by omega) hl)
  have := (ht.len hb).2 h1
  clear h1
  omega
theorem own_one (w : World) (e : TypeId) (u : Value) {base : Nat} (hb : base ≤ w.heap.size) : (w.alloc (.cells #[u] e)).ownsRow base e 1 (.slice (some ⟨w.heap.size, 0, none⟩) 1 1) 1 [u] :=
  ⟨by simp, .inr ⟨w.heap.size, 1, #[u], rfl, hb, heap_alloc_new w _, Nat.le_refl _, by unfold maxLen; omega, by simp, by simp⟩⟩

set_option maxRecDepth 100000 in
set_option maxHeartbeats 4000000 in
theorem rdivide_ok (n1 n2 : Bool) (s1 s2 : Value) (xs ys : List Nat) (w : World) (hs1 : Sl .u32 w s1 xs) (hs2 : Sl .u32 w s2 ys) (hx : Snd n1 xs) (hy : Snd n2 ys) (hne : ys ≠ []) :
    Calls Tryd.prog 35 #[.agg #[.bool n1, s1], .agg #[.bool n2, s2]] w (DivPost n1 n2 xs ys w) := by
  obtain ⟨i0, hi, hz0, hz1, hz2⟩ := info_parts infoB
  have HS1 := Lib.hid hs1
  have HS2 := Lib.hid hs2
  obtain ⟨q1, ao1, cap1, rfl, hcap1, q2⟩ := hs1
  obtain ⟨q3, ao2, cap2, rfl, hcap2, q4⟩ := hs2
  clear q1 q2 q3 q4
  have HP := Lib.hid (snd_pos hy hne)
  have HX := Lib.hid hx; clear hx
  have HY := Lib.hid hy; clear hy
  have HNE := Lib.hid hne
  clear hne
  have hA0 := (Env.nil w).push (n := n1) HS1.out
  have hA1 := hA0.push (n := n2) (HS2.out.below (below1 w (.cells #[.bool n1, .slice ao1 xs.length cap1] 24)))
  have hA := Lib.hid ((hA1.alloc (.cells #[.bool false, .slice none 0 0] 24)).alloc (.cells #[.bool false, .slice none 0 0] 24))
  have hB := Lib.hid (((below2 w (.cells #[.bool n1, .slice ao1 xs.length cap1] 24) (.cells #[.bool n2, .slice ao2 ys.length cap2] 24)).alloc (by simp; omega) (.cells #[.bool false, .slice none 0 0] 24)).alloc (by simp; omega) (.cells #[.bool false, .slice none 0 0] 24))
  have hQ := Lib.hid ((ZB.new ((w.alloc (.cells #[.bool n1, .slice ao1 xs.length cap1] 24)).alloc (.cells #[.bool n2, .slice ao2 ys.length cap2] 24))).alloc (.cells #[.bool false, .slice none 0 0] 24))
  have hR := Lib.hid (ZB.new (((w.alloc (.cells #[.bool n1, .slice ao1 xs.length cap1] 24)).alloc (.cells #[.bool n2, .slice ao2 ys.length cap2] 24)).alloc (.cells #[.bool false, .slice none 0 0] 24)))
  simp only [World.size_alloc] at hA hQ hR
  clear hA0 hA1
  go_enter Tryd.func35, Tryd.ntmps35
  go_wp2_with fail
  generalize ((((w.alloc (.cells #[.bool n1, .slice ao1 xs.length cap1] 24)).alloc (.cells #[.bool n2, .slice ao2 ys.length cap2] 24)).alloc (.cells #[.bool false, .slice none 0 0] 24)).alloc (.cells #[.bool false, .slice none 0 0] 24)) = W at *
  replace hA := hA.out
  replace hB := hB.out
  replace hQ := hQ.out
  replace hR := hR.out
  have M1 : Hid ((w.heap.size, n1, Value.slice ao1 xs.length cap1, xs) ∈ [(w.heap.size + 1, n2, Value.slice ao2 ys.length cap2, ys), (w.heap.size, n1, Value.slice ao1 xs.length cap1, xs)]) := Lib.hid (by simp)
  have M2 : Hid ((w.heap.size + 1, n2, Value.slice ao2 ys.length cap2, ys) ∈ [(w.heap.size + 1, n2, Value.slice ao2 ys.length cap2, ys), (w.heap.size, n1, Value.slice ao1 xs.length cap1, xs)]) := Lib.hid (by simp)
  refine (rsound_any n1 _ xs _ (hA.sl M1.out) HX.out.2.1.wide).mono ?_
  rintro e w1 ⟨rfl, hb⟩
  rw [sndB_true HX.out]
  replace hB := hB.trans (hb.mono hB.size)
  replace hA := hA.step hb
  replace hQ := hQ.step hb
  replace hR := hR.step hb
  clear hb
  obtain ⟨p0, p1⟩ := hA.cells M2.out
  go_wp2_with fail
  refine (rsound_any n2 _ ys _ (hA.sl M2.out) HY.out.2.1.wide).mono ?_
  rintro e w2 ⟨rfl, hb⟩
  rw [sndB_true HY.out]
  replace hB := hB.trans (hb.mono hB.size)
  replace hA := hA.step hb
  replace hQ := hQ.step hb
  replace hR := hR.step hb
  clear hb p0 p1
  obtain ⟨p0, p1⟩ := hA.cells M2.out
  go_wp2_with fail
  have hx1 := HX.out.1
  have hy1 := HY.out.1
  refine (digits_any n2 _ ys _ (hA.sl M2.out) HY.out.2.1 (by omega)).mono ?_
  rintro e w3 ⟨vb, dbs, rfl, hsb, hdb, htb, hvb, hb⟩
  replace hB := hB.trans (hb.mono hB.size)
  replace hA := hA.step hb
  replace hQ := hQ.step hb
  replace hR := hR.step hb
  clear hb p0 p1
  have hlb : dbs.length ≤ 576 := dig_len2 HY.out.2.1 hy1 hdb htb hvb
  have hlp : 1 ≤ dbs.length := by
    rcases dbs with _ | ⟨d, ds⟩
    · have : val ys = 0 := by rw [← hvb]; rfl
      have := HP.out
      omega
    · simp
  have HSB := Lib.hid hsb
  obtain ⟨_, bo2, bc2, rfl, _, _⟩ := hsb
  have HDB := Lib.hid hdb; clear hdb
  have HTB := Lib.hid htb; clear htb
  have HVB := Lib.hid hvb; clear hvb
  have hb0 : (((dbs.length : Nat) : Int) == 0) = false := by rw [beq_eq_false_iff_ne]; omega
  obtain ⟨p0, p1⟩ := hA.cells M1.out
  go_wp2_with fail
  refine (digits_any n1 _ xs _ (hA.sl M1.out) HX.out.2.1 (by omega)).mono ?_
  rintro e w4 ⟨va, das, rfl, hsa, hda, hta, hva, hb⟩
  replace hB := hB.trans (hb.mono hB.size)
  replace hA := hA.step hb
  replace hQ := hQ.step hb
  replace hR := hR.step hb
  have HSB4 := Lib.hid (HSB.out.below hb)
  clear hb p0 p1 HSB
  have hla : das.length < 1000000 := dig_len HX.out.2.1 hx1 hda hta hva
  have HSA := Lib.hid hsa
  obtain ⟨_, bo1, bc1, rfl, _, _⟩ := hsa
  have HDA := Lib.hid hda; clear hda hta
  have HVA := Lib.hid hva; clear hva
  have HY1 := Lib.hid hy1
  clear hx1 hy1
  go_wp2_with (at_make; refine wpList_make_full _ rfl _ _ 44 rfl w4.heap.size 5 i0 (.int .u8 0) 1 Tryd.underlying44 hi hz0 hz1 _ _ _ _ das.length rfl rfl (by omega) (by omega) (by rw [hz2]; omega) (by unfold maxLen; omega) (by omega) ?_; intro w5 hown hgrow)
  have hrow : Row .u8 5 w5 w4.heap.size (List.replicate das.length 0) := Row.of_made hown
  have hbm : Below w4.heap.size w4 w5 := (Below.refl _ w4).grown hgrow (Nat.le_refl _) (fun _ h => by cases h)
  clear hown hgrow
  have HIN := Lib.hid (QInv.start das (Y := val ys) HP.out)
  have hwg := hrow.lt
  go_loopw [10, 11] (fun v i wr => ∃ (rs qs : List Nat) (k : Nat), k ≤ das.length ∧ i = .int .i64 ((k : Int) - 1) ∧ Sl .u8 wr v rs ∧ Db rs ∧ Top rs ∧ QInv das qs (val ys) k (dval rs) ∧ Row .u8 5 wr w4.heap.size qs ∧ Below w4.heap.size w4 wr) (fun _ i _ => (intOf i + 1).toNat)
  case atStart => exact ⟨[], _, das.length, Nat.le_refl _, by go_num, Sl.nil _ _, Db.nil, fun h => absurd rfl h, HIN.out, hrow, hbm⟩
  case round =>
    clear hrow hbm hwg HIN
    obtain ⟨rs, qs, k, hk, rfl, hsr, hdr, htr, hinv, hrow, hbel⟩ := hrel
    rcases k with _ | k
    · have HN := Lib.hid hinv.done
      have HQB := Lib.hid hinv.b
      have HQL := Lib.hid hinv.len
      have HDR := Lib.hid hdr; clear hdr htr hinv
      have hA6 := hA.step (hbel.mono (Nat.le_refl _))
      have hQ6 := hQ.step (hbel.mono (Nat.le_refl _))
      have hR6 := hR.step (hbel.mono (Nat.le_refl _))
      have hB6 := hB.trans (hbel.mono hB.size)
      clear hA hQ hR hB
      obtain ⟨p0, p1⟩ := hA6.cells M1.out
      obtain ⟨p2, p3⟩ := hA6.cells M2.out
      have hsq := hrow.sl_all (n := das.length) (cap := das.length) HQL.out.symm (Nat.le_refl _) (by unfold maxLen; omega)
      have HSQ := Lib.hid hsq
      have HSRR := Lib.hid hsr
      obtain ⟨_, rao, rcap, rfl, _, _⟩ := hsr
      clear hrow hsq
      go_wp2_with fail
      refine (rmake_any (!(n1 == n2)) _ qs _ HSQ.out HQB.out).mono ?_
      rintro e w7 ⟨v7, neg7, us, ok7, rfl, ⟨sv7, rfl, hsl7⟩, hb, hres7⟩
      have HR7 := Lib.hid hres7
      have HS7 := Lib.hid hsl7
      obtain ⟨_, ao7, cap7, rfl, _, _⟩ := hsl7
      have hA7 := hA6.step hb
      have hQ7 := hQ6.step hb
      have hR7 := hR6.step hb
      have hB7 := hB6.trans (hb.mono hB6.size)
      have HSRR7 := Lib.hid (HSRR.out.below hb)
      clear hA6 hQ6 hR6 hB6 p0 p1 p2 p3 hb hres7 HSRR
      have gq7 := hQ7.lt
      have gr7 := hR7.lt
      have hA8 := hA7.push (n := neg7) HS7.out
      have hB8 := hB7.alloc hB7.size (.cells #[.bool neg7, .slice ao7 us.length cap7] 24)
      have hQ8 := hQ7.alloc (.cells #[.bool neg7, .slice ao7 us.length cap7] 24)
      have hR8 := hR7.alloc (.cells #[.bool neg7, .slice ao7 us.length cap7] 24)
      have HSRR8 := Lib.hid (HSRR7.out.below (below1 w7 (.cells #[.bool neg7, .slice ao7 us.length cap7] 24)))
      obtain ⟨p0, p1⟩ := hA8.cells (List.mem_cons_of_mem _ M1.out)
      have hgu := hB7.size
      clear hA7 hB7 hQ7 hR7
      go_wp2_with fail
      generalize hW8 : w7.alloc (.cells #[.bool neg7, .slice ao7 us.length cap7] 24) = W8 at *
      refine (rmake_any n1 _ rs _ HSRR8.out HDR.out).mono ?_
      rintro e w9 ⟨v9, neg9, vs, ok9, rfl, ⟨sv9, rfl, hsl9⟩, hb, hres9⟩
      have HR9 := Lib.hid hres9
      have HS9 := Lib.hid hsl9
      obtain ⟨_, ao9, cap9, rfl, _, _⟩ := hsl9
      have hA9 := hA8.step hb
      have hQ9 := hQ8.step hb
      have hR9 := hR8.step hb
      have hB9 := hB8.trans (hb.mono hB8.size)
      clear hA8 hQ8 hR8 hB8 p0 p1 hb hres9 hW8
      have hA10 := hA9.push (n := neg9) HS9.out
      have hB10 := hB9.alloc hB9.size (.cells #[.bool neg9, .slice ao9 vs.length cap9] 24)
      have hQ10 := hQ9.alloc (.cells #[.bool neg9, .slice ao9 vs.length cap9] 24)
      have hR10 := hR9.alloc (.cells #[.bool neg9, .slice ao9 vs.length cap9] 24)
      have hgv := hB9.size
      obtain ⟨x0, x1⟩ := hA10.cells List.mem_cons_self
      obtain ⟨y0, y1⟩ := hA10.cells (List.mem_cons_of_mem _ List.mem_cons_self)
      obtain ⟨z0, z1, z2, z3⟩ := hQ10.facts
      obtain ⟨t0, t1, t2, t3⟩ := hR10.facts
      have gq := hQ9.lt
      have gr := hR9.lt
      have k1 : ¬ (w.heap.size + 1 + 1 = w9.heap.size) := by omega
      have k2 : ¬ (w9.heap.size = w.heap.size + 1 + 1) := by omega
      have k3 : ¬ (w.heap.size + 1 + 1 + 1 = w9.heap.size) := by omega
      have k4 : ¬ (w9.heap.size = w.heap.size + 1 + 1 + 1) := by omega
      have k5 : ¬ (w.heap.size + 1 + 1 = w7.heap.size) := by omega
      have k6 : ¬ (w7.heap.size = w.heap.size + 1 + 1) := by omega
      have k7 : ¬ (w.heap.size + 1 + 1 + 1 = w7.heap.size) := by omega
      have k8 : ¬ (w7.heap.size = w.heap.size + 1 + 1 + 1) := by omega
      clear hA9 hQ9 hR9 hB9
      go_wp2_with fail
      generalize hW10 : w9.alloc (.cells #[.bool neg9, .slice ao9 vs.length cap9] 24) = W10 at *
      have HQ10 := Lib.hid hQ10
      have HR10 := Lib.hid (hR10.set (h := w.heap.size + 1 + 1) (by omega) (.bool neg7) (.slice ao7 us.length cap7))
      have HU10 := Lib.hid (hA10.sl (List.mem_cons_of_mem _ List.mem_cons_self))
      have HV10 := Lib.hid (hA10.sl List.mem_cons_self)
      have HB10 := Lib.hid hB10
      clear hA10 hQ10 hR10 hB10
      go_region
      go_wp2
      refine bodyPost_ret (v := .tuple #[.agg #[.bool neg7, .slice ao7 us.length cap7], .agg #[.bool neg9, .slice ao9 vs.length cap9], .int .i64 0]) (by simp [results, Tryd.results35, go_sem, z0, z1, t0, t1]) rfl ?_
      have hbig : val xs < 1000000000 ^ 64 := Nat.lt_of_lt_of_le (val_lt HX.out.2.1) (Nat.pow_le_pow_right (by omega) HX.out.1)
      obtain ⟨e1, e2⟩ := HN.out
      rw [HVA.out] at e1 e2
      have hq1 : dval qs ≤ val xs := by rw [e1]; exact Nat.div_le_self _ _
      have hr1 : dval rs ≤ val xs := by rw [e2]; exact Nat.mod_le _ _
      rcases HR7.out with ⟨_, a2, a3, a4⟩ | ⟨_, _, _, a4⟩
      · rcases HR9.out with ⟨_, b2, b3, b4⟩ | ⟨_, _, _, b4⟩
        · exact ⟨_, neg7, us, _, neg9, vs, rfl, ⟨_, rfl, (HU10.out.box HQ10.out _ _).box HR10.out _ _⟩, ⟨_, rfl, (HV10.out.box HQ10.out _ _).box HR10.out _ _⟩, a2, b2, a3.trans e1, b3.trans e2, a4, b4, ((((HB10.out.setCell (by simp; omega) _).setCell (by simp; omega) _).setCell (by simp; omega) _).setCell (by simp; omega) _).drew⟩
        · exact absurd hbig (Nat.not_lt.2 (Nat.le_trans b4 hr1))
      · exact absurd hbig (Nat.not_lt.2 (Nat.le_trans a4 hq1))
    · have HI := Lib.hid (hinv.inn HDA.out (by omega))
      have hxk := HDA.out k
      obtain ⟨b1, o1, rfl, l1, c1⟩ := sl_cells (HSA.out.below hbel) (show k < das.length by omega)
      have hrl : rs.length ≤ dbs.length := htr.mono HDB.out hdr (by rw [HVB.out]; exact Nat.le_of_lt hinv.lt)
      clear l1 hinv htr
      have HDR := Lib.hid hdr; clear hdr
      go_wp2_with (at_builtin; refine wpList_append_sl rfl _ _ 44 rfl wr.heap.size 5 i0 (.int .u8 0) 1 Tryd.underlying44 hi hz0 hz1 hz2 rfl _ 1 [.int .u8 (limb das k : Nat)] rfl (own_one wr _ _ (Nat.le_refl _)) .u8 _ rs rfl (hsr.below (below1 wr _)) (by unfold maxLen; omega) (by omega) (by simp) ?_; intro v' w6 hown hgrow)
      have hb6 : Below wr.heap.size wr w6 := (below1 wr _).grown hgrow (by simp) (fun k hk => by cases hk; exact Nat.le_refl _)
      have hlt4 : w4.heap.size < wr.heap.size := hrow.lt
      have hap6 : Apart8 w4.heap.size w6 v' ([limb das k] ++ rs) := by
        have e1 : (1 + rs.length) = ([limb das k] ++ rs).length := by simp; omega
        have e2 : ([Value.int .u8 (limb das k : Nat)] ++ cellsOf .u8 rs) = ([limb das k] ++ rs).map fun (x : Nat) => Value.int .u8 (x : Int) := by simp [cellsOf]
        rw [e1, e2] at hown
        exact apart_own hown hlt4
      have hsl6 := hap6.sl
      have HS6 := Lib.hid hsl6
      obtain ⟨_, ao6, cap6, rfl, _, _⟩ := hsl6
      clear hown hgrow
      go_wp2_with fail
      refine (dtrim_same _ _ _ _ HS6.out (HDR.out.ahead hxk) (dval_ahead _ _)).mono ?_
      rintro e w7 ⟨v7, ds, rfl, hs7, hd7, ht7, hv7, rfl⟩
      have hap7 : Apart8 w4.heap.size w6 v7 ds := fun W h1 h2 => hs7 W (hap6 W h1 h2)
      have hbel7 := hbel.trans (hb6.mono hbel.size)
      have hrow7 := hrow.below hb6 hlt4
      rw [← hv7] at HI
      clear hb6 hbel hrow hs7 hap6
      go_wp2_with fail
      go_loopw [10] (fun v wx => ∃ (rs qs : List Nat) (c : Nat), Apart8 w4.heap.size wx v rs ∧ Db rs ∧ Top rs ∧ QIn das qs (val ys) k (dval rs) c ∧ Row .u8 5 wx w4.heap.size qs ∧ Below w4.heap.size w4 wx) (fun _ wx => 10 - (intOf ((wx.cell? ⟨w4.heap.size, k, none⟩).getD undef)).toNat)
      case atStart => exact ⟨ds, qs, 0, hap7, hd7, ht7, HI.out, hrow7, hbel7⟩
      case round =>
        clear hap7 hd7 ht7 hv7 hrow7 hbel7 HI HS6 HDR c1
        obtain ⟨rs, qs, c, hap, hdr, htr, hin, hrow, hbel⟩ := hrel
        have hsr := hap.sl
        have HSR := Lib.hid hsr
        obtain ⟨_, aor, capr, rfl, _, _⟩ := hsr
        have HD := Lib.hid hdr; clear hdr
        have HT := Lib.hid htr; clear htr
        have HSY := Lib.hid (HSB4.out.below hbel)
        go_wp2_with fail
        refine (rmore_any _ _ rs dbs _ HSR.out HSY.out HD.out HDB.out HT.out HTB.out).mono ?_
        rintro e w8 ⟨rfl, hb8⟩
        have hbel8 := hbel.trans (hb8.mono hbel.size)
        have hrow8 := hrow.below hb8 hrow.lt
        have HSR8 := Lib.hid (HSR.out.below hb8)
        have HSY8 := Lib.hid (HSY.out.below hb8)
        have hrow0 := hrow
        clear hb8 hrow hbel HSR HSY
        rw [HVB.out]
        obtain ⟨cc, hcc⟩ : ∃ cc, cc = cmpN (dval rs) (val ys) := ⟨_, rfl⟩
        rw [← hcc]
        by_cases hge : val ys ≤ dval rs
        · have hc0 : 0 ≤ cc := by rw [hcc]; unfold cmpN; split; omega; split <;> omega
          have hsmall := hin.small hge
          have HN := Lib.hid (hin.step hge (show k < das.length by omega))
          have hdig := hin.dig
          have hkq : k < qs.length := by rw [hin.len]; omega
          have hlr : rs.length < 1000000 := by
            have h1 := hin.lt
            have h2 := dval_lt HDB.out
            rw [HVB.out] at h2
            have h3 : dval rs < 10 ^ (dbs.length + 1) := by rw [Nat.pow_succ]; omega
            have := (HT.out.len HD.out).2 h3
            omega
          have HC0 := Lib.hid (hrow0.cell hkq)
          rw [hdig] at HC0
          have HGE := Lib.hid (show dval dbs ≤ dval rs by rw [HVB.out]; exact hge)
          clear hcc hge hin hrow0
          go_wp2_with fail
          refine (rminus_apart _ _ rs dbs _ HSR8.out HSY8.out HD.out HDB.out HTB.out HGE.out hlr).mono ?_
          rintro e w9 ⟨v9, ds9, rfl, hap9, hs9, hd9, ht9, hv9, hb9⟩
          rw [HVB.out] at hv9
          have hrow9 := hrow8.below hb9 hrow8.lt
          have hbel9 := hbel8.trans (hb9.mono hbel8.size)
          have hcell := hrow9.cell hkq
          have hfr := hrow9.frozen k
          rw [hdig] at hcell
          have HS9 := Lib.hid hs9
          have HAP9 := Lib.hid (hap9 w4.heap.size hrow8.lt)
          obtain ⟨_, ao9, cap9, rfl, _, _⟩ := hs9
          have HCELL := Lib.hid hcell
          clear hb9 hrow8 hbel8 HSR8 HSY8 hap9 hap
          go_wp2_with fail
          go_roundw
          case rel =>
            refine ⟨ds9, qs.set k (c + 1), c + 1, HAP9.out.set, hd9, ht9, by rw [hv9]; exact HN.out, hrow9.put k (c + 1) (by omega), hbel9.setCell (Nat.le_refl _) _⟩
          case measure =>
            have m1 := (hrow9.put k (c + 1) (u := (c : Int) + 1) (by omega)).cell (j := k) (by rw [List.length_set]; exact hkq)
            rw [limb_set hkq, if_pos rfl] at m1
            have m0 := HC0.out
            simp only [intOf, m1, m0, Option.getD_some]
            omega
        · have hc0 : ¬ 0 ≤ cc := by rw [hcc]; unfold cmpN; rw [if_pos (by omega)]; omega
          have HN := Lib.hid (hin.next (by omega) (show k < das.length by omega))
          clear hcc hge hin hrow0
          go_wp2_with fail
          go_roundw
          case rel => exact ⟨rs, qs, k, by omega, by go_num, HSR8.out, HD.out, HT.out, HN.out, hrow8, hbel8⟩
          case measure => simp only [intOf]; omega
end Go.Proofs.YtiekhjgfnmochaaDoor
