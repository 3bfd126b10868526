/- ref.Mul -/
import Derived.Test.YtommakdomnaclaaDoorRMulMath
import Derived.Test.YtommakdomnaclaaDoorRAdd
import Derived.Test.YtommakdomnaclaaDoorMul
import Derived.Deep.QuietTactic
import Derived.BigQuiet
import Derived.StillTailTactics
namespace Go.Proofs.YtommakdomnaclaaDoor
open Go.RowKit

theorem infoInt : (Tryd.prog.info? 3).map (fun i => (i.zero, i.size, i.bytes)) = some (some (.int .i64 0), 1, 8) := by kernel_rfl

set_option maxRecDepth 100000 in
set_option maxHeartbeats 4000000 in
theorem rmul_any (n1 n2 : Bool) (s1 s2 : Value) (xs ys : List Nat) (w : World) (hs1 : Sl .u32 w s1 xs) (hs2 : Sl .u32 w s2 ys) (hx : ∀ i, limb xs i < 4294967296) (hy : ∀ i, limb ys i < 4294967296) :
    Calls Tryd.prog 33 #[.agg #[.bool n1, s1], .agg #[.bool n2, s2]] w (AnyPost (Snd n1 xs ∧ Snd n2 ys) (ival n1 xs * ival n2 ys) w) := by
  obtain ⟨i0, hi, hz0, hz1, hz2⟩ := info_parts infoInt
  obtain ⟨j0, hj, hy0, hy1, hy2⟩ := info_parts infoB
  have HS1 := Lib.hid hs1
  have HS2 := Lib.hid hs2
  obtain ⟨q1, ao1, cap1, rfl, hcap1, q2⟩ := hs1
  obtain ⟨q3, ao2, cap2, rfl, hcap2, q4⟩ := hs2
  clear q1 q2 q3 q4
  have HX := Lib.hid hx; clear hx
  have HY := Lib.hid hy; clear hy
  have hb1 := Boxes.start w n1 (.slice ao1 xs.length cap1) n2 (.slice ao2 ys.length cap2)
  by_cases g1 : Snd n1 xs
  · by_cases g2 : Snd n2 ys
    · have G1 := Lib.hid g1; clear g1
      have G2 := Lib.hid g2; clear g2
      have L1 := Lib.hid G1.out.2.1
      have L2 := Lib.hid G2.out.2.1
      have K1 := Lib.hid G1.out.1
      have K2 := Lib.hid G2.out.1
      have hl1 : xs.length < 1000000 := by have := G1.out.1; omega
      have hl2 : ys.length < 1000000 := by have := G2.out.1; omega
      go_enter Tryd.func33, Tryd.ntmps33
      go_wp2_with fail
      refine (rsound_any n1 _ xs _ (HS1.out.below hb1.bel) HX.out).mono ?_
      rintro e w1 ⟨rfl, hb2⟩
      rw [sndB_true G1.out]
      have hb1 := hb1.step hb2
      clear hb2
      obtain ⟨a0, a1, b0, b1, r0, r1, f0, f1⟩ := hb1.facts
      go_wp2_with fail
      refine (rsound_any n2 _ ys _ (HS2.out.below hb1.bel) HY.out).mono ?_
      rintro e w2 ⟨rfl, hb2⟩
      rw [sndB_true G2.out]
      have hb1 := hb1.step hb2
      clear hb2 a0 a1 b0 b1 r0 r1 f0 f1
      obtain ⟨a0, a1, b0, b1, r0, r1, f0, f1⟩ := hb1.facts
      go_wp2_with fail
      refine (digits_any n1 (.slice ao1 xs.length cap1) xs _ (HS1.out.below hb1.bel) L1.out hl1).mono ?_
      rintro e w3 ⟨va, das, rfl, hsa, hda, hta, hva, hb⟩
      have hb1 := hb1.step hb
      clear hb a0 a1 b0 b1 r0 r1 f0 f1
      obtain ⟨a0, a1, b0, b1, r0, r1, f0, f1⟩ := hb1.facts
      go_wp2_with fail
      refine (digits_any n2 (.slice ao2 ys.length cap2) ys _ (HS2.out.below hb1.bel) L2.out hl2).mono ?_
      rintro e w4 ⟨vb, dbs, rfl, hsb, hdb, htb, hvb, hb⟩
      have hb1 := hb1.step hb
      have hsa := hsa.below hb
      clear hb a0 a1 b0 b1 r0 r1 f0 f1
      have hlx : das.length < 1000000 := dig_len L1.out K1.out hda hta hva
      have hly : dbs.length < 1000000 := dig_len L2.out K2.out hdb htb hvb
      have HSA := Lib.hid hsa
      have HSB := Lib.hid hsb
      obtain ⟨p1, bo1, bc1, rfl, p2, p3⟩ := hsa
      obtain ⟨p4, bo2, bc2, rfl, p5, p6⟩ := hsb
      clear p1 p2 p3 p4 p5 p6
      have HDA := Lib.hid hda; clear hda
      have HDB := Lib.hid hdb; clear hdb
      have HVA := Lib.hid hva; clear hva
      have HVB := Lib.hid hvb; clear hvb
      clear hta htb
      have HB1 := Lib.hid hb1
      have hlt4 := hb1.lt
      clear hb1
      go_wp2_with (at_make; refine wpList_make_full _ rfl _ _ 73 rfl w4.heap.size 3 i0 (.int .i64 0) 1 Tryd.underlying73 hi hz0 hz1 _ _ _ _ (das.length + dbs.length + 1) rfl rfl (by omega) (by omega) (by rw [hz2]; omega) (by unfold maxLen; omega) (by omega) ?_; intro w5 hown hgrow)
      have hrow : Row .i64 3 w5 w4.heap.size (List.replicate (das.length + dbs.length + 1) 0) := Row.of_made hown
      have hbm : Below w4.heap.size w4 w5 := (Below.refl _ w4).grown hgrow (Nat.le_refl _) (fun _ h => by cases h)
      clear hown hgrow
      go_loopw [9] (fun i wr => ∃ (rs : List Nat) (k : Nat), k ≤ das.length ∧ i = .int .i64 (k : Nat) ∧ ColOut das dbs rs k ∧ Row .i64 3 wr w4.heap.size rs ∧ Below w4.heap.size w4 wr) (fun i _ => das.length - (intOf i).toNat)
      case atStart => exact ⟨_, 0, by omega, rfl, ColOut.start das dbs, hrow, hbm⟩
      case round =>
        clear hrow hbm
        obtain ⟨rs0, k, hk, rfl, hout, hrow, hbel⟩ := hrel
        by_cases hkn : k < das.length
        · have HI0 := Lib.hid hout.inn; clear hout
          go_wp2_with fail
          go_loopw [10] (fun j wr => ∃ (rs : List Nat) (jj : Nat), jj ≤ dbs.length ∧ j = .int .i64 (jj : Nat) ∧ ColIn das dbs rs k jj ∧ Row .i64 3 wr w4.heap.size rs ∧ Below w4.heap.size w4 wr) (fun j _ => dbs.length - (intOf j).toNat)
          case atStart => exact ⟨rs0, 0, by omega, rfl, HI0.out, hrow, hbel⟩
          case round =>
            clear hrow hbel
            obtain ⟨rs, j, hjle, rfl, hin, hrow, hbel⟩ := hrel
            by_cases hjm : j < dbs.length
            · have hxk := HDA.out k
              have hyj := HDB.out j
              have hm := digit_mul hxk hyj
              have hlen : k + j < rs.length := by rw [hin.len]; omega
              have hrk : limb rs (k + j) ≤ 81000000 := by have := hin.left (k + j) (Nat.le_refl _); omega
              have hcell := hrow.cell hlen
              have hfr := hrow.frozen (k + j)
              obtain ⟨b1, o1, rfl, l1, c1⟩ := sl_cells (HSA.out.below hbel) hkn
              obtain ⟨b2, o2, rfl, l2, c2⟩ := sl_cells (HSB.out.below hbel) hjm
              clear l1 l2
              have HN := Lib.hid (hin.step HDA.out HDB.out hkn hjm); clear hin
              have HR := Lib.hid hrow; clear hrow
              have hmc : ((limb das k * limb dbs j : Nat) : Int) = (limb das k : Int) * (limb dbs j : Int) := Int.natCast_mul _ _
              have e1 : IntKind.i64.wrap ((k : Int) + (j : Int)) = (k : Int) + (j : Int) := IntWalk.i64_in _ (by omega)
              have e2 : ((k : Int) + (j : Int)).toNat = k + j := by omega
              have e3 : 0 ≤ (k : Int) + (j : Int) := by omega
              have e4 : IntKind.i64.wrap ((limb das k : Int) * (limb dbs j : Int)) = (limb das k : Int) * (limb dbs j : Int) := IntWalk.i64_in _ (by omega)
              have e5 : IntKind.i64.wrap (((limb rs (k + j) : Nat) : Int) + (limb das k : Int) * (limb dbs j : Int)) = ((limb rs (k + j) : Nat) : Int) + (limb das k : Int) * (limb dbs j : Int) := IntWalk.i64_in _ (by omega)
              have HMC := Lib.hid hmc; clear hmc
              have hix : (k : Int) + (j : Int) < ((das.length : Nat) : Int) + ((dbs.length : Nat) : Int) + 1 := by omega
              have hix2 : (k : Int) + (j : Int) ≤ ((das.length : Nat) : Int) + ((dbs.length : Nat) : Int) := by omega
              have hix3 : k + j < das.length + dbs.length + 1 := by omega
              go_wp2_with fail
              go_still_tail 23, (by kernel_rfl)
              change wpList _ _ _ _ _ wr.drew
              clear e1 e2 e3 e4 e5 hix hix2 hix3
              go_wp2
              go_roundw
              case rel =>
                have ec : (limb das k : Int) * (limb dbs j : Int) = ((limb das k * limb dbs j : Nat) : Int) := HMC.out.symm
                rw [ec]
                have hR : Row .i64 3 wr.drew w4.heap.size rs := HR.out
                exact ⟨_, j + 1, by omega, by go_num, HN.out, hR.put _ (limb rs (k + j) + limb das k * limb dbs j) (by omega), hbel.drew.setCell (Nat.le_refl _) _⟩
              case measure => simp only [intOf]; omega
            · obtain rfl : j = dbs.length := by omega
              have HO := Lib.hid hin.next; clear hin
              go_wp2_with fail
              go_roundw
              case rel => exact ⟨rs, k + 1, by omega, by go_num, HO.out, hrow, hbel⟩
              case measure => simp only [intOf]; omega
        · obtain rfl : k = das.length := by omega
          have HO := Lib.hid hout; clear hout
          have hlenr := HO.out.len
          have hlo : rs0.length < 3000000 := by omega
          have HLR := Lib.hid hlenr
          have hge : das.length + dbs.length + 1 ≤ rs0.length := by omega
          have hle : rs0.length ≤ das.length + dbs.length + 1 := by omega
          clear hlenr
          have hzz : w4.heap.size < wr.heap.size := hrow.lt
          go_wp2_with fail
          go_loopw [11, 12, 13] (fun v c i wx => ∃ (ds : List Nat) (cc p : Nat), p ≤ rs0.length ∧ c = .int .i64 (cc : Nat) ∧ i = .int .i64 (p : Nat) ∧ Carry das dbs rs0 ds p cc ∧ wx.ownsRow (w4.heap.size + 1) 5 1 v ds.length (ds.map fun (x : Nat) => Value.int .u8 (x : Int)) ∧ Row .i64 3 wx w4.heap.size rs0 ∧ Below w4.heap.size w4 wx ∧ w4.heap.size < wx.heap.size) (fun _ _ i _ => rs0.length - (intOf i).toNat)
          case atStart => exact ⟨[], 0, 0, by omega, rfl, rfl, Carry.start das dbs rs0, World.ownsRow_nil _ _ _ _, hrow, hbel, hzz⟩
          case round =>
            clear hrow hbel hzz
            obtain ⟨ds, cc, p, hp, rfl, rfl, hcar, hown, hrow, hbel, hzz⟩ := hrel
            by_cases hpl : p < rs0.length
            · have hcs := hcar.small
              have hdl := hcar.len
              have hrp : limb rs0 p ≤ 81000000 := by have := HO.out.small p; omega
              have HN := Lib.hid (hcar.step hrp); clear hcar
              have hcell := hrow.cell hpl
              have HR := Lib.hid hrow; clear hrow
              have hdn : ds.length < 100000000 := by omega
              have hix : p < das.length + dbs.length + 1 := by omega
              have hix2 : (p : Int) ≤ ((das.length : Nat) : Int) + ((dbs.length : Nat) : Int) := by omega
              clear hdl
              go_wp2_with (at_builtin; go_loud (refine wpList_append_own _ rfl _ _ 44 rfl (w4.heap.size + 1) 5 j0 (.int .u8 0) 1 1 Tryd.underlying44 hj hy0 hy1 hy2 rfl (by decide) _ ds.length (ds.map fun (x : Nat) => Value.int .u8 (x : Int)) rfl (hown.alloc _) ⟨wr.heap.size, 0, none⟩ 1 1 [.int .u8 (((cc : Int) + (limb rs0 p : Nat)) % 10)] rfl (by simp) (cell_one_new _ _ _) (by intro u hu; rw [List.mem_singleton] at hu; subst hu; rfl) (by unfold maxLen; omega) (by omega) (by simp; omega) ?_); intro v' w6 hown1 hgrow hnil; clear hnil)
              go_roundw
              case rel =>
                have hm : (((cc : Int) + (limb rs0 p : Nat)) % 10) = (((cc + limb rs0 p) % 10 : Nat) : Int) := by omega
                have e1 : (List.map (fun (x : Nat) => Value.int .u8 (x : Int)) ds ++ [.int .u8 (((cc : Int) + (limb rs0 p : Nat)) % 10)]) = (ds ++ [(cc + limb rs0 p) % 10]).map fun (x : Nat) => Value.int .u8 (x : Int) := by rw [hm]; simp
                have e2 : ds.length + 1 = (ds ++ [(cc + limb rs0 p) % 10]).length := by simp
                rw [e1, e2] at hown1
                have hlo := hown.lt
                have hgrow' : World.grownBy _ w6 (Value.ownBlock _) := hgrow
                refine ⟨_, (cc + limb rs0 p) / 10, p + 1, by omega, by go_num, by go_num, HN.out, hown1, ?_, (hbel.alloc (Nat.le_of_lt hzz) _).grown hgrow' (by simp; omega) (fun k hk => by have := (hlo k hk).1; omega), by have := hgrow'.size; simp at this; omega⟩
                unfold Row
                rw [hgrow'.block w4.heap.size (by simp; omega) (fun h => by have := (hlo _ h.symm).1; omega), Below.heap_alloc _ _ _ hzz]
                exact HR.out
              case measure => simp only [intOf]; omega
            · obtain rfl : p = rs0.length := by omega
              have HD := Lib.hid (hcar.done HO.out HDA.out HDB.out)
              have HDD := Lib.hid hcar.b
              have hsl := owns_sl hown
              obtain ⟨a', c', rfl⟩ := owns_slice hown
              clear hcar hown hrow
              have HB5 := Lib.hid (HB1.out.step hbel)
              obtain ⟨a0, a1, b0, b1, r0, r1, f0, f1⟩ := HB5.out.facts
              go_wp2_with fail
              refine (rgive_any (!(n1 == n2)) _ ds _ hsl HDD.out).mono ?_
              rintro e W4 ⟨v4, neg4, rs4, c4, rfl, ⟨sv4, rfl, hsl4⟩, hb4, hres4⟩
              have HB4 := Lib.hid (HB5.out.step hb4)
              clear a0 a1 b0 b1 r0 r1 f0 f1
              obtain ⟨a0, a1, b0, b1, r0, r1, f0, f1⟩ := HB4.out.facts
              have HS4 := Lib.hid hsl4
              obtain ⟨p1, ao4, cap4, rfl, p2, p3⟩ := hsl4
              have HRES := Lib.hid hres4
              clear hres4 p1 p2 p3
              go_wp2_with fail
              refine bodyPost_ret (v := .tuple #[.agg #[.bool neg4, .slice ao4 rs4.length cap4], .int .i64 c4]) (by simp [results, Tryd.results33, go_sem, r0, r1]) rfl ?_
              refine ResPost.any ⟨G1.out, G2.out⟩ ⟨_, neg4, rs4, c4, rfl, ⟨_, rfl, HS4.out.box HB4.out.r _ _⟩, (HB4.out.bel.setCell (by simp; omega) _).setCell (by simp; omega) _, ?_⟩
              have e : ival n1 xs * ival n2 ys = sg (!(n1 == n2)) (dval ds) := by
                rw [HD.out, HVA.out, HVB.out, ival_mul]; rfl
              rw [e]
              exact HRES.out
    · have G1 := Lib.hid g1; clear g1
      have G2 := Lib.hid g2; clear g2
      go_enter Tryd.func33, Tryd.ntmps33
      go_wp2_with fail
      refine (rsound_any n1 _ xs _ (HS1.out.below hb1.bel) HX.out).mono ?_
      rintro e w1 ⟨rfl, hb2⟩
      rw [sndB_true G1.out]
      have hb1 := hb1.step hb2
      clear hb2
      obtain ⟨a0, a1, b0, b1, r0, r1, f0, f1⟩ := hb1.facts
      go_wp2_with fail
      refine (rsound_any n2 _ ys _ (HS2.out.below hb1.bel) HY.out).mono ?_
      rintro e w2 ⟨rfl, hb2⟩
      rw [sndB_false G2.out]
      have hb1 := hb1.step hb2
      clear hb2 a0 a1 b0 b1 r0 r1 f0 f1
      obtain ⟨a0, a1, b0, b1, r0, r1, f0, f1⟩ := hb1.facts
      have HB1 := Lib.hid hb1; clear hb1
      go_wp2_with fail
      refine bodyPost_ret (v := .tuple #[.agg #[.bool false, .slice none 0 0], .int .i64 2]) (by simp [results, Tryd.results33, go_sem, r0, r1]) rfl ?_
      first
        | exact AnyPost.bad (fun g => G2.out g.2) HB1.out.bel
        | exact AnyPost.bad (fun g => G2.out g.2) ((HB1.out.bel.setCell (by simp; omega) _).setCell (by simp; omega) _)
  · have G1 := Lib.hid g1; clear g1
    go_enter Tryd.func33, Tryd.ntmps33
    go_wp2_with fail
    refine (rsound_any n1 _ xs _ (HS1.out.below hb1.bel) HX.out).mono ?_
    rintro e w1 ⟨rfl, hb2⟩
    rw [sndB_false G1.out]
    have hb1 := hb1.step hb2
    clear hb2
    obtain ⟨a0, a1, b0, b1, r0, r1, f0, f1⟩ := hb1.facts
    have HB1 := Lib.hid hb1; clear hb1
    go_wp2_with fail
    refine bodyPost_ret (v := .tuple #[.agg #[.bool false, .slice none 0 0], .int .i64 2]) (by simp [results, Tryd.results33, go_sem, r0, r1]) rfl ?_
    first
      | exact AnyPost.bad (fun g => G1.out g.1) HB1.out.bel
      | exact AnyPost.bad (fun g => G1.out g.1) ((HB1.out.bel.setCell (by simp; omega) _).setCell (by simp; omega) _)
end Go.Proofs.YtommakdomnaclaaDoor
