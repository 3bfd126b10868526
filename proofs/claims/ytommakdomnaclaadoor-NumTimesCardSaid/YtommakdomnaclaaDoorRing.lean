/- NumRing, walked -/
import Derived.Test.YtommakdomnaclaaDoorRingMath
namespace Go.Proofs.YtommakdomnaclaaDoor
open Go.RowKit

def RingOk (n1 : Bool) (xs : List Nat) (n2 : Bool) (ys : List Nat) (n3 : Bool) (zs : List Nat) : Prop :=
  Snd n1 xs ∧ Snd n2 ys ∧ Snd n3 zs ∧ xs.length + ys.length ≤ 60 ∧ xs.length + zs.length ≤ 60 ∧ ys.length ≤ 60 ∧ zs.length ≤ 60

def TruePost (w : World) (e : Ending) (w' : World) : Prop := e = .returned (.bool true) ∧ Below w.heap.size w w'

set_option maxRecDepth 100000 in
set_option maxHeartbeats 4000000 in
theorem ring_in (n1 n2 n3 : Bool) (a1 a2 a3 : Option Addr) (c1 c2 c3 : Nat) (xs ys zs : List Nat) (w : World) (ht : Pow10 w)
    (hs1 : Sl .u32 w (.slice a1 xs.length c1) xs) (hs2 : Sl .u32 w (.slice a2 ys.length c2) ys) (hs3 : Sl .u32 w (.slice a3 zs.length c3) zs) (hok : RingOk n1 xs n2 ys n3 zs) :
    Calls Tryd.prog 9 #[.agg #[.bool n1, .slice a1 xs.length c1], .agg #[.bool n2, .slice a2 ys.length c2], .agg #[.bool n3, .slice a3 zs.length c3]] w (TruePost w) := by
  have HOK := Lib.hid hok; clear hok
  have HT := Lib.hid ht; clear ht
  have S1 := Lib.hid HOK.out.1
  have S2 := Lib.hid HOK.out.2.1
  have S3 := Lib.hid HOK.out.2.2.1
  have l1 := HOK.out.2.2.2.1
  have l2 := HOK.out.2.2.2.2.1
  have l3 := HOK.out.2.2.2.2.2.1
  have l4 := HOK.out.2.2.2.2.2.2
  have hE : Env [(w.heap.size + 1 + 1, n3, .slice a3 zs.length c3, zs), (w.heap.size + 1, n2, .slice a2 ys.length c2, ys), (w.heap.size, n1, .slice a1 xs.length c1, xs)] (((w.alloc (.cells #[.bool n1, .slice a1 xs.length c1] 24)).alloc (.cells #[.bool n2, .slice a2 ys.length c2] 24)).alloc (.cells #[.bool n3, .slice a3 zs.length c3] 24)) := by
    have h1 := (Env.nil w).push (n := n1) hs1
    have h2 := h1.push (n := n2) (hs2.below (below1 w _))
    have h3 := h2.push (n := n3) (hs3.below (below2 w _ _))
    simpa only [World.size_alloc] using h3
  have hB := below3 w (.cells #[.bool n1, .slice a1 xs.length c1] 24) (.cells #[.bool n2, .slice a2 ys.length c2] 24) (.cells #[.bool n3, .slice a3 zs.length c3] 24)
  clear hs1 hs2 hs3
  have m1 : ∀ T : List (Nat × Bool × Value × List Nat), (w.heap.size, n1, Value.slice a1 xs.length c1, xs) ∈ [(w.heap.size + 1 + 1, n3, Value.slice a3 zs.length c3, zs), (w.heap.size + 1, n2, Value.slice a2 ys.length c2, ys), (w.heap.size, n1, Value.slice a1 xs.length c1, xs)] := fun _ => by simp
  have m2 : ∀ T : List (Nat × Bool × Value × List Nat), (w.heap.size + 1, n2, Value.slice a2 ys.length c2, ys) ∈ [(w.heap.size + 1 + 1, n3, Value.slice a3 zs.length c3, zs), (w.heap.size + 1, n2, Value.slice a2 ys.length c2, ys), (w.heap.size, n1, Value.slice a1 xs.length c1, xs)] := fun _ => by simp
  have m3 : ∀ T : List (Nat × Bool × Value × List Nat), (w.heap.size + 1 + 1, n3, Value.slice a3 zs.length c3, zs) ∈ [(w.heap.size + 1 + 1, n3, Value.slice a3 zs.length c3, zs), (w.heap.size + 1, n2, Value.slice a2 ys.length c2, ys), (w.heap.size, n1, Value.slice a1 xs.length c1, xs)] := fun _ => by simp
  have M1 := Lib.hid (m1 []); have M2 := Lib.hid (m2 []); have M3 := Lib.hid (m3 [])
  clear m1 m2 m3
  have B2 := Lib.hid (val_60 S2.out.2.1 l3)
  have B3 := Lib.hid (val_60 S3.out.2.1 l4)
  have B12 : Hid ((ival n1 xs * ival n2 ys).natAbs < 1000000000 ^ 60) := Lib.hid (by rw [mul_abs]; exact mul_val (val_lt S1.out.2.1) (val_lt S2.out.2.1) l1)
  have B13 : Hid ((ival n1 xs * ival n3 zs).natAbs < 1000000000 ^ 60) := Lib.hid (by rw [mul_abs]; exact mul_val (val_lt S1.out.2.1) (val_lt S3.out.2.1) l2)
  go_enter Tryd.func9, Tryd.ntmps9
  go_wp2_with fail
  refine (answers_any _ (HT.out.below hB)).mono ?_
  rintro e w1 ⟨rfl, hb⟩
  replace hB := hB.trans (hb.mono hB.size)
  replace hE := hE.step hb
  clear hb
  obtain ⟨p0, p1⟩ := hE.cells M1.out
  go_wp2_with fail
  refine (rsound_any n1 _ xs _ (hE.sl M1.out) HOK.out.1.2.1.wide).mono ?_
  rintro e w2 ⟨rfl, hb⟩
  rw [sndB_true HOK.out.1]
  replace hB := hB.trans (hb.mono hB.size)
  replace hE := hE.step hb
  clear hb p0 p1
  obtain ⟨p0, p1⟩ := hE.cells M2.out
  go_wp2_with fail
  refine (rsound_any n2 _ ys _ (hE.sl M2.out) HOK.out.2.1.2.1.wide).mono ?_
  rintro e w3 ⟨rfl, hb⟩
  rw [sndB_true HOK.out.2.1]
  replace hB := hB.trans (hb.mono hB.size)
  replace hE := hE.step hb
  clear hb p0 p1
  obtain ⟨p0, p1⟩ := hE.cells M3.out
  go_wp2_with fail
  refine (rsound_any n3 _ zs _ (hE.sl M3.out) HOK.out.2.2.1.2.1.wide).mono ?_
  rintro e w4 ⟨rfl, hb⟩
  rw [sndB_true HOK.out.2.2.1]
  replace hB := hB.trans (hb.mono hB.size)
  replace hE := hE.step hb
  clear hb p0 p1
  obtain ⟨p0, p1⟩ := hE.cells M1.out
  obtain ⟨q0, q1⟩ := hE.cells M2.out
  obtain ⟨r0, r1⟩ := hE.cells M3.out
  have d1 : decide ((60 : Int) < (xs.length : Int) + (ys.length : Int)) = false := by rw [decide_eq_false_iff_not]; omega
  have d2 : decide ((60 : Int) < (xs.length : Int) + (zs.length : Int)) = false := by rw [decide_eq_false_iff_not]; omega
  have d3 : decide ((60 : Int) < (ys.length : Int)) = false := by rw [decide_eq_false_iff_not]; omega
  have d4 : decide ((60 : Int) < (zs.length : Int)) = false := by rw [decide_eq_false_iff_not]; omega
  have hA := hE
  clear hE
  go_upto_region 3 with fail
  go_cut [7, 8] (fun s1 s2 wx => Made [(w.heap.size + 1 + 1, n3, .slice a3 zs.length c3, zs), (w.heap.size + 1, n2, .slice a2 ys.length c2, ys), (w.heap.size, n1, .slice a1 xs.length c1, xs)] (ival n2 ys + ival n3 zs) w s1 s2 wx)
  case first =>
    replace hB := hB.drew
    replace hA := hA.drew
    go_region_held3 (fun W' => W'.cell? ⟨w.heap.size + 1, 0, none⟩ = some (.bool n2) ∧ W'.cell? ⟨w.heap.size + 1, 1, none⟩ = some (.slice a2 ys.length c2) ∧ W'.cell? ⟨w.heap.size + 1 + 1, 0, none⟩ = some (.bool n3) ∧ W'.cell? ⟨w.heap.size + 1 + 1, 1, none⟩ = some (.slice a3 zs.length c3))
      (first | exact ⟨(hA.cells M2.out).1, (hA.cells M2.out).2, (hA.cells M3.out).1, (hA.cells M3.out).2⟩ | exact ⟨(hZ.cells (List.mem_cons_of_mem _ M2.out)).1, (hZ.cells (List.mem_cons_of_mem _ M2.out)).2, (hZ.cells (List.mem_cons_of_mem _ M3.out)).1, (hZ.cells (List.mem_cons_of_mem _ M3.out)).2⟩ | exact ⟨((hA.alloc _).cells M2.out).1, ((hA.alloc _).cells M2.out).2, ((hA.alloc _).cells M3.out).1, ((hA.alloc _).cells M3.out).2⟩ | exact ⟨((hA.push hsx).cells (List.mem_cons_of_mem _ M2.out)).1, ((hA.push hsx).cells (List.mem_cons_of_mem _ M2.out)).2, ((hA.push hsx).cells (List.mem_cons_of_mem _ M3.out)).1, ((hA.push hsx).cells (List.mem_cons_of_mem _ M3.out)).2⟩ | exact ⟨((hZ.put hd (Nat.le_refl _) hsx nx).cells (List.mem_cons_of_mem _ M2.out)).1, ((hZ.put hd (Nat.le_refl _) hsx nx).cells (List.mem_cons_of_mem _ M2.out)).2, ((hZ.put hd (Nat.le_refl _) hsx nx).cells (List.mem_cons_of_mem _ M3.out)).1, ((hZ.put hd (Nat.le_refl _) hsx nx).cells (List.mem_cons_of_mem _ M3.out)).2⟩)
      (first
        | (go_at_call 15; (with_reducible refine (own_open n2 (.slice a2 ys.length c2) ys _ ?_ ?_).mono ?_); (with_reducible exact hA.sl M2.out); omega; rintro e W30 ⟨ao0, l0, cap0, rfl, hs0, hb⟩; replace hB := hB.trans (hb.mono hB.size); replace hA := hA.step hb; clear hb)
        | (go_at_call 15; (with_reducible refine (own_open n2 (.slice a2 ys.length c2) ys _ ?_ ?_).mono ?_); (with_reducible exact hZ.sl (List.mem_cons_of_mem _ M2.out)); omega; rintro e W30 ⟨ao0, l0, cap0, rfl, hs0, hb⟩; replace hB := hB.trans (hb.mono hB.size); replace hZ := hZ.step hb; clear hb)
        | (go_at_call 15; (with_reducible refine (own_open n2 (.slice a2 ys.length c2) ys _ ?_ ?_).mono ?_); (exact (hA.alloc _).sl M2.out); omega; rintro e W30 ⟨ao0, l0, cap0, rfl, hs0, hb⟩; have hgz := hB.size; replace hB := (hB.alloc hB.size _).trans (hb.mono (Nat.le_trans hB.size (by simp))); have hd := hA.ne; have hZ := hA.zero.step hb; (try simp only [World.size_drew] at hZ hd hgz); clear hb hA)
        | (go_at_call 15; (with_reducible refine (own_open n3 (.slice a3 zs.length c3) zs _ ?_ ?_).mono ?_); (with_reducible exact hA.sl M3.out); omega; rintro e W31 ⟨ao1, l1, cap1, rfl, hs1, hb⟩; replace hs0 := hs0.below hb; replace hB := hB.trans (hb.mono hB.size); replace hA := hA.step hb; clear hb)
        | (go_at_call 15; (with_reducible refine (own_open n3 (.slice a3 zs.length c3) zs _ ?_ ?_).mono ?_); (with_reducible exact hZ.sl (List.mem_cons_of_mem _ M3.out)); omega; rintro e W31 ⟨ao1, l1, cap1, rfl, hs1, hb⟩; replace hs0 := hs0.below hb; replace hB := hB.trans (hb.mono hB.size); replace hZ := hZ.step hb; clear hb)
        | (go_at_call 15; (with_reducible refine (own_open n3 (.slice a3 zs.length c3) zs _ ?_ ?_).mono ?_); (exact (hA.alloc _).sl M3.out); omega; rintro e W31 ⟨ao1, l1, cap1, rfl, hs1, hb⟩; replace hs0 := (hs0.below (below1 _ _)).below hb; have hgz := hB.size; replace hB := (hB.alloc hB.size _).trans (hb.mono (Nat.le_trans hB.size (by simp))); have hd := hA.ne; have hZ := hA.zero.step hb; (try simp only [World.size_drew, World.size_alloc] at hZ hd hgz); clear hb hA)
        | (go_at_call 26; (with_reducible refine (add_open n2 n3 _ _ ys zs _ ?_ ?_ S2.out S3.out).mono ?_); (with_reducible exact hs0); (with_reducible exact hs1); rintro e V3 ⟨nx, aox, lx, capx, rx, cx, rfl, hsx, hb, hrx⟩; have HRX := Lib.hid hrx; clear hrx; replace hB := hB.trans (hb.mono hB.size); replace hA := hA.step hb; clear hb)
        | (go_at_call 26; (with_reducible refine (add_open n2 n3 _ _ ys zs _ ?_ ?_ S2.out S3.out).mono ?_); (with_reducible exact hs0); (with_reducible exact hs1); rintro e V3 ⟨nx, aox, lx, capx, rx, cx, rfl, hsx, hb, hrx⟩; have HRX := Lib.hid hrx; clear hrx; replace hB := hB.trans (hb.mono hB.size); replace hZ := hZ.step hb; obtain ⟨z0, z1, y0, y1⟩ := hZ.zfacts; clear hb)
        | (go_at_call 26; (with_reducible refine (add_open n2 n3 _ _ ys zs _ ?_ ?_ S2.out S3.out).mono ?_); exact (hs0.below (below1 _ _)); exact (hs1.below (below1 _ _)); rintro e V3 ⟨nx, aox, lx, capx, rx, cx, rfl, hsx, hb, hrx⟩; have HRX := Lib.hid hrx; clear hrx; have hgz := hB.size; replace hB := (hB.alloc hB.size _).trans (hb.mono (Nat.le_trans hB.size (by simp))); have hd := hA.ne; have hZ := hA.zero.step hb; (try simp only [World.size_drew, World.size_alloc] at hZ hd hgz); obtain ⟨z0, z1, y0, y1⟩ := hZ.zfacts; clear hb hA))
    all_goals (go_wp2_with fail; go_meet)
    all_goals first
      | exact ⟨_, nx, aox, lx, capx, rx, cx, rfl, rfl, hA.push hsx, hB.size, hB.alloc hB.size _, HRX.out⟩
      | exact ⟨_, nx, aox, lx, capx, rx, cx, rfl, rfl, hZ.put hd (Nat.le_refl _) hsx nx, hgz, (hB.setCell hgz _).setCell hgz _, HRX.out⟩
  case rest =>
    clear hA hB
    obtain ⟨gg3, nn3, aa3, ll3, kk3, rr3, cc3, rfl, rfl, hA, hg3, hB, hr3⟩ := hcut
    obtain ⟨rfl, sd3, v3⟩ := res_ok hr3 (add_abs B2.out B3.out)
    have S13 := Lib.hid sd3
    have E3 := Lib.hid v3
    clear sd3 v3 hr3
    replace M1 := Lib.hid (List.mem_cons_of_mem (gg3, nn3, Value.slice aa3 ll3 kk3, rr3) M1.out)
    replace M2 := Lib.hid (List.mem_cons_of_mem (gg3, nn3, Value.slice aa3 ll3 kk3, rr3) M2.out)
    replace M3 := Lib.hid (List.mem_cons_of_mem (gg3, nn3, Value.slice aa3 ll3 kk3, rr3) M3.out)
    have M13 := Lib.hid (List.mem_cons_self (a := (gg3, nn3, Value.slice aa3 ll3 kk3, rr3)) (l := [(w.heap.size + 1 + 1, n3, .slice a3 zs.length c3, zs), (w.heap.size + 1, n2, .slice a2 ys.length c2, ys), (w.heap.size, n1, .slice a1 xs.length c1, xs)]))
    go_upto_region 4 with fail
    go_cut [9, 10] (fun s1 s2 wx => Made ((gg3, nn3, Value.slice aa3 ll3 kk3, rr3) :: [(w.heap.size + 1 + 1, n3, .slice a3 zs.length c3, zs), (w.heap.size + 1, n2, .slice a2 ys.length c2, ys), (w.heap.size, n1, .slice a1 xs.length c1, xs)]) (ival n1 xs * ival nn3 rr3) w s1 s2 wx)
    case first =>
      replace hB := hB.drew
      replace hA := hA.drew
      go_region_held3 (fun W' => W'.cell? ⟨w.heap.size, 0, none⟩ = some (.bool n1) ∧ W'.cell? ⟨w.heap.size, 1, none⟩ = some (.slice a1 xs.length c1) ∧ W'.cell? ⟨gg3, 0, none⟩ = some (.bool nn3) ∧ W'.cell? ⟨gg3, 1, none⟩ = some (.slice aa3 ll3 kk3))
        (first | exact ⟨(hA.cells M1.out).1, (hA.cells M1.out).2, (hA.cells M13.out).1, (hA.cells M13.out).2⟩ | exact ⟨(hZ.cells (List.mem_cons_of_mem _ M1.out)).1, (hZ.cells (List.mem_cons_of_mem _ M1.out)).2, (hZ.cells (List.mem_cons_of_mem _ M13.out)).1, (hZ.cells (List.mem_cons_of_mem _ M13.out)).2⟩ | exact ⟨((hA.alloc _).cells M1.out).1, ((hA.alloc _).cells M1.out).2, ((hA.alloc _).cells M13.out).1, ((hA.alloc _).cells M13.out).2⟩ | exact ⟨((hA.push hsx).cells (List.mem_cons_of_mem _ M1.out)).1, ((hA.push hsx).cells (List.mem_cons_of_mem _ M1.out)).2, ((hA.push hsx).cells (List.mem_cons_of_mem _ M13.out)).1, ((hA.push hsx).cells (List.mem_cons_of_mem _ M13.out)).2⟩ | exact ⟨((hZ.put hd (Nat.le_refl _) hsx nx).cells (List.mem_cons_of_mem _ M1.out)).1, ((hZ.put hd (Nat.le_refl _) hsx nx).cells (List.mem_cons_of_mem _ M1.out)).2, ((hZ.put hd (Nat.le_refl _) hsx nx).cells (List.mem_cons_of_mem _ M13.out)).1, ((hZ.put hd (Nat.le_refl _) hsx nx).cells (List.mem_cons_of_mem _ M13.out)).2⟩)
        (first
          | (go_at_call 15; (with_reducible refine (own_open n1 (.slice a1 xs.length c1) xs _ ?_ ?_).mono ?_); (with_reducible exact hA.sl M1.out); omega; rintro e W40 ⟨ao0, l0, cap0, rfl, hs0, hb⟩; replace hB := hB.trans (hb.mono hB.size); replace hA := hA.step hb; clear hb)
          | (go_at_call 15; (with_reducible refine (own_open n1 (.slice a1 xs.length c1) xs _ ?_ ?_).mono ?_); (with_reducible exact hZ.sl (List.mem_cons_of_mem _ M1.out)); omega; rintro e W40 ⟨ao0, l0, cap0, rfl, hs0, hb⟩; replace hB := hB.trans (hb.mono hB.size); replace hZ := hZ.step hb; clear hb)
          | (go_at_call 15; (with_reducible refine (own_open n1 (.slice a1 xs.length c1) xs _ ?_ ?_).mono ?_); (exact (hA.alloc _).sl M1.out); omega; rintro e W40 ⟨ao0, l0, cap0, rfl, hs0, hb⟩; have hgz := hB.size; replace hB := (hB.alloc hB.size _).trans (hb.mono (Nat.le_trans hB.size (by simp))); have hd := hA.ne; have hZ := hA.zero.step hb; (try simp only [World.size_drew] at hZ hd hgz); clear hb hA)
          | (go_at_call 32; (with_reducible refine (mul_open n1 nn3 _ _ xs rr3 _ ?_ ?_ S1.out S13.out).mono ?_); (with_reducible exact hs0); (with_reducible exact (hA.sl M13.out)); rintro e V4 ⟨nx, aox, lx, capx, rx, cx, rfl, hsx, hb, hrx⟩; have HRX := Lib.hid hrx; clear hrx; replace hB := hB.trans (hb.mono hB.size); replace hA := hA.step hb; clear hb)
          | (go_at_call 32; (with_reducible refine (mul_open n1 nn3 _ _ xs rr3 _ ?_ ?_ S1.out S13.out).mono ?_); (with_reducible exact hs0); (with_reducible exact (hZ.sl (List.mem_cons_of_mem _ M13.out))); rintro e V4 ⟨nx, aox, lx, capx, rx, cx, rfl, hsx, hb, hrx⟩; have HRX := Lib.hid hrx; clear hrx; replace hB := hB.trans (hb.mono hB.size); replace hZ := hZ.step hb; obtain ⟨z0, z1, y0, y1⟩ := hZ.zfacts; clear hb)
          | (go_at_call 32; (with_reducible refine (mul_open n1 nn3 _ _ xs rr3 _ ?_ ?_ S1.out S13.out).mono ?_); exact (hs0.below (below1 _ _)); exact ((hA.alloc _).sl M13.out); rintro e V4 ⟨nx, aox, lx, capx, rx, cx, rfl, hsx, hb, hrx⟩; have HRX := Lib.hid hrx; clear hrx; have hgz := hB.size; replace hB := (hB.alloc hB.size _).trans (hb.mono (Nat.le_trans hB.size (by simp))); have hd := hA.ne; have hZ := hA.zero.step hb; (try simp only [World.size_drew, World.size_alloc] at hZ hd hgz); obtain ⟨z0, z1, y0, y1⟩ := hZ.zfacts; clear hb hA))
      all_goals (go_wp2_with fail; go_meet)
      all_goals first
        | exact ⟨_, nx, aox, lx, capx, rx, cx, rfl, rfl, hA.push hsx, hB.size, hB.alloc hB.size _, HRX.out⟩
        | exact ⟨_, nx, aox, lx, capx, rx, cx, rfl, rfl, hZ.put hd (Nat.le_refl _) hsx nx, hgz, (hB.setCell hgz _).setCell hgz _, HRX.out⟩
    case rest =>
      clear hA hB
      obtain ⟨gg4, nn4, aa4, ll4, kk4, rr4, cc4, rfl, rfl, hA, hg4, hB, hr4⟩ := hcut
      obtain ⟨rfl, sd4, v4⟩ := res_ok hr4 (by rw [E3.out, Int.mul_add]; exact abs2 B12.out B13.out)
      have S14 := Lib.hid sd4
      have E4 := Lib.hid v4
      clear sd4 v4 hr4
      replace M1 := Lib.hid (List.mem_cons_of_mem (gg4, nn4, Value.slice aa4 ll4 kk4, rr4) M1.out)
      replace M2 := Lib.hid (List.mem_cons_of_mem (gg4, nn4, Value.slice aa4 ll4 kk4, rr4) M2.out)
      replace M3 := Lib.hid (List.mem_cons_of_mem (gg4, nn4, Value.slice aa4 ll4 kk4, rr4) M3.out)
      replace M13 := Lib.hid (List.mem_cons_of_mem (gg4, nn4, Value.slice aa4 ll4 kk4, rr4) M13.out)
      have M14 := Lib.hid (List.mem_cons_self (a := (gg4, nn4, Value.slice aa4 ll4 kk4, rr4)) (l := ((gg3, nn3, Value.slice aa3 ll3 kk3, rr3) :: [(w.heap.size + 1 + 1, n3, .slice a3 zs.length c3, zs), (w.heap.size + 1, n2, .slice a2 ys.length c2, ys), (w.heap.size, n1, .slice a1 xs.length c1, xs)])))
      go_upto_region 5 with fail
      go_cut [11, 12] (fun s1 s2 wx => Made ((gg4, nn4, Value.slice aa4 ll4 kk4, rr4) :: ((gg3, nn3, Value.slice aa3 ll3 kk3, rr3) :: [(w.heap.size + 1 + 1, n3, .slice a3 zs.length c3, zs), (w.heap.size + 1, n2, .slice a2 ys.length c2, ys), (w.heap.size, n1, .slice a1 xs.length c1, xs)])) (ival n1 xs * ival n2 ys) w s1 s2 wx)
      case first =>
        replace hB := hB.drew
        replace hA := hA.drew
        go_region_held3 (fun W' => W'.cell? ⟨w.heap.size, 0, none⟩ = some (.bool n1) ∧ W'.cell? ⟨w.heap.size, 1, none⟩ = some (.slice a1 xs.length c1) ∧ W'.cell? ⟨w.heap.size + 1, 0, none⟩ = some (.bool n2) ∧ W'.cell? ⟨w.heap.size + 1, 1, none⟩ = some (.slice a2 ys.length c2))
          (first | exact ⟨(hA.cells M1.out).1, (hA.cells M1.out).2, (hA.cells M2.out).1, (hA.cells M2.out).2⟩ | exact ⟨(hZ.cells (List.mem_cons_of_mem _ M1.out)).1, (hZ.cells (List.mem_cons_of_mem _ M1.out)).2, (hZ.cells (List.mem_cons_of_mem _ M2.out)).1, (hZ.cells (List.mem_cons_of_mem _ M2.out)).2⟩ | exact ⟨((hA.alloc _).cells M1.out).1, ((hA.alloc _).cells M1.out).2, ((hA.alloc _).cells M2.out).1, ((hA.alloc _).cells M2.out).2⟩ | exact ⟨((hA.push hsx).cells (List.mem_cons_of_mem _ M1.out)).1, ((hA.push hsx).cells (List.mem_cons_of_mem _ M1.out)).2, ((hA.push hsx).cells (List.mem_cons_of_mem _ M2.out)).1, ((hA.push hsx).cells (List.mem_cons_of_mem _ M2.out)).2⟩ | exact ⟨((hZ.put hd (Nat.le_refl _) hsx nx).cells (List.mem_cons_of_mem _ M1.out)).1, ((hZ.put hd (Nat.le_refl _) hsx nx).cells (List.mem_cons_of_mem _ M1.out)).2, ((hZ.put hd (Nat.le_refl _) hsx nx).cells (List.mem_cons_of_mem _ M2.out)).1, ((hZ.put hd (Nat.le_refl _) hsx nx).cells (List.mem_cons_of_mem _ M2.out)).2⟩)
          (first
            | (go_at_call 15; (with_reducible refine (own_open n1 (.slice a1 xs.length c1) xs _ ?_ ?_).mono ?_); (with_reducible exact hA.sl M1.out); omega; rintro e W50 ⟨ao0, l0, cap0, rfl, hs0, hb⟩; replace hB := hB.trans (hb.mono hB.size); replace hA := hA.step hb; clear hb)
            | (go_at_call 15; (with_reducible refine (own_open n1 (.slice a1 xs.length c1) xs _ ?_ ?_).mono ?_); (with_reducible exact hZ.sl (List.mem_cons_of_mem _ M1.out)); omega; rintro e W50 ⟨ao0, l0, cap0, rfl, hs0, hb⟩; replace hB := hB.trans (hb.mono hB.size); replace hZ := hZ.step hb; clear hb)
            | (go_at_call 15; (with_reducible refine (own_open n1 (.slice a1 xs.length c1) xs _ ?_ ?_).mono ?_); (exact (hA.alloc _).sl M1.out); omega; rintro e W50 ⟨ao0, l0, cap0, rfl, hs0, hb⟩; have hgz := hB.size; replace hB := (hB.alloc hB.size _).trans (hb.mono (Nat.le_trans hB.size (by simp))); have hd := hA.ne; have hZ := hA.zero.step hb; (try simp only [World.size_drew] at hZ hd hgz); clear hb hA)
            | (go_at_call 15; (with_reducible refine (own_open n2 (.slice a2 ys.length c2) ys _ ?_ ?_).mono ?_); (with_reducible exact hA.sl M2.out); omega; rintro e W51 ⟨ao1, l1, cap1, rfl, hs1, hb⟩; replace hs0 := hs0.below hb; replace hB := hB.trans (hb.mono hB.size); replace hA := hA.step hb; clear hb)
            | (go_at_call 15; (with_reducible refine (own_open n2 (.slice a2 ys.length c2) ys _ ?_ ?_).mono ?_); (with_reducible exact hZ.sl (List.mem_cons_of_mem _ M2.out)); omega; rintro e W51 ⟨ao1, l1, cap1, rfl, hs1, hb⟩; replace hs0 := hs0.below hb; replace hB := hB.trans (hb.mono hB.size); replace hZ := hZ.step hb; clear hb)
            | (go_at_call 15; (with_reducible refine (own_open n2 (.slice a2 ys.length c2) ys _ ?_ ?_).mono ?_); (exact (hA.alloc _).sl M2.out); omega; rintro e W51 ⟨ao1, l1, cap1, rfl, hs1, hb⟩; replace hs0 := (hs0.below (below1 _ _)).below hb; have hgz := hB.size; replace hB := (hB.alloc hB.size _).trans (hb.mono (Nat.le_trans hB.size (by simp))); have hd := hA.ne; have hZ := hA.zero.step hb; (try simp only [World.size_drew, World.size_alloc] at hZ hd hgz); clear hb hA)
            | (go_at_call 32; (with_reducible refine (mul_open n1 n2 _ _ xs ys _ ?_ ?_ S1.out S2.out).mono ?_); (with_reducible exact hs0); (with_reducible exact hs1); rintro e V5 ⟨nx, aox, lx, capx, rx, cx, rfl, hsx, hb, hrx⟩; have HRX := Lib.hid hrx; clear hrx; replace hB := hB.trans (hb.mono hB.size); replace hA := hA.step hb; clear hb)
            | (go_at_call 32; (with_reducible refine (mul_open n1 n2 _ _ xs ys _ ?_ ?_ S1.out S2.out).mono ?_); (with_reducible exact hs0); (with_reducible exact hs1); rintro e V5 ⟨nx, aox, lx, capx, rx, cx, rfl, hsx, hb, hrx⟩; have HRX := Lib.hid hrx; clear hrx; replace hB := hB.trans (hb.mono hB.size); replace hZ := hZ.step hb; obtain ⟨z0, z1, y0, y1⟩ := hZ.zfacts; clear hb)
            | (go_at_call 32; (with_reducible refine (mul_open n1 n2 _ _ xs ys _ ?_ ?_ S1.out S2.out).mono ?_); exact (hs0.below (below1 _ _)); exact (hs1.below (below1 _ _)); rintro e V5 ⟨nx, aox, lx, capx, rx, cx, rfl, hsx, hb, hrx⟩; have HRX := Lib.hid hrx; clear hrx; have hgz := hB.size; replace hB := (hB.alloc hB.size _).trans (hb.mono (Nat.le_trans hB.size (by simp))); have hd := hA.ne; have hZ := hA.zero.step hb; (try simp only [World.size_drew, World.size_alloc] at hZ hd hgz); obtain ⟨z0, z1, y0, y1⟩ := hZ.zfacts; clear hb hA))
        all_goals (go_wp2_with fail; go_meet)
        all_goals first
          | exact ⟨_, nx, aox, lx, capx, rx, cx, rfl, rfl, hA.push hsx, hB.size, hB.alloc hB.size _, HRX.out⟩
          | exact ⟨_, nx, aox, lx, capx, rx, cx, rfl, rfl, hZ.put hd (Nat.le_refl _) hsx nx, hgz, (hB.setCell hgz _).setCell hgz _, HRX.out⟩
      case rest =>
        clear hA hB
        obtain ⟨gg5, nn5, aa5, ll5, kk5, rr5, cc5, rfl, rfl, hA, hg5, hB, hr5⟩ := hcut
        obtain ⟨rfl, sd5, v5⟩ := res_ok hr5 (Nat.lt_trans B12.out big64)
        have S15 := Lib.hid sd5
        have E5 := Lib.hid v5
        clear sd5 v5 hr5
        replace M1 := Lib.hid (List.mem_cons_of_mem (gg5, nn5, Value.slice aa5 ll5 kk5, rr5) M1.out)
        replace M2 := Lib.hid (List.mem_cons_of_mem (gg5, nn5, Value.slice aa5 ll5 kk5, rr5) M2.out)
        replace M3 := Lib.hid (List.mem_cons_of_mem (gg5, nn5, Value.slice aa5 ll5 kk5, rr5) M3.out)
        replace M13 := Lib.hid (List.mem_cons_of_mem (gg5, nn5, Value.slice aa5 ll5 kk5, rr5) M13.out)
        replace M14 := Lib.hid (List.mem_cons_of_mem (gg5, nn5, Value.slice aa5 ll5 kk5, rr5) M14.out)
        have M15 := Lib.hid (List.mem_cons_self (a := (gg5, nn5, Value.slice aa5 ll5 kk5, rr5)) (l := ((gg4, nn4, Value.slice aa4 ll4 kk4, rr4) :: ((gg3, nn3, Value.slice aa3 ll3 kk3, rr3) :: [(w.heap.size + 1 + 1, n3, .slice a3 zs.length c3, zs), (w.heap.size + 1, n2, .slice a2 ys.length c2, ys), (w.heap.size, n1, .slice a1 xs.length c1, xs)]))))
        go_upto_region 6 with fail
        go_cut [13, 14] (fun s1 s2 wx => Made ((gg5, nn5, Value.slice aa5 ll5 kk5, rr5) :: ((gg4, nn4, Value.slice aa4 ll4 kk4, rr4) :: ((gg3, nn3, Value.slice aa3 ll3 kk3, rr3) :: [(w.heap.size + 1 + 1, n3, .slice a3 zs.length c3, zs), (w.heap.size + 1, n2, .slice a2 ys.length c2, ys), (w.heap.size, n1, .slice a1 xs.length c1, xs)]))) (ival n3 zs * ival n1 xs) w s1 s2 wx)
        case first =>
          replace hB := hB.drew
          replace hA := hA.drew
          go_region_held3 (fun W' => W'.cell? ⟨w.heap.size + 1 + 1, 0, none⟩ = some (.bool n3) ∧ W'.cell? ⟨w.heap.size + 1 + 1, 1, none⟩ = some (.slice a3 zs.length c3) ∧ W'.cell? ⟨w.heap.size, 0, none⟩ = some (.bool n1) ∧ W'.cell? ⟨w.heap.size, 1, none⟩ = some (.slice a1 xs.length c1))
            (first | exact ⟨(hA.cells M3.out).1, (hA.cells M3.out).2, (hA.cells M1.out).1, (hA.cells M1.out).2⟩ | exact ⟨(hZ.cells (List.mem_cons_of_mem _ M3.out)).1, (hZ.cells (List.mem_cons_of_mem _ M3.out)).2, (hZ.cells (List.mem_cons_of_mem _ M1.out)).1, (hZ.cells (List.mem_cons_of_mem _ M1.out)).2⟩ | exact ⟨((hA.alloc _).cells M3.out).1, ((hA.alloc _).cells M3.out).2, ((hA.alloc _).cells M1.out).1, ((hA.alloc _).cells M1.out).2⟩ | exact ⟨((hA.push hsx).cells (List.mem_cons_of_mem _ M3.out)).1, ((hA.push hsx).cells (List.mem_cons_of_mem _ M3.out)).2, ((hA.push hsx).cells (List.mem_cons_of_mem _ M1.out)).1, ((hA.push hsx).cells (List.mem_cons_of_mem _ M1.out)).2⟩ | exact ⟨((hZ.put hd (Nat.le_refl _) hsx nx).cells (List.mem_cons_of_mem _ M3.out)).1, ((hZ.put hd (Nat.le_refl _) hsx nx).cells (List.mem_cons_of_mem _ M3.out)).2, ((hZ.put hd (Nat.le_refl _) hsx nx).cells (List.mem_cons_of_mem _ M1.out)).1, ((hZ.put hd (Nat.le_refl _) hsx nx).cells (List.mem_cons_of_mem _ M1.out)).2⟩)
            (first
              | (go_at_call 15; (with_reducible refine (own_open n3 (.slice a3 zs.length c3) zs _ ?_ ?_).mono ?_); (with_reducible exact hA.sl M3.out); omega; rintro e W60 ⟨ao0, l0, cap0, rfl, hs0, hb⟩; replace hB := hB.trans (hb.mono hB.size); replace hA := hA.step hb; clear hb)
              | (go_at_call 15; (with_reducible refine (own_open n3 (.slice a3 zs.length c3) zs _ ?_ ?_).mono ?_); (with_reducible exact hZ.sl (List.mem_cons_of_mem _ M3.out)); omega; rintro e W60 ⟨ao0, l0, cap0, rfl, hs0, hb⟩; replace hB := hB.trans (hb.mono hB.size); replace hZ := hZ.step hb; clear hb)
              | (go_at_call 15; (with_reducible refine (own_open n3 (.slice a3 zs.length c3) zs _ ?_ ?_).mono ?_); (exact (hA.alloc _).sl M3.out); omega; rintro e W60 ⟨ao0, l0, cap0, rfl, hs0, hb⟩; have hgz := hB.size; replace hB := (hB.alloc hB.size _).trans (hb.mono (Nat.le_trans hB.size (by simp))); have hd := hA.ne; have hZ := hA.zero.step hb; (try simp only [World.size_drew] at hZ hd hgz); clear hb hA)
              | (go_at_call 15; (with_reducible refine (own_open n1 (.slice a1 xs.length c1) xs _ ?_ ?_).mono ?_); (with_reducible exact hA.sl M1.out); omega; rintro e W61 ⟨ao1, l1, cap1, rfl, hs1, hb⟩; replace hs0 := hs0.below hb; replace hB := hB.trans (hb.mono hB.size); replace hA := hA.step hb; clear hb)
              | (go_at_call 15; (with_reducible refine (own_open n1 (.slice a1 xs.length c1) xs _ ?_ ?_).mono ?_); (with_reducible exact hZ.sl (List.mem_cons_of_mem _ M1.out)); omega; rintro e W61 ⟨ao1, l1, cap1, rfl, hs1, hb⟩; replace hs0 := hs0.below hb; replace hB := hB.trans (hb.mono hB.size); replace hZ := hZ.step hb; clear hb)
              | (go_at_call 15; (with_reducible refine (own_open n1 (.slice a1 xs.length c1) xs _ ?_ ?_).mono ?_); (exact (hA.alloc _).sl M1.out); omega; rintro e W61 ⟨ao1, l1, cap1, rfl, hs1, hb⟩; replace hs0 := (hs0.below (below1 _ _)).below hb; have hgz := hB.size; replace hB := (hB.alloc hB.size _).trans (hb.mono (Nat.le_trans hB.size (by simp))); have hd := hA.ne; have hZ := hA.zero.step hb; (try simp only [World.size_drew, World.size_alloc] at hZ hd hgz); clear hb hA)
              | (go_at_call 32; (with_reducible refine (mul_open n3 n1 _ _ zs xs _ ?_ ?_ S3.out S1.out).mono ?_); (with_reducible exact hs0); (with_reducible exact hs1); rintro e V6 ⟨nx, aox, lx, capx, rx, cx, rfl, hsx, hb, hrx⟩; have HRX := Lib.hid hrx; clear hrx; replace hB := hB.trans (hb.mono hB.size); replace hA := hA.step hb; clear hb)
              | (go_at_call 32; (with_reducible refine (mul_open n3 n1 _ _ zs xs _ ?_ ?_ S3.out S1.out).mono ?_); (with_reducible exact hs0); (with_reducible exact hs1); rintro e V6 ⟨nx, aox, lx, capx, rx, cx, rfl, hsx, hb, hrx⟩; have HRX := Lib.hid hrx; clear hrx; replace hB := hB.trans (hb.mono hB.size); replace hZ := hZ.step hb; obtain ⟨z0, z1, y0, y1⟩ := hZ.zfacts; clear hb)
              | (go_at_call 32; (with_reducible refine (mul_open n3 n1 _ _ zs xs _ ?_ ?_ S3.out S1.out).mono ?_); exact (hs0.below (below1 _ _)); exact (hs1.below (below1 _ _)); rintro e V6 ⟨nx, aox, lx, capx, rx, cx, rfl, hsx, hb, hrx⟩; have HRX := Lib.hid hrx; clear hrx; have hgz := hB.size; replace hB := (hB.alloc hB.size _).trans (hb.mono (Nat.le_trans hB.size (by simp))); have hd := hA.ne; have hZ := hA.zero.step hb; (try simp only [World.size_drew, World.size_alloc] at hZ hd hgz); obtain ⟨z0, z1, y0, y1⟩ := hZ.zfacts; clear hb hA))
          all_goals (go_wp2_with fail; go_meet)
          all_goals first
            | exact ⟨_, nx, aox, lx, capx, rx, cx, rfl, rfl, hA.push hsx, hB.size, hB.alloc hB.size _, HRX.out⟩
            | exact ⟨_, nx, aox, lx, capx, rx, cx, rfl, rfl, hZ.put hd (Nat.le_refl _) hsx nx, hgz, (hB.setCell hgz _).setCell hgz _, HRX.out⟩
        case rest =>
          clear hA hB
          obtain ⟨gg6, nn6, aa6, ll6, kk6, rr6, cc6, rfl, rfl, hA, hg6, hB, hr6⟩ := hcut
          obtain ⟨rfl, sd6, v6⟩ := res_ok hr6 (by rw [Int.mul_comm]; exact Nat.lt_trans B13.out big64)
          have S16 := Lib.hid sd6
          have E6 := Lib.hid v6
          clear sd6 v6 hr6
          replace M1 := Lib.hid (List.mem_cons_of_mem (gg6, nn6, Value.slice aa6 ll6 kk6, rr6) M1.out)
          replace M2 := Lib.hid (List.mem_cons_of_mem (gg6, nn6, Value.slice aa6 ll6 kk6, rr6) M2.out)
          replace M3 := Lib.hid (List.mem_cons_of_mem (gg6, nn6, Value.slice aa6 ll6 kk6, rr6) M3.out)
          replace M13 := Lib.hid (List.mem_cons_of_mem (gg6, nn6, Value.slice aa6 ll6 kk6, rr6) M13.out)
          replace M14 := Lib.hid (List.mem_cons_of_mem (gg6, nn6, Value.slice aa6 ll6 kk6, rr6) M14.out)
          replace M15 := Lib.hid (List.mem_cons_of_mem (gg6, nn6, Value.slice aa6 ll6 kk6, rr6) M15.out)
          have M16 := Lib.hid (List.mem_cons_self (a := (gg6, nn6, Value.slice aa6 ll6 kk6, rr6)) (l := ((gg5, nn5, Value.slice aa5 ll5 kk5, rr5) :: ((gg4, nn4, Value.slice aa4 ll4 kk4, rr4) :: ((gg3, nn3, Value.slice aa3 ll3 kk3, rr3) :: [(w.heap.size + 1 + 1, n3, .slice a3 zs.length c3, zs), (w.heap.size + 1, n2, .slice a2 ys.length c2, ys), (w.heap.size, n1, .slice a1 xs.length c1, xs)])))))
          obtain ⟨p0, p1⟩ := hA.cells M16.out
          obtain ⟨q0, q1⟩ := hA.cells M15.out
          go_wp2_with fail
          refine (add_open nn6 nn5 _ _ rr6 rr5 _ (hA.sl M16.out) (hA.sl M15.out) S16.out S15.out).mono ?_
          rintro e V7 ⟨nn7, aa7, ll7, kk7, rr7, cc7, rfl, hsx, hb, hr7⟩
          obtain ⟨rfl, sd7, v7⟩ := res_ok hr7 (by rw [E6.out, E5.out, Int.mul_comm (ival n3 zs)]; exact abs2 B13.out B12.out)
          have S17 := Lib.hid sd7
          have E7 := Lib.hid v7
          clear sd7 v7 hr7 p0 p1 q0 q1
          replace hB := hB.trans (hb.mono hB.size)
          replace hA := hA.step hb
          clear hb
          replace hB := hB.alloc hB.size (.cells #[.bool nn7, .slice aa7 ll7 kk7] 24)
          replace hA := hA.push (n := nn7) hsx
          clear hsx
          replace M1 := Lib.hid (List.mem_cons_of_mem (V7.heap.size, nn7, Value.slice aa7 ll7 kk7, rr7) M1.out)
          replace M2 := Lib.hid (List.mem_cons_of_mem (V7.heap.size, nn7, Value.slice aa7 ll7 kk7, rr7) M2.out)
          replace M3 := Lib.hid (List.mem_cons_of_mem (V7.heap.size, nn7, Value.slice aa7 ll7 kk7, rr7) M3.out)
          replace M13 := Lib.hid (List.mem_cons_of_mem (V7.heap.size, nn7, Value.slice aa7 ll7 kk7, rr7) M13.out)
          replace M14 := Lib.hid (List.mem_cons_of_mem (V7.heap.size, nn7, Value.slice aa7 ll7 kk7, rr7) M14.out)
          replace M15 := Lib.hid (List.mem_cons_of_mem (V7.heap.size, nn7, Value.slice aa7 ll7 kk7, rr7) M15.out)
          replace M16 := Lib.hid (List.mem_cons_of_mem (V7.heap.size, nn7, Value.slice aa7 ll7 kk7, rr7) M16.out)
          have M17 := Lib.hid (List.mem_cons_self (a := (V7.heap.size, nn7, Value.slice aa7 ll7 kk7, rr7)) (l := ((gg6, nn6, Value.slice aa6 ll6 kk6, rr6) :: ((gg5, nn5, Value.slice aa5 ll5 kk5, rr5) :: ((gg4, nn4, Value.slice aa4 ll4 kk4, rr4) :: ((gg3, nn3, Value.slice aa3 ll3 kk3, rr3) :: [(w.heap.size + 1 + 1, n3, .slice a3 zs.length c3, zs), (w.heap.size + 1, n2, .slice a2 ys.length c2, ys), (w.heap.size, n1, .slice a1 xs.length c1, xs)]))))))
          go_upto_region 8 with fail
          go_cut [17, 18] (fun s1 s2 wx => Made ((V7.heap.size, nn7, Value.slice aa7 ll7 kk7, rr7) :: ((gg6, nn6, Value.slice aa6 ll6 kk6, rr6) :: ((gg5, nn5, Value.slice aa5 ll5 kk5, rr5) :: ((gg4, nn4, Value.slice aa4 ll4 kk4, rr4) :: ((gg3, nn3, Value.slice aa3 ll3 kk3, rr3) :: [(w.heap.size + 1 + 1, n3, .slice a3 zs.length c3, zs), (w.heap.size + 1, n2, .slice a2 ys.length c2, ys), (w.heap.size, n1, .slice a1 xs.length c1, xs)]))))) (ival n3 zs + ival n2 ys) w s1 s2 wx)
          case first =>
            replace hB := hB.drew
            replace hA := hA.drew
            go_region_held3 (fun W' => W'.cell? ⟨w.heap.size + 1 + 1, 0, none⟩ = some (.bool n3) ∧ W'.cell? ⟨w.heap.size + 1 + 1, 1, none⟩ = some (.slice a3 zs.length c3) ∧ W'.cell? ⟨w.heap.size + 1, 0, none⟩ = some (.bool n2) ∧ W'.cell? ⟨w.heap.size + 1, 1, none⟩ = some (.slice a2 ys.length c2))
              (first | exact ⟨(hA.cells M3.out).1, (hA.cells M3.out).2, (hA.cells M2.out).1, (hA.cells M2.out).2⟩ | exact ⟨(hZ.cells (List.mem_cons_of_mem _ M3.out)).1, (hZ.cells (List.mem_cons_of_mem _ M3.out)).2, (hZ.cells (List.mem_cons_of_mem _ M2.out)).1, (hZ.cells (List.mem_cons_of_mem _ M2.out)).2⟩ | exact ⟨((hA.alloc _).cells M3.out).1, ((hA.alloc _).cells M3.out).2, ((hA.alloc _).cells M2.out).1, ((hA.alloc _).cells M2.out).2⟩ | exact ⟨((hA.push hsx).cells (List.mem_cons_of_mem _ M3.out)).1, ((hA.push hsx).cells (List.mem_cons_of_mem _ M3.out)).2, ((hA.push hsx).cells (List.mem_cons_of_mem _ M2.out)).1, ((hA.push hsx).cells (List.mem_cons_of_mem _ M2.out)).2⟩ | exact ⟨((hZ.put hd (Nat.le_refl _) hsx nx).cells (List.mem_cons_of_mem _ M3.out)).1, ((hZ.put hd (Nat.le_refl _) hsx nx).cells (List.mem_cons_of_mem _ M3.out)).2, ((hZ.put hd (Nat.le_refl _) hsx nx).cells (List.mem_cons_of_mem _ M2.out)).1, ((hZ.put hd (Nat.le_refl _) hsx nx).cells (List.mem_cons_of_mem _ M2.out)).2⟩)
              (first
                | (go_at_call 15; (with_reducible refine (own_open n3 (.slice a3 zs.length c3) zs _ ?_ ?_).mono ?_); (with_reducible exact hA.sl M3.out); omega; rintro e W80 ⟨ao0, l0, cap0, rfl, hs0, hb⟩; replace hB := hB.trans (hb.mono hB.size); replace hA := hA.step hb; clear hb)
                | (go_at_call 15; (with_reducible refine (own_open n3 (.slice a3 zs.length c3) zs _ ?_ ?_).mono ?_); (with_reducible exact hZ.sl (List.mem_cons_of_mem _ M3.out)); omega; rintro e W80 ⟨ao0, l0, cap0, rfl, hs0, hb⟩; replace hB := hB.trans (hb.mono hB.size); replace hZ := hZ.step hb; clear hb)
                | (go_at_call 15; (with_reducible refine (own_open n3 (.slice a3 zs.length c3) zs _ ?_ ?_).mono ?_); (exact (hA.alloc _).sl M3.out); omega; rintro e W80 ⟨ao0, l0, cap0, rfl, hs0, hb⟩; have hgz := hB.size; replace hB := (hB.alloc hB.size _).trans (hb.mono (Nat.le_trans hB.size (by simp))); have hd := hA.ne; have hZ := hA.zero.step hb; (try simp only [World.size_drew, World.size_alloc] at hZ hd hgz); clear hb hA)
                | (go_at_call 15; (with_reducible refine (own_open n2 (.slice a2 ys.length c2) ys _ ?_ ?_).mono ?_); (with_reducible exact hA.sl M2.out); omega; rintro e W81 ⟨ao1, l1, cap1, rfl, hs1, hb⟩; replace hs0 := hs0.below hb; replace hB := hB.trans (hb.mono hB.size); replace hA := hA.step hb; clear hb)
                | (go_at_call 15; (with_reducible refine (own_open n2 (.slice a2 ys.length c2) ys _ ?_ ?_).mono ?_); (with_reducible exact hZ.sl (List.mem_cons_of_mem _ M2.out)); omega; rintro e W81 ⟨ao1, l1, cap1, rfl, hs1, hb⟩; replace hs0 := hs0.below hb; replace hB := hB.trans (hb.mono hB.size); replace hZ := hZ.step hb; clear hb)
                | (go_at_call 15; (with_reducible refine (own_open n2 (.slice a2 ys.length c2) ys _ ?_ ?_).mono ?_); (exact (hA.alloc _).sl M2.out); omega; rintro e W81 ⟨ao1, l1, cap1, rfl, hs1, hb⟩; replace hs0 := (hs0.below (below1 _ _)).below hb; have hgz := hB.size; replace hB := (hB.alloc hB.size _).trans (hb.mono (Nat.le_trans hB.size (by simp))); have hd := hA.ne; have hZ := hA.zero.step hb; (try simp only [World.size_drew, World.size_alloc] at hZ hd hgz); clear hb hA)
                | (go_at_call 26; (with_reducible refine (add_open n3 n2 _ _ zs ys _ ?_ ?_ S3.out S2.out).mono ?_); (with_reducible exact hs0); (with_reducible exact hs1); rintro e V8 ⟨nx, aox, lx, capx, rx, cx, rfl, hsx, hb, hrx⟩; have HRX := Lib.hid hrx; clear hrx; replace hB := hB.trans (hb.mono hB.size); replace hA := hA.step hb; clear hb)
                | (go_at_call 26; (with_reducible refine (add_open n3 n2 _ _ zs ys _ ?_ ?_ S3.out S2.out).mono ?_); (with_reducible exact hs0); (with_reducible exact hs1); rintro e V8 ⟨nx, aox, lx, capx, rx, cx, rfl, hsx, hb, hrx⟩; have HRX := Lib.hid hrx; clear hrx; replace hB := hB.trans (hb.mono hB.size); replace hZ := hZ.step hb; obtain ⟨z0, z1, y0, y1⟩ := hZ.zfacts; clear hb)
                | (go_at_call 26; (with_reducible refine (add_open n3 n2 _ _ zs ys _ ?_ ?_ S3.out S2.out).mono ?_); exact (hs0.below (below1 _ _)); exact (hs1.below (below1 _ _)); rintro e V8 ⟨nx, aox, lx, capx, rx, cx, rfl, hsx, hb, hrx⟩; have HRX := Lib.hid hrx; clear hrx; have hgz := hB.size; replace hB := (hB.alloc hB.size _).trans (hb.mono (Nat.le_trans hB.size (by simp))); have hd := hA.ne; have hZ := hA.zero.step hb; (try simp only [World.size_drew, World.size_alloc] at hZ hd hgz); obtain ⟨z0, z1, y0, y1⟩ := hZ.zfacts; clear hb hA))
            all_goals (go_wp2_with fail; go_meet)
            all_goals first
              | exact ⟨_, nx, aox, lx, capx, rx, cx, rfl, rfl, hA.push hsx, hB.size, hB.alloc hB.size _, HRX.out⟩
              | exact ⟨_, nx, aox, lx, capx, rx, cx, rfl, rfl, hZ.put hd (Nat.le_refl _) hsx nx, hgz, (hB.setCell hgz _).setCell hgz _, HRX.out⟩
          case rest =>
            clear hA hB
            obtain ⟨gg8, nn8, aa8, ll8, kk8, rr8, cc8, rfl, rfl, hA, hg8, hB, hr8⟩ := hcut
            obtain ⟨rfl, sd8, v8⟩ := res_ok hr8 (add_abs B3.out B2.out)
            have S18 := Lib.hid sd8
            have E8 := Lib.hid v8
            clear sd8 v8 hr8
            replace M1 := Lib.hid (List.mem_cons_of_mem (gg8, nn8, Value.slice aa8 ll8 kk8, rr8) M1.out)
            replace M2 := Lib.hid (List.mem_cons_of_mem (gg8, nn8, Value.slice aa8 ll8 kk8, rr8) M2.out)
            replace M3 := Lib.hid (List.mem_cons_of_mem (gg8, nn8, Value.slice aa8 ll8 kk8, rr8) M3.out)
            replace M13 := Lib.hid (List.mem_cons_of_mem (gg8, nn8, Value.slice aa8 ll8 kk8, rr8) M13.out)
            replace M14 := Lib.hid (List.mem_cons_of_mem (gg8, nn8, Value.slice aa8 ll8 kk8, rr8) M14.out)
            replace M15 := Lib.hid (List.mem_cons_of_mem (gg8, nn8, Value.slice aa8 ll8 kk8, rr8) M15.out)
            replace M16 := Lib.hid (List.mem_cons_of_mem (gg8, nn8, Value.slice aa8 ll8 kk8, rr8) M16.out)
            replace M17 := Lib.hid (List.mem_cons_of_mem (gg8, nn8, Value.slice aa8 ll8 kk8, rr8) M17.out)
            have M18 := Lib.hid (List.mem_cons_self (a := (gg8, nn8, Value.slice aa8 ll8 kk8, rr8)) (l := ((V7.heap.size, nn7, Value.slice aa7 ll7 kk7, rr7) :: ((gg6, nn6, Value.slice aa6 ll6 kk6, rr6) :: ((gg5, nn5, Value.slice aa5 ll5 kk5, rr5) :: ((gg4, nn4, Value.slice aa4 ll4 kk4, rr4) :: ((gg3, nn3, Value.slice aa3 ll3 kk3, rr3) :: [(w.heap.size + 1 + 1, n3, .slice a3 zs.length c3, zs), (w.heap.size + 1, n2, .slice a2 ys.length c2, ys), (w.heap.size, n1, .slice a1 xs.length c1, xs)])))))))
            go_upto_region 9 with fail
            go_cut [19, 20] (fun s1 s2 wx => Made ((gg8, nn8, Value.slice aa8 ll8 kk8, rr8) :: ((V7.heap.size, nn7, Value.slice aa7 ll7 kk7, rr7) :: ((gg6, nn6, Value.slice aa6 ll6 kk6, rr6) :: ((gg5, nn5, Value.slice aa5 ll5 kk5, rr5) :: ((gg4, nn4, Value.slice aa4 ll4 kk4, rr4) :: ((gg3, nn3, Value.slice aa3 ll3 kk3, rr3) :: [(w.heap.size + 1 + 1, n3, .slice a3 zs.length c3, zs), (w.heap.size + 1, n2, .slice a2 ys.length c2, ys), (w.heap.size, n1, .slice a1 xs.length c1, xs)])))))) (ival nn8 rr8 - ival n3 zs) w s1 s2 wx)
            case first =>
              replace hB := hB.drew
              replace hA := hA.drew
              go_region_held3 (fun W' => W'.cell? ⟨gg8, 0, none⟩ = some (.bool nn8) ∧ W'.cell? ⟨gg8, 1, none⟩ = some (.slice aa8 ll8 kk8) ∧ W'.cell? ⟨w.heap.size + 1 + 1, 0, none⟩ = some (.bool n3) ∧ W'.cell? ⟨w.heap.size + 1 + 1, 1, none⟩ = some (.slice a3 zs.length c3))
                (first | exact ⟨(hA.cells M18.out).1, (hA.cells M18.out).2, (hA.cells M3.out).1, (hA.cells M3.out).2⟩ | exact ⟨(hZ.cells (List.mem_cons_of_mem _ M18.out)).1, (hZ.cells (List.mem_cons_of_mem _ M18.out)).2, (hZ.cells (List.mem_cons_of_mem _ M3.out)).1, (hZ.cells (List.mem_cons_of_mem _ M3.out)).2⟩ | exact ⟨((hA.alloc _).cells M18.out).1, ((hA.alloc _).cells M18.out).2, ((hA.alloc _).cells M3.out).1, ((hA.alloc _).cells M3.out).2⟩ | exact ⟨((hA.push hsx).cells (List.mem_cons_of_mem _ M18.out)).1, ((hA.push hsx).cells (List.mem_cons_of_mem _ M18.out)).2, ((hA.push hsx).cells (List.mem_cons_of_mem _ M3.out)).1, ((hA.push hsx).cells (List.mem_cons_of_mem _ M3.out)).2⟩ | exact ⟨((hZ.put hd (Nat.le_refl _) hsx nx).cells (List.mem_cons_of_mem _ M18.out)).1, ((hZ.put hd (Nat.le_refl _) hsx nx).cells (List.mem_cons_of_mem _ M18.out)).2, ((hZ.put hd (Nat.le_refl _) hsx nx).cells (List.mem_cons_of_mem _ M3.out)).1, ((hZ.put hd (Nat.le_refl _) hsx nx).cells (List.mem_cons_of_mem _ M3.out)).2⟩)
                (first
                  | (go_at_call 15; (with_reducible refine (own_open n3 (.slice a3 zs.length c3) zs _ ?_ ?_).mono ?_); (with_reducible exact hA.sl M3.out); omega; rintro e W90 ⟨ao0, l0, cap0, rfl, hs0, hb⟩; replace hB := hB.trans (hb.mono hB.size); replace hA := hA.step hb; clear hb)
                  | (go_at_call 15; (with_reducible refine (own_open n3 (.slice a3 zs.length c3) zs _ ?_ ?_).mono ?_); (with_reducible exact hZ.sl (List.mem_cons_of_mem _ M3.out)); omega; rintro e W90 ⟨ao0, l0, cap0, rfl, hs0, hb⟩; replace hB := hB.trans (hb.mono hB.size); replace hZ := hZ.step hb; clear hb)
                  | (go_at_call 15; (with_reducible refine (own_open n3 (.slice a3 zs.length c3) zs _ ?_ ?_).mono ?_); (exact (hA.alloc _).sl M3.out); omega; rintro e W90 ⟨ao0, l0, cap0, rfl, hs0, hb⟩; have hgz := hB.size; replace hB := (hB.alloc hB.size _).trans (hb.mono (Nat.le_trans hB.size (by simp))); have hd := hA.ne; have hZ := hA.zero.step hb; (try simp only [World.size_drew] at hZ hd hgz); clear hb hA)
                  | (go_at_call 28; (with_reducible refine (sub_open nn8 n3 _ _ rr8 zs _ ?_ ?_ S18.out S3.out).mono ?_); (with_reducible exact (hA.sl M18.out)); (with_reducible exact hs0); rintro e V9 ⟨nx, aox, lx, capx, rx, cx, rfl, hsx, hb, hrx⟩; have HRX := Lib.hid hrx; clear hrx; replace hB := hB.trans (hb.mono hB.size); replace hA := hA.step hb; clear hb)
                  | (go_at_call 28; (with_reducible refine (sub_open nn8 n3 _ _ rr8 zs _ ?_ ?_ S18.out S3.out).mono ?_); (with_reducible exact (hZ.sl (List.mem_cons_of_mem _ M18.out))); (with_reducible exact hs0); rintro e V9 ⟨nx, aox, lx, capx, rx, cx, rfl, hsx, hb, hrx⟩; have HRX := Lib.hid hrx; clear hrx; replace hB := hB.trans (hb.mono hB.size); replace hZ := hZ.step hb; obtain ⟨z0, z1, y0, y1⟩ := hZ.zfacts; clear hb)
                  | (go_at_call 28; (with_reducible refine (sub_open nn8 n3 _ _ rr8 zs _ ?_ ?_ S18.out S3.out).mono ?_); exact ((hA.alloc _).sl M18.out); exact (hs0.below (below1 _ _)); rintro e V9 ⟨nx, aox, lx, capx, rx, cx, rfl, hsx, hb, hrx⟩; have HRX := Lib.hid hrx; clear hrx; have hgz := hB.size; replace hB := (hB.alloc hB.size _).trans (hb.mono (Nat.le_trans hB.size (by simp))); have hd := hA.ne; have hZ := hA.zero.step hb; (try simp only [World.size_drew, World.size_alloc] at hZ hd hgz); obtain ⟨z0, z1, y0, y1⟩ := hZ.zfacts; clear hb hA))
              all_goals (go_wp2_with fail; go_meet)
              all_goals first
                | exact ⟨_, nx, aox, lx, capx, rx, cx, rfl, rfl, hA.push hsx, hB.size, hB.alloc hB.size _, HRX.out⟩
                | exact ⟨_, nx, aox, lx, capx, rx, cx, rfl, rfl, hZ.put hd (Nat.le_refl _) hsx nx, hgz, (hB.setCell hgz _).setCell hgz _, HRX.out⟩
            case rest =>
              clear hA hB
              obtain ⟨gg9, nn9, aa9, ll9, kk9, rr9, cc9, rfl, rfl, hA, hg9, hB, hr9⟩ := hcut
              obtain ⟨rfl, sd9, v9⟩ := res_ok hr9 (by rw [E8.out]; have := ival_abs n2 ys; have := B2.out; have := big64; omega)
              have S19 := Lib.hid sd9
              have E9 := Lib.hid v9
              clear sd9 v9 hr9
              replace M1 := Lib.hid (List.mem_cons_of_mem (gg9, nn9, Value.slice aa9 ll9 kk9, rr9) M1.out)
              replace M2 := Lib.hid (List.mem_cons_of_mem (gg9, nn9, Value.slice aa9 ll9 kk9, rr9) M2.out)
              replace M3 := Lib.hid (List.mem_cons_of_mem (gg9, nn9, Value.slice aa9 ll9 kk9, rr9) M3.out)
              replace M13 := Lib.hid (List.mem_cons_of_mem (gg9, nn9, Value.slice aa9 ll9 kk9, rr9) M13.out)
              replace M14 := Lib.hid (List.mem_cons_of_mem (gg9, nn9, Value.slice aa9 ll9 kk9, rr9) M14.out)
              replace M15 := Lib.hid (List.mem_cons_of_mem (gg9, nn9, Value.slice aa9 ll9 kk9, rr9) M15.out)
              replace M16 := Lib.hid (List.mem_cons_of_mem (gg9, nn9, Value.slice aa9 ll9 kk9, rr9) M16.out)
              replace M17 := Lib.hid (List.mem_cons_of_mem (gg9, nn9, Value.slice aa9 ll9 kk9, rr9) M17.out)
              replace M18 := Lib.hid (List.mem_cons_of_mem (gg9, nn9, Value.slice aa9 ll9 kk9, rr9) M18.out)
              have M19 := Lib.hid (List.mem_cons_self (a := (gg9, nn9, Value.slice aa9 ll9 kk9, rr9)) (l := ((gg8, nn8, Value.slice aa8 ll8 kk8, rr8) :: ((V7.heap.size, nn7, Value.slice aa7 ll7 kk7, rr7) :: ((gg6, nn6, Value.slice aa6 ll6 kk6, rr6) :: ((gg5, nn5, Value.slice aa5 ll5 kk5, rr5) :: ((gg4, nn4, Value.slice aa4 ll4 kk4, rr4) :: ((gg3, nn3, Value.slice aa3 ll3 kk3, rr3) :: [(w.heap.size + 1 + 1, n3, .slice a3 zs.length c3, zs), (w.heap.size + 1, n2, .slice a2 ys.length c2, ys), (w.heap.size, n1, .slice a1 xs.length c1, xs)]))))))))
              obtain ⟨p0, p1⟩ := hA.cells M14.out
              obtain ⟨q0, q1⟩ := hA.cells M17.out
              go_wp2_with fail
              refine (same_any nn4 nn7 _ _ rr4 rr7 _ (hA.sl M14.out) (hA.sl M17.out)).mono ?_
              rintro e V10 ⟨rfl, hb⟩
              rw [sameB_true (snd_unique S14.out S17.out (by rw [E4.out, E7.out, E6.out, E5.out, E3.out, Int.mul_add, Int.mul_comm (ival n3 zs), Int.add_comm]))]
              replace hB := hB.trans (hb.mono hB.size)
              replace hA := hA.step hb
              clear hb p0 p1 q0 q1
              obtain ⟨p0, p1⟩ := hA.cells M13.out
              obtain ⟨q0, q1⟩ := hA.cells M18.out
              go_wp2_with fail
              refine (same_any nn3 nn8 _ _ rr3 rr8 _ (hA.sl M13.out) (hA.sl M18.out)).mono ?_
              rintro e V11 ⟨rfl, hb⟩
              rw [sameB_true (snd_unique S13.out S18.out (by rw [E3.out, E8.out, Int.add_comm]))]
              replace hB := hB.trans (hb.mono hB.size)
              replace hA := hA.step hb
              clear hb p0 p1 q0 q1
              obtain ⟨p0, p1⟩ := hA.cells M19.out
              obtain ⟨q0, q1⟩ := hA.cells M2.out
              go_wp2_with fail
              refine (same_any nn9 n2 _ _ rr9 ys _ (hA.sl M19.out) (hA.sl M2.out)).mono ?_
              rintro e V12 ⟨rfl, hb⟩
              rw [sameB_true (snd_unique S19.out S2.out (by rw [E9.out, E8.out]; omega))]
              replace hB := hB.trans (hb.mono hB.size)
              clear hb p0 p1 q0 q1
              go_wp2
              go_ret
              exact ⟨rfl, hB⟩
end Go.Proofs.YtommakdomnaclaaDoor
