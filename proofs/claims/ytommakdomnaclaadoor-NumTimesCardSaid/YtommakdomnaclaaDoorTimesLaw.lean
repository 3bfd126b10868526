/- NumTimes, walked -/
import Derived.Test.YtommakdomnaclaaDoorAllEnv
import Derived.Test.YtommakdomnaclaaDoorRing
import Derived.Test.YtommakdomnaclaaDoorRMul
namespace Go.Proofs.YtommakdomnaclaaDoor
open Go.RowKit

theorem rmul_allo (n1 n2 : Bool) (s1 s2 : Value) (xs ys : List Nat) (w : World) (hs1 : Sl .u32 w s1 xs) (hs2 : Sl .u32 w s2 ys) (hx : ∀ i, limb xs i < 4294967296) (hy : ∀ i, limb ys i < 4294967296) :
    Calls Tryd.prog 33 #[.agg #[.bool n1, s1], .agg #[.bool n2, s2]] w (AllPost (Snd n1 xs ∧ Snd n2 ys) (ival n1 xs * ival n2 ys) w) := (rmul_any n1 n2 s1 s2 xs ys w hs1 hs2 hx hy).mono fun _ _ h => any_open h

set_option maxRecDepth 100000 in
set_option maxHeartbeats 4000000 in
theorem times_out1 (n1 n2 : Bool) (a1 a2 : Option Addr) (c1 c2 : Nat) (xs ys : List Nat) (w : World) (ht : Pow10 w)
    (hs1 : Sl .u32 w (.slice a1 xs.length c1) xs) (hs2 : Sl .u32 w (.slice a2 ys.length c2) ys) (hx : ∀ i, limb xs i < 4294967296) (hy : ∀ i, limb ys i < 4294967296) (h1 : 70 < xs.length) :
    Calls Tryd.prog 6 #[.agg #[.bool n1, .slice a1 xs.length c1], .agg #[.bool n2, .slice a2 ys.length c2]] w (TruePost w) := by
  have HT := Lib.hid ht; clear ht
  have X1 := Lib.hid hx; clear hx
  have X2 := Lib.hid hy; clear hy
  have hE : Env [(w.heap.size + 1, n2, .slice a2 ys.length c2, ys), (w.heap.size, n1, .slice a1 xs.length c1, xs)] ((w.alloc (.cells #[.bool n1, .slice a1 xs.length c1] 24)).alloc (.cells #[.bool n2, .slice a2 ys.length c2] 24)) := by
    have h1 := (Env.nil w).push (n := n1) hs1
    have h2 := h1.push (n := n2) (hs2.below (below1 w _))
    simpa only [World.size_alloc] using h2
  have hB := below2 w (.cells #[.bool n1, .slice a1 xs.length c1] 24) (.cells #[.bool n2, .slice a2 ys.length c2] 24)
  clear hs1 hs2
  have M1 : Hid ((w.heap.size, n1, Value.slice a1 xs.length c1, xs) ∈ [(w.heap.size + 1, n2, Value.slice a2 ys.length c2, ys), (w.heap.size, n1, Value.slice a1 xs.length c1, xs)]) := Lib.hid (by simp)
  have M2 : Hid ((w.heap.size + 1, n2, Value.slice a2 ys.length c2, ys) ∈ [(w.heap.size + 1, n2, Value.slice a2 ys.length c2, ys), (w.heap.size, n1, Value.slice a1 xs.length c1, xs)]) := Lib.hid (by simp)
  go_enter Tryd.func6, Tryd.ntmps6
  go_wp2_with fail
  refine (answers_any _ (HT.out.below hB)).mono ?_
  rintro e V1 ⟨rfl, hb⟩
  replace hB := hB.trans (hb.mono hB.size)
  replace hE := hE.step hb
  clear hb
  obtain ⟨p0, p1⟩ := hE.cells M1.out
  go_wp2_with fail
  refine (light_no n1 a1 c1 xs _ h1).mono ?_
  rintro e V2 ⟨rfl, hb⟩
  replace hB := hB.trans (hb.mono hB.size)
  replace hE := hE.step hb
  clear hb p0 p1
  go_wp2_with fail
  refine (answers_any _ (HT.out.below hB)).mono ?_
  rintro e V9 ⟨rfl, hb⟩
  replace hB := hB.trans (hb.mono hB.size)
  go_wp2
  go_ret
  exact ⟨rfl, hB⟩

set_option maxRecDepth 100000 in
set_option maxHeartbeats 4000000 in
theorem times_out2 (n1 n2 : Bool) (a1 a2 : Option Addr) (c1 c2 : Nat) (xs ys : List Nat) (w : World) (ht : Pow10 w)
    (hs1 : Sl .u32 w (.slice a1 xs.length c1) xs) (hs2 : Sl .u32 w (.slice a2 ys.length c2) ys) (hx : ∀ i, limb xs i < 4294967296) (hy : ∀ i, limb ys i < 4294967296) (h1 : xs.length ≤ 70) (h2 : 70 < ys.length) :
    Calls Tryd.prog 6 #[.agg #[.bool n1, .slice a1 xs.length c1], .agg #[.bool n2, .slice a2 ys.length c2]] w (TruePost w) := by
  have HT := Lib.hid ht; clear ht
  have X1 := Lib.hid hx; clear hx
  have X2 := Lib.hid hy; clear hy
  have hE : Env [(w.heap.size + 1, n2, .slice a2 ys.length c2, ys), (w.heap.size, n1, .slice a1 xs.length c1, xs)] ((w.alloc (.cells #[.bool n1, .slice a1 xs.length c1] 24)).alloc (.cells #[.bool n2, .slice a2 ys.length c2] 24)) := by
    have h1 := (Env.nil w).push (n := n1) hs1
    have h2 := h1.push (n := n2) (hs2.below (below1 w _))
    simpa only [World.size_alloc] using h2
  have hB := below2 w (.cells #[.bool n1, .slice a1 xs.length c1] 24) (.cells #[.bool n2, .slice a2 ys.length c2] 24)
  clear hs1 hs2
  have M1 : Hid ((w.heap.size, n1, Value.slice a1 xs.length c1, xs) ∈ [(w.heap.size + 1, n2, Value.slice a2 ys.length c2, ys), (w.heap.size, n1, Value.slice a1 xs.length c1, xs)]) := Lib.hid (by simp)
  have M2 : Hid ((w.heap.size + 1, n2, Value.slice a2 ys.length c2, ys) ∈ [(w.heap.size + 1, n2, Value.slice a2 ys.length c2, ys), (w.heap.size, n1, Value.slice a1 xs.length c1, xs)]) := Lib.hid (by simp)
  go_enter Tryd.func6, Tryd.ntmps6
  go_wp2_with fail
  refine (answers_any _ (HT.out.below hB)).mono ?_
  rintro e V1 ⟨rfl, hb⟩
  replace hB := hB.trans (hb.mono hB.size)
  replace hE := hE.step hb
  clear hb
  obtain ⟨p0, p1⟩ := hE.cells M1.out
  go_wp2_with fail
  refine (light_yes n1 a1 c1 xs _ h1).mono ?_
  rintro e V2 ⟨rfl, hb⟩
  replace hB := hB.trans (hb.mono hB.size)
  replace hE := hE.step hb
  clear hb p0 p1
  obtain ⟨p0, p1⟩ := hE.cells M2.out
  go_wp2_with fail
  refine (light_no n2 a2 c2 ys _ h2).mono ?_
  rintro e V3 ⟨rfl, hb⟩
  replace hB := hB.trans (hb.mono hB.size)
  replace hE := hE.step hb
  clear hb p0 p1
  go_wp2_with fail
  refine (answers_any _ (HT.out.below hB)).mono ?_
  rintro e V9 ⟨rfl, hb⟩
  replace hB := hB.trans (hb.mono hB.size)
  go_wp2
  go_ret
  exact ⟨rfl, hB⟩

set_option maxRecDepth 100000 in
set_option maxHeartbeats 4000000 in
theorem times_in (n1 n2 : Bool) (a1 a2 : Option Addr) (c1 c2 : Nat) (xs ys : List Nat) (w : World) (ht : Pow10 w)
    (hs1 : Sl .u32 w (.slice a1 xs.length c1) xs) (hs2 : Sl .u32 w (.slice a2 ys.length c2) ys) (hx : ∀ i, limb xs i < 4294967296) (hy : ∀ i, limb ys i < 4294967296) (h1 : xs.length ≤ 70) (h2 : ys.length ≤ 70) :
    Calls Tryd.prog 6 #[.agg #[.bool n1, .slice a1 xs.length c1], .agg #[.bool n2, .slice a2 ys.length c2]] w (TruePost w) := by
  have HT := Lib.hid ht; clear ht
  have X1 := Lib.hid hx; clear hx
  have X2 := Lib.hid hy; clear hy
  have hE : Env [(w.heap.size + 1, n2, .slice a2 ys.length c2, ys), (w.heap.size, n1, .slice a1 xs.length c1, xs)] ((w.alloc (.cells #[.bool n1, .slice a1 xs.length c1] 24)).alloc (.cells #[.bool n2, .slice a2 ys.length c2] 24)) := by
    have h1 := (Env.nil w).push (n := n1) hs1
    have h2 := h1.push (n := n2) (hs2.below (below1 w _))
    simpa only [World.size_alloc] using h2
  have hB := below2 w (.cells #[.bool n1, .slice a1 xs.length c1] 24) (.cells #[.bool n2, .slice a2 ys.length c2] 24)
  clear hs1 hs2
  have M1 : Hid ((w.heap.size, n1, Value.slice a1 xs.length c1, xs) ∈ [(w.heap.size + 1, n2, Value.slice a2 ys.length c2, ys), (w.heap.size, n1, Value.slice a1 xs.length c1, xs)]) := Lib.hid (by simp)
  have M2 : Hid ((w.heap.size + 1, n2, Value.slice a2 ys.length c2, ys) ∈ [(w.heap.size + 1, n2, Value.slice a2 ys.length c2, ys), (w.heap.size, n1, Value.slice a1 xs.length c1, xs)]) := Lib.hid (by simp)
  go_enter Tryd.func6, Tryd.ntmps6
  go_wp2_with fail
  refine (answers_any _ (HT.out.below hB)).mono ?_
  rintro e V1 ⟨rfl, hb⟩
  replace hB := hB.trans (hb.mono hB.size)
  replace hE := hE.step hb
  clear hb
  obtain ⟨p0, p1⟩ := hE.cells M1.out
  go_wp2_with fail
  refine (light_yes n1 a1 c1 xs _ h1).mono ?_
  rintro e V2 ⟨rfl, hb⟩
  replace hB := hB.trans (hb.mono hB.size)
  replace hE := hE.step hb
  clear hb p0 p1
  obtain ⟨p0, p1⟩ := hE.cells M2.out
  go_wp2_with fail
  refine (light_yes n2 a2 c2 ys _ h2).mono ?_
  rintro e V3 ⟨rfl, hb⟩
  replace hB := hB.trans (hb.mono hB.size)
  replace hE := hE.step hb
  clear hb p0 p1
  have hA := hE
  clear hE
  go_upto_region 3 with fail
  go_cut [5, 6] (fun s1 s2 wx => MadeA (Snd n1 xs ∧ Snd n2 ys) [(w.heap.size + 1, n2, .slice a2 ys.length c2, ys), (w.heap.size, n1, .slice a1 xs.length c1, xs)] (ival n1 xs * ival n2 ys) w s1 s2 wx)
  case first =>
    replace hB := hB.drew
    replace hA := hA.drew
    go_region_held3 (fun W' => W'.cell? ⟨w.heap.size, 0, none⟩ = some (.bool n1) ∧ W'.cell? ⟨w.heap.size, 1, none⟩ = some (.slice a1 xs.length c1) ∧ W'.cell? ⟨w.heap.size + 1, 0, none⟩ = some (.bool n2) ∧ W'.cell? ⟨w.heap.size + 1, 1, none⟩ = some (.slice a2 ys.length c2))
      (first | exact ⟨(hA.cells M1.out).1, (hA.cells M1.out).2, (hA.cells M2.out).1, (hA.cells M2.out).2⟩ | exact ⟨(hZ.cells (List.mem_cons_of_mem _ M1.out)).1, (hZ.cells (List.mem_cons_of_mem _ M1.out)).2, (hZ.cells (List.mem_cons_of_mem _ M2.out)).1, (hZ.cells (List.mem_cons_of_mem _ M2.out)).2⟩ | exact ⟨((hA.alloc _).cells M1.out).1, ((hA.alloc _).cells M1.out).2, ((hA.alloc _).cells M2.out).1, ((hA.alloc _).cells M2.out).2⟩ | exact ⟨((hA.push hsx).cells (List.mem_cons_of_mem _ M1.out)).1, ((hA.push hsx).cells (List.mem_cons_of_mem _ M1.out)).2, ((hA.push hsx).cells (List.mem_cons_of_mem _ M2.out)).1, ((hA.push hsx).cells (List.mem_cons_of_mem _ M2.out)).2⟩ | exact ⟨((hZ.put hd (Nat.le_refl _) hsx nx).cells (List.mem_cons_of_mem _ M1.out)).1, ((hZ.put hd (Nat.le_refl _) hsx nx).cells (List.mem_cons_of_mem _ M1.out)).2, ((hZ.put hd (Nat.le_refl _) hsx nx).cells (List.mem_cons_of_mem _ M2.out)).1, ((hZ.put hd (Nat.le_refl _) hsx nx).cells (List.mem_cons_of_mem _ M2.out)).2⟩)
      (first
        | (go_at_call 15; (with_reducible refine (own_open n1 (.slice a1 xs.length c1) xs _ ?_ ?_).mono ?_); (with_reducible exact hA.sl M1.out); omega; rintro e W30 ⟨ao0, l0, cap0, rfl, hs0, hb⟩; replace hB := hB.trans (hb.mono hB.size); replace hA := hA.step hb; clear hb)
        | (go_at_call 15; (with_reducible refine (own_open n1 (.slice a1 xs.length c1) xs _ ?_ ?_).mono ?_); (with_reducible exact hZ.sl (List.mem_cons_of_mem _ M1.out)); omega; rintro e W30 ⟨ao0, l0, cap0, rfl, hs0, hb⟩; replace hB := hB.trans (hb.mono hB.size); replace hZ := hZ.step hb; clear hb)
        | (go_at_call 15; (with_reducible refine (own_open n1 (.slice a1 xs.length c1) xs _ ?_ ?_).mono ?_); (exact (hA.alloc _).sl M1.out); omega; rintro e W30 ⟨ao0, l0, cap0, rfl, hs0, hb⟩; have hgz := hB.size; replace hB := (hB.alloc hB.size _).trans (hb.mono (Nat.le_trans hB.size (by simp))); have hd := hA.ne; have hZ := hA.zero.step hb; (try simp only [World.size_drew] at hZ hd hgz); clear hb hA)
        | (go_at_call 15; (with_reducible refine (own_open n2 (.slice a2 ys.length c2) ys _ ?_ ?_).mono ?_); (with_reducible exact hA.sl M2.out); omega; rintro e W31 ⟨ao1, l1, cap1, rfl, hs1, hb⟩; replace hs0 := hs0.below hb; replace hB := hB.trans (hb.mono hB.size); replace hA := hA.step hb; clear hb)
        | (go_at_call 15; (with_reducible refine (own_open n2 (.slice a2 ys.length c2) ys _ ?_ ?_).mono ?_); (with_reducible exact hZ.sl (List.mem_cons_of_mem _ M2.out)); omega; rintro e W31 ⟨ao1, l1, cap1, rfl, hs1, hb⟩; replace hs0 := hs0.below hb; replace hB := hB.trans (hb.mono hB.size); replace hZ := hZ.step hb; clear hb)
        | (go_at_call 15; (with_reducible refine (own_open n2 (.slice a2 ys.length c2) ys _ ?_ ?_).mono ?_); (exact (hA.alloc _).sl M2.out); omega; rintro e W31 ⟨ao1, l1, cap1, rfl, hs1, hb⟩; replace hs0 := (hs0.below (below1 _ _)).below hb; have hgz := hB.size; replace hB := (hB.alloc hB.size _).trans (hb.mono (Nat.le_trans hB.size (by simp))); have hd := hA.ne; have hZ := hA.zero.step hb; (try simp only [World.size_drew, World.size_alloc] at hZ hd hgz); clear hb hA)
        | (go_at_call 32; (with_reducible refine (mul_allo n1 n2 _ _ xs ys _ ?_ ?_ X1.out X2.out).mono ?_); (with_reducible exact hs0); (with_reducible exact hs1); rintro e V3 ⟨nx, aox, lx, capx, rx, cx, rfl, hsx, hb, hrx⟩; have HRX := Lib.hid hrx; clear hrx; replace hB := hB.trans (hb.mono hB.size); replace hA := hA.step hb; clear hb)
        | (go_at_call 32; (with_reducible refine (mul_allo n1 n2 _ _ xs ys _ ?_ ?_ X1.out X2.out).mono ?_); (with_reducible exact hs0); (with_reducible exact hs1); rintro e V3 ⟨nx, aox, lx, capx, rx, cx, rfl, hsx, hb, hrx⟩; have HRX := Lib.hid hrx; clear hrx; replace hB := hB.trans (hb.mono hB.size); replace hZ := hZ.step hb; obtain ⟨z0, z1, y0, y1⟩ := hZ.zfacts; clear hb)
        | (go_at_call 32; (with_reducible refine (mul_allo n1 n2 _ _ xs ys _ ?_ ?_ X1.out X2.out).mono ?_); exact (hs0.below (below1 _ _)); exact (hs1.below (below1 _ _)); rintro e V3 ⟨nx, aox, lx, capx, rx, cx, rfl, hsx, hb, hrx⟩; have HRX := Lib.hid hrx; clear hrx; have hgz := hB.size; replace hB := (hB.alloc hB.size _).trans (hb.mono (Nat.le_trans hB.size (by simp))); have hd := hA.ne; have hZ := hA.zero.step hb; (try simp only [World.size_drew, World.size_alloc] at hZ hd hgz); obtain ⟨z0, z1, y0, y1⟩ := hZ.zfacts; clear hb hA))
    all_goals (go_wp2_with fail; go_meet)
    all_goals first
      | exact ⟨_, nx, aox, lx, capx, rx, cx, rfl, rfl, hA.push hsx, hB.size, hB.alloc hB.size _, HRX.out⟩
      | exact ⟨_, nx, aox, lx, capx, rx, cx, rfl, rfl, hZ.put hd (Nat.le_refl _) hsx nx, hgz, (hB.setCell hgz _).setCell hgz _, HRX.out⟩
  case rest =>
    clear hA hB
    obtain ⟨gg3, nn3, aa3, ll3, kk3, rr3, cc3, rfl, rfl, hA, hg3, hB, hr3⟩ := hcut
    have HR3 := Lib.hid hr3; clear hr3
    replace M1 := Lib.hid (List.mem_cons_of_mem (gg3, nn3, Value.slice aa3 ll3 kk3, rr3) M1.out)
    replace M2 := Lib.hid (List.mem_cons_of_mem (gg3, nn3, Value.slice aa3 ll3 kk3, rr3) M2.out)
    have M13 := Lib.hid (List.mem_cons_self (a := (gg3, nn3, Value.slice aa3 ll3 kk3, rr3)) (l := [(w.heap.size + 1, n2, .slice a2 ys.length c2, ys), (w.heap.size, n1, .slice a1 xs.length c1, xs)]))
    obtain ⟨p0, p1⟩ := hA.cells M1.out
    obtain ⟨q0, q1⟩ := hA.cells M2.out
    go_wp2_with fail
    refine (rmul_allo n1 n2 _ _ xs ys _ (hA.sl M1.out) (hA.sl M2.out) X1.out X2.out).mono ?_
    rintro e V4 ⟨nn4, aa4, ll4, kk4, rr4, cc4, rfl, hsx, hb, hr4⟩
    have HR4 := Lib.hid hr4
    clear hr4 p0 p1 q0 q1
    replace hB := hB.trans (hb.mono hB.size)
    replace hA := hA.step hb
    clear hb
    replace hB := hB.alloc hB.size (.cells #[.bool nn4, .slice aa4 ll4 kk4] 24)
    replace hA := hA.push (n := nn4) hsx
    clear hsx
    replace M1 := Lib.hid (List.mem_cons_of_mem (V4.heap.size, nn4, Value.slice aa4 ll4 kk4, rr4) M1.out)
    replace M2 := Lib.hid (List.mem_cons_of_mem (V4.heap.size, nn4, Value.slice aa4 ll4 kk4, rr4) M2.out)
    replace M13 := Lib.hid (List.mem_cons_of_mem (V4.heap.size, nn4, Value.slice aa4 ll4 kk4, rr4) M13.out)
    have M14 := Lib.hid (List.mem_cons_self (a := (V4.heap.size, nn4, Value.slice aa4 ll4 kk4, rr4)) (l := ((gg3, nn3, Value.slice aa3 ll3 kk3, rr3) :: [(w.heap.size + 1, n2, .slice a2 ys.length c2, ys), (w.heap.size, n1, .slice a1 xs.length c1, xs)])))
    obtain ⟨e1, e2, e3⟩ := any_unique HR3.out HR4.out
    subst e1; subst e2; subst e3
    clear HR3 HR4
    obtain ⟨p0, p1⟩ := hA.cells M13.out
    obtain ⟨q0, q1⟩ := hA.cells M14.out
    go_wp2_with fail
    refine (same_any nn3 nn3 (.slice aa3 ll3 kk3) (.slice aa4 ll4 kk4) rr3 rr3 _ (hA.sl M13.out) (hA.sl M14.out)).mono ?_
    rintro e W74 ⟨rfl, hb⟩
    rw [sameB_true ⟨rfl, rfl⟩]
    replace hB := hB.trans (hb.mono hB.size)
    clear p0 p1 q0 q1
    have hcc : (cc3 == cc3) = true := by simp
    go_wp2
    go_ret
    exact ⟨rfl, hB⟩

/-- NumTimes answers true, whatever it is given. -/
theorem times_law (n1 n2 : Bool) (a1 a2 : Option Addr) (c1 c2 : Nat) (xs ys : List Nat) (w : World) (ht : Pow10 w)
    (hs1 : Sl .u32 w (.slice a1 xs.length c1) xs) (hs2 : Sl .u32 w (.slice a2 ys.length c2) ys) (hx : ∀ i, limb xs i < 4294967296) (hy : ∀ i, limb ys i < 4294967296) :
    Calls Tryd.prog 6 #[.agg #[.bool n1, .slice a1 xs.length c1], .agg #[.bool n2, .slice a2 ys.length c2]] w (TruePost w) := by
  rcases Nat.lt_or_ge 70 xs.length with h1 | h1
  · exact times_out1 n1 n2 a1 a2 c1 c2 xs ys w ht hs1 hs2 hx hy h1
  · rcases Nat.lt_or_ge 70 ys.length with h2 | h2
    · exact times_out2 n1 n2 a1 a2 c1 c2 xs ys w ht hs1 hs2 hx hy h1 h2
    · exact times_in n1 n2 a1 a2 c1 c2 xs ys w ht hs1 hs2 hx hy h1 h2
end Go.Proofs.YtommakdomnaclaaDoor
