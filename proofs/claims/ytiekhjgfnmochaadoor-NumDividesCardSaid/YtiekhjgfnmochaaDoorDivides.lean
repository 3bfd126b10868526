/- NumDivides, walked -/
import Derived.Test.YtiekhjgfnmochaaDoorEnvD
import Derived.Test.YtiekhjgfnmochaaDoorModulo
import Derived.Test.YtiekhjgfnmochaaDoorRModulo
namespace Go.Proofs.YtiekhjgfnmochaaDoor
open Go.RowKit

set_option maxRecDepth 100000 in
set_option maxHeartbeats 4000000 in
theorem divides_out1 (n1 n2 : Bool) (a1 a2 : Option Addr) (c1 c2 : Nat) (xs ys : List Nat) (w : World) (ht : Pow10 w)
    (hs1 : Sl .u32 w (.slice a1 xs.length c1) xs) (hs2 : Sl .u32 w (.slice a2 ys.length c2) ys) (hx : ∀ i, limb xs i < 4294967296) (hy : ∀ i, limb ys i < 4294967296) (h1 : 70 < xs.length) :
    Calls Tryd.prog 7 #[.agg #[.bool n1, .slice a1 xs.length c1], .agg #[.bool n2, .slice a2 ys.length c2]] w (TruePost w) := by
  have HT := Lib.hid ht; clear ht
  have X1 := Lib.hid hx; clear hx
  have X2 := Lib.hid hy; clear hy
  have hE : Env [(w.heap.size + 1, n2, .slice a2 ys.length c2, ys), (w.heap.size, n1, .slice a1 xs.length c1, xs)] ((w.alloc (.cells #[.bool n1, .slice a1 xs.length c1] 24)).alloc (.cells #[.bool n2, .slice a2 ys.length c2] 24)) := by
    have h1 := (Env.nil w).push (n := n1) hs1
    have h2 := h1.push (n := n2) (hs2.below (below1 w _))
    simpa only [World.size_alloc] using h2
  have hB := below2 w (.cells #[.bool n1, .slice a1 xs.length c1] 24) (.cells #[.bool n2, .slice a2 ys.length c2] 24)
  clear hs1 hs2
  have M1 : Hid ((w.heap.size, n1, Value.slice a1 xs.length c1, xs) ∈ [(w.heap.size + 1, n2, Value.slice a2 ys.length c2, ys), (w.heap.size, n1, Value.slice a1 xs.length c1, xs)]) := Lib.hid (by simp)
  have M2 : Hid ((w.heap.size + 1, n2, Value.slice a2 ys.length c2, ys) ∈ [(w.heap.size + 1, n2, Value.slice a2 ys.length c2, ys), (w.heap.size, n1, Value.slice a1 xs.length c1, xs)]) := Lib.hid (by simp)
  go_enter Tryd.func7, Tryd.ntmps7
  go_wp2_with fail
  refine (answers_any _ (HT.out.below hB)).mono ?_
  rintro e V1 ⟨rfl, hb⟩
  replace hB := hB.trans (hb.mono hB.size)
  replace hE := hE.step hb
  clear hb
  obtain ⟨p0, p1⟩ := hE.cells M1.out
  go_wp2_with fail
  refine (light_no n1 a1 c1 xs _ h1).mono ?_
  rintro e V2 ⟨rfl, hb⟩
  replace hB := hB.trans (hb.mono hB.size)
  replace hE := hE.step hb
  clear hb p0 p1
  go_wp2_with fail
  refine (answers_any _ (HT.out.below hB)).mono ?_
  rintro e V9 ⟨rfl, hb⟩
  replace hB := hB.trans (hb.mono hB.size)
  go_wp2
  go_ret
  exact ⟨rfl, hB⟩

set_option maxRecDepth 100000 in
set_option maxHeartbeats 4000000 in
theorem divides_out2 (n1 n2 : Bool) (a1 a2 : Option Addr) (c1 c2 : Nat) (xs ys : List Nat) (w : World) (ht : Pow10 w)
    (hs1 : Sl .u32 w (.slice a1 xs.length c1) xs) (hs2 : Sl .u32 w (.slice a2 ys.length c2) ys) (hx : ∀ i, limb xs i < 4294967296) (hy : ∀ i, limb ys i < 4294967296) (h1 : xs.length ≤ 70) (h2 : 70 < ys.length) :
    Calls Tryd.prog 7 #[.agg #[.bool n1, .slice a1 xs.length c1], .agg #[.bool n2, .slice a2 ys.length c2]] w (TruePost w) := by
  have HT := Lib.hid ht; clear ht
  have X1 := Lib.hid hx; clear hx
  have X2 := Lib.hid hy; clear hy
  have hE : Env [(w.heap.size + 1, n2, .slice a2 ys.length c2, ys), (w.heap.size, n1, .slice a1 xs.length c1, xs)] ((w.alloc (.cells #[.bool n1, .slice a1 xs.length c1] 24)).alloc (.cells #[.bool n2, .slice a2 ys.length c2] 24)) := by
    have h1 := (Env.nil w).push (n := n1) hs1
    have h2 := h1.push (n := n2) (hs2.below (below1 w _))
    simpa only [World.size_alloc] using h2
  have hB := below2 w (.cells #[.bool n1, .slice a1 xs.length c1] 24) (.cells #[.bool n2, .slice a2 ys.length c2] 24)
  clear hs1 hs2
  have M1 : Hid ((w.heap.size, n1, Value.slice a1 xs.length c1, xs) ∈ [(w.heap.size + 1, n2, Value.slice a2 ys.length c2, ys), (w.heap.size, n1, Value.slice a1 xs.length c1, xs)]) := Lib.hid (by simp)
  have M2 : Hid ((w.heap.size + 1, n2, Value.slice a2 ys.length c2, ys) ∈ [(w.heap.size + 1, n2, Value.slice a2 ys.length c2, ys), (w.heap.size, n1, Value.slice a1 xs.length c1, xs)]) := Lib.hid (by simp)
  go_enter Tryd.func7, Tryd.ntmps7
  go_wp2_with fail
  refine (answers_any _ (HT.out.below hB)).mono ?_
  rintro e V1 ⟨rfl, hb⟩
  replace hB := hB.trans (hb.mono hB.size)
  replace hE := hE.step hb
  clear hb
  obtain ⟨p0, p1⟩ := hE.cells M1.out
  go_wp2_with fail
  refine (light_yes n1 a1 c1 xs _ h1).mono ?_
  rintro e V2 ⟨rfl, hb⟩
  replace hB := hB.trans (hb.mono hB.size)
  replace hE := hE.step hb
  clear hb p0 p1
  obtain ⟨p0, p1⟩ := hE.cells M2.out
  go_wp2_with fail
  refine (light_no n2 a2 c2 ys _ h2).mono ?_
  rintro e V3 ⟨rfl, hb⟩
  replace hB := hB.trans (hb.mono hB.size)
  replace hE := hE.step hb
  clear hb p0 p1
  go_wp2_with fail
  refine (answers_any _ (HT.out.below hB)).mono ?_
  rintro e V9 ⟨rfl, hb⟩
  replace hB := hB.trans (hb.mono hB.size)
  go_wp2
  go_ret
  exact ⟨rfl, hB⟩

set_option maxRecDepth 100000 in
set_option maxHeartbeats 4000000 in
theorem divides_in (n1 n2 : Bool) (a1 a2 : Option Addr) (c1 c2 : Nat) (xs ys : List Nat) (w : World) (ht : Pow10 w)
    (hs1 : Sl .u32 w (.slice a1 xs.length c1) xs) (hs2 : Sl .u32 w (.slice a2 ys.length c2) ys) (hx : ∀ i, limb xs i < 4294967296) (hy : ∀ i, limb ys i < 4294967296) (h1 : xs.length ≤ 70) (h2 : ys.length ≤ 70) :
    Calls Tryd.prog 7 #[.agg #[.bool n1, .slice a1 xs.length c1], .agg #[.bool n2, .slice a2 ys.length c2]] w (TruePost w) := by
  have HT := Lib.hid ht; clear ht
  have X1 := Lib.hid hx; clear hx
  have X2 := Lib.hid hy; clear hy
  have hE : Env [(w.heap.size + 1, n2, .slice a2 ys.length c2, ys), (w.heap.size, n1, .slice a1 xs.length c1, xs)] ((w.alloc (.cells #[.bool n1, .slice a1 xs.length c1] 24)).alloc (.cells #[.bool n2, .slice a2 ys.length c2] 24)) := by
    have h1 := (Env.nil w).push (n := n1) hs1
    have h2 := h1.push (n := n2) (hs2.below (below1 w _))
    simpa only [World.size_alloc] using h2
  have hB := below2 w (.cells #[.bool n1, .slice a1 xs.length c1] 24) (.cells #[.bool n2, .slice a2 ys.length c2] 24)
  clear hs1 hs2
  have M1 : Hid ((w.heap.size, n1, Value.slice a1 xs.length c1, xs) ∈ [(w.heap.size + 1, n2, Value.slice a2 ys.length c2, ys), (w.heap.size, n1, Value.slice a1 xs.length c1, xs)]) := Lib.hid (by simp)
  have M2 : Hid ((w.heap.size + 1, n2, Value.slice a2 ys.length c2, ys) ∈ [(w.heap.size + 1, n2, Value.slice a2 ys.length c2, ys), (w.heap.size, n1, Value.slice a1 xs.length c1, xs)]) := Lib.hid (by simp)
  go_enter Tryd.func7, Tryd.ntmps7
  go_wp2_with fail
  refine (answers_any _ (HT.out.below hB)).mono ?_
  rintro e V1 ⟨rfl, hb⟩
  replace hB := hB.trans (hb.mono hB.size)
  replace hE := hE.step hb
  clear hb
  obtain ⟨p0, p1⟩ := hE.cells M1.out
  go_wp2_with fail
  refine (light_yes n1 a1 c1 xs _ h1).mono ?_
  rintro e V2 ⟨rfl, hb⟩
  replace hB := hB.trans (hb.mono hB.size)
  replace hE := hE.step hb
  clear hb p0 p1
  obtain ⟨p0, p1⟩ := hE.cells M2.out
  go_wp2_with fail
  refine (light_yes n2 a2 c2 ys _ h2).mono ?_
  rintro e V3 ⟨rfl, hb⟩
  replace hB := hB.trans (hb.mono hB.size)
  replace hE := hE.step hb
  clear hb p0 p1
  have hA : EnvD [(w.heap.size + 1, n2, .slice a2 ys.length c2, ys), (w.heap.size, n1, .slice a1 xs.length c1, xs)] _ := ⟨hE, List.pairwise_cons.2 ⟨fun e he => by rw [List.mem_singleton.1 he]; exact Nat.lt_succ_self _, List.pairwise_singleton _ _⟩⟩
  clear hE
  go_upto_region 3 with fail
  go_cut [5, 6, 7] (fun s1 s2 s3 wx => MadeD (DivR n1 n2 xs ys) [(w.heap.size + 1, n2, .slice a2 ys.length c2, ys), (w.heap.size, n1, .slice a1 xs.length c1, xs)] w s1 s2 s3 wx)
  case first =>
    have hE0 := hA
    have hC := hA.start.drew
    replace hA := hA.drew
    go_region_held3 (fun W' => W'.cell? ⟨w.heap.size, 0, none⟩ = some (.bool n1) ∧ W'.cell? ⟨w.heap.size, 1, none⟩ = some (.slice a1 xs.length c1) ∧ W'.cell? ⟨w.heap.size + 1, 0, none⟩ = some (.bool n2) ∧ W'.cell? ⟨w.heap.size + 1, 1, none⟩ = some (.slice a2 ys.length c2))
      ((refine (fun (hk : Below _ _ _) => ⟨((hE0.held hk).cells M1.out).1, ((hE0.held hk).cells M1.out).2, ((hE0.held hk).cells M2.out).1, ((hE0.held hk).cells M2.out).2⟩) ?_; (have hcs := hC.size; (try simp only [] at hcs); (repeat' (first | with_reducible exact hC | with_reducible exact Below.refl _ _ | refine Below.drew ?_ | refine Below.alloc ?_ ?_ _ | refine Below.setCell ?_ ?_ _)); all_goals (first | omega | (simp only [World.size_alloc]; omega) | (simp; omega)))))
      (first
        | (go_at_call 15; (with_reducible refine (own_open n1 (.slice a1 xs.length c1) xs _ ?_ ?_).mono ?_); (first | with_reducible exact hA.sl M1.out | with_reducible exact hA.sl (List.mem_cons_of_mem _ M1.out) | with_reducible exact hA.sl (List.mem_cons_of_mem _ (List.mem_cons_of_mem _ M1.out)) | exact hA.zero.sl (List.mem_cons_of_mem _ M1.out) | exact hA.zero.sl (List.mem_cons_of_mem _ (List.mem_cons_of_mem _ M1.out)) | exact hA.zero2.sl (List.mem_cons_of_mem _ (List.mem_cons_of_mem _ M1.out))); (omega); rintro e W0o ⟨ao0, l0, cap0, rfl, hs0, hb⟩; (first | (have hA' := hA.step hb; replace hC := hC.trans (hb.mono hC.size); replace hA := hA'; clear hA') | (have hA' := hA.zero.step hb; have hgz := hC.size; replace hC := (hC.alloc hgz _).trans (hb.mono (Nat.le_trans hgz (by simp))); replace hA := hA'; clear hA') | (have hA' := hA.zero2.step hb; have hgz := hC.size; replace hC := ((hC.alloc hgz _).alloc (Nat.le_trans hgz (by simp)) _).trans (hb.mono (Nat.le_trans hgz (by simp; omega))); replace hA := hA'; clear hA')); clear hb; (try simp only [World.size_drew] at hA); (try simp only [World.size_drew] at hgz))
        | (go_at_call 15; (with_reducible refine (own_open n2 (.slice a2 ys.length c2) ys _ ?_ ?_).mono ?_); (first | with_reducible exact hA.sl M2.out | with_reducible exact hA.sl (List.mem_cons_of_mem _ M2.out) | with_reducible exact hA.sl (List.mem_cons_of_mem _ (List.mem_cons_of_mem _ M2.out)) | exact hA.zero.sl (List.mem_cons_of_mem _ M2.out) | exact hA.zero.sl (List.mem_cons_of_mem _ (List.mem_cons_of_mem _ M2.out)) | exact hA.zero2.sl (List.mem_cons_of_mem _ (List.mem_cons_of_mem _ M2.out))); (omega); rintro e W1o ⟨ao1, l1, cap1, rfl, hs1, hb⟩; (first | replace hs0 := hs0.below hb | replace hs0 := (hs0.below (below1 _ _)).below hb | replace hs0 := (hs0.below (below2 _ _ _)).below hb); (first | (have hA' := hA.step hb; replace hC := hC.trans (hb.mono hC.size); replace hA := hA'; clear hA') | (have hA' := hA.zero.step hb; have hgz := hC.size; replace hC := (hC.alloc hgz _).trans (hb.mono (Nat.le_trans hgz (by simp))); replace hA := hA'; clear hA') | (have hA' := hA.zero2.step hb; have hgz := hC.size; replace hC := ((hC.alloc hgz _).alloc (Nat.le_trans hgz (by simp)) _).trans (hb.mono (Nat.le_trans hgz (by simp; omega))); replace hA := hA'; clear hA')); clear hb; (try simp only [World.size_drew, World.size_alloc] at hA); (try simp only [World.size_drew, World.size_alloc] at hgz))
        | (go_at_call 34; (with_reducible refine (divide_all n1 n2 _ _ xs ys _ ?_ ?_ X1.out X2.out).mono ?_); (first | with_reducible exact hs0 | exact hs0.below (below1 _ _) | exact hs0.below (below2 _ _ _)); (first | with_reducible exact hs1 | exact hs1.below (below1 _ _) | exact hs1.below (below2 _ _ _)); rintro e Wop ⟨m1, ax, lx, cx, q, m2, ay, ly, cy, r, c, rfl, hsx, hsy, hb, hres⟩; have HRES := Lib.hid hres; clear hres; (first | (have hA' := hA.step hb; replace hC := hC.trans (hb.mono hC.size); replace hA := hA'; clear hA') | (have hA' := hA.zero.step hb; have hgz := hC.size; replace hC := (hC.alloc hgz _).trans (hb.mono (Nat.le_trans hgz (by simp))); replace hA := hA'; clear hA') | (have hA' := hA.zero2.step hb; have hgz := hC.size; replace hC := ((hC.alloc hgz _).alloc (Nat.le_trans hgz (by simp)) _).trans (hb.mono (Nat.le_trans hgz (by simp; omega))); replace hA := hA'; clear hA')); clear hb; (try simp only [World.size_drew, World.size_alloc] at hA); (try simp only [World.size_drew, World.size_alloc] at hgz); (try (have hz0 := hA.facts List.mem_cons_self; obtain ⟨z00, z01, z02, z03⟩ := hz0)); (try (have hz1 := hA.facts (List.mem_cons_of_mem _ List.mem_cons_self); obtain ⟨z10, z11, z12, z13⟩ := hz1)); (try (have hne := hA.ne01; obtain ⟨ne1, ne2⟩ := hne)); (try (have lt0 := hA.old List.mem_cons_self; dsimp only at lt0)); (try (have lt1 := hA.old (List.mem_cons_of_mem _ List.mem_cons_self); dsimp only at lt1))))
    all_goals (go_wp2_with fail; go_meet)
    all_goals unfold MadeD
    all_goals first
      | (with_reducible refine ⟨_, _, _, m1, m2, ax, lx, cx, ay, ly, cy, q, r, c, rfl, rfl, rfl, hA.push2 hsx hsy, mem2, (List.mem_cons_of_mem _ List.mem_cons_self), List.mem_cons_self, ?_, HRES.out⟩; exact hB.trans (Below.mono (by (have hcs := hC.size; (try simp only [] at hcs); (repeat' (first | with_reducible exact hC | with_reducible exact Below.refl _ _ | refine Below.drew ?_ | refine Below.alloc ?_ ?_ _ | refine Below.setCell ?_ ?_ _)); all_goals (first | omega | (simp only [World.size_alloc]; omega) | (simp; omega)))) hB.size))
      | (with_reducible refine ⟨_, _, _, m1, m2, ax, lx, cx, ay, ly, cy, q, r, c, rfl, rfl, rfl, hA.push2 hsy hsx, mem2, List.mem_cons_self, (List.mem_cons_of_mem _ List.mem_cons_self), ?_, HRES.out⟩; exact hB.trans (Below.mono (by (have hcs := hC.size; (try simp only [] at hcs); (repeat' (first | with_reducible exact hC | with_reducible exact Below.refl _ _ | refine Below.drew ?_ | refine Below.alloc ?_ ?_ _ | refine Below.setCell ?_ ?_ _)); all_goals (first | omega | (simp only [World.size_alloc]; omega) | (simp; omega)))) hB.size))
      | (with_reducible refine ⟨_, _, _, m1, m2, ax, lx, cx, ay, ly, cy, q, r, c, rfl, rfl, rfl, hA.fillpush hsx m1 hsy m2, mem2, (List.mem_cons_of_mem _ List.mem_cons_self), List.mem_cons_self, ?_, HRES.out⟩; exact hB.trans (Below.mono (by (have hcs := hC.size; (try simp only [World.size_drew] at hcs); (repeat' (first | with_reducible exact hC | with_reducible exact Below.refl _ _ | refine Below.drew ?_ | refine Below.alloc ?_ ?_ _ | refine Below.setCell ?_ ?_ _)); all_goals (first | omega | (simp only [World.size_drew, World.size_alloc]; omega) | (simp; omega)))) hB.size))
      | (with_reducible refine ⟨_, _, _, m1, m2, ax, lx, cx, ay, ly, cy, q, r, c, rfl, rfl, rfl, hA.fillpush hsy m2 hsx m1, mem2, List.mem_cons_self, (List.mem_cons_of_mem _ List.mem_cons_self), ?_, HRES.out⟩; exact hB.trans (Below.mono (by (have hcs := hC.size; (try simp only [World.size_drew] at hcs); (repeat' (first | with_reducible exact hC | with_reducible exact Below.refl _ _ | refine Below.drew ?_ | refine Below.alloc ?_ ?_ _ | refine Below.setCell ?_ ?_ _)); all_goals (first | omega | (simp only [World.size_drew, World.size_alloc]; omega) | (simp; omega)))) hB.size))
      | (with_reducible refine ⟨_, _, _, m1, m2, ax, lx, cx, ay, ly, cy, q, r, c, rfl, rfl, rfl, hA.fill10 hsy m2 hsx m1, mem2, (List.mem_cons_of_mem _ List.mem_cons_self), List.mem_cons_self, ?_, HRES.out⟩; exact hB.trans (Below.mono (by (have hcs := hC.size; (try simp only [] at hcs); (repeat' (first | with_reducible exact hC | with_reducible exact Below.refl _ _ | refine Below.drew ?_ | refine Below.alloc ?_ ?_ _ | refine Below.setCell ?_ ?_ _)); all_goals (first | omega | (simp only []; omega) | (simp; omega)))) hB.size))
      | (with_reducible refine ⟨_, _, _, m1, m2, ax, lx, cx, ay, ly, cy, q, r, c, rfl, rfl, rfl, hA.fill01 hsx m1 hsy m2, mem2, List.mem_cons_self, (List.mem_cons_of_mem _ List.mem_cons_self), ?_, HRES.out⟩; exact hB.trans (Below.mono (by (have hcs := hC.size; (try simp only [] at hcs); (repeat' (first | with_reducible exact hC | with_reducible exact Below.refl _ _ | refine Below.drew ?_ | refine Below.alloc ?_ ?_ _ | refine Below.setCell ?_ ?_ _)); all_goals (first | omega | (simp only []; omega) | (simp; omega)))) hB.size))
  case rest =>
    clear hA hB
    obtain ⟨LL3, gg3, hh3, nn3, mm3, aa3, ll3, kk3, ab3, lb3, kb3, qq3, rr3, cc3, rfl, rfl, rfl, hA, hsub3, hmq3, hmr3, hB, hr3⟩ := hcut
    have N1 := Lib.hid (hsub3 _ M1.out)
    have N2 := Lib.hid (hsub3 _ M2.out)
    have N3 := Lib.hid hmq3
    have N4 := Lib.hid hmr3
    have HR3 := Lib.hid hr3
    clear hsub3 hmq3 hmr3 hr3 M1 M2
    obtain ⟨p0, p1⟩ := hA.cells N1.out
    obtain ⟨p2, p3⟩ := hA.cells N2.out
    go_wp2_with fail
    refine (rdivide_all n1 n2 _ _ xs ys _ (hA.sl N1.out) (hA.sl N2.out) X1.out X2.out).mono ?_
    rintro e V4 ⟨m1, ax, lx, cx, q, m2, ay, ly, cy, r, c, rfl, hsx, hsy, hb, hres⟩
    obtain ⟨e1, e2, e3, e4, e5⟩ := divR_unique HR3.out hres
    subst e1; subst e2; subst e3; subst e4; subst e5
    clear hres HR3 p0 p1 p2 p3
    replace hB := hB.trans (hb.mono hB.size)
    replace hA := (hA.step hb).push2 (n := nn3) (m := mm3) hsx hsy
    replace hB := (hB.alloc hB.size (.cells #[.bool nn3, .slice ax lx cx] 24)).alloc (by have := hB.size; simp; omega) (.cells #[.bool mm3, .slice ay ly cy] 24)
    clear hb hsx hsy
    replace N1 := Lib.hid (mem2 (x := (V4.heap.size + 1, mm3, .slice ay ly cy, rr3)) (y := (V4.heap.size, nn3, .slice ax lx cx, qq3)) _ N1.out)
    replace N2 := Lib.hid (mem2 (x := (V4.heap.size + 1, mm3, .slice ay ly cy, rr3)) (y := (V4.heap.size, nn3, .slice ax lx cx, qq3)) _ N2.out)
    replace N3 := Lib.hid (mem2 (x := (V4.heap.size + 1, mm3, .slice ay ly cy, rr3)) (y := (V4.heap.size, nn3, .slice ax lx cx, qq3)) _ N3.out)
    replace N4 := Lib.hid (mem2 (x := (V4.heap.size + 1, mm3, .slice ay ly cy, rr3)) (y := (V4.heap.size, nn3, .slice ax lx cx, qq3)) _ N4.out)
    have N5 := Lib.hid (List.mem_cons_of_mem (V4.heap.size + 1, mm3, Value.slice ay ly cy, rr3) (List.mem_cons_self (a := (V4.heap.size, nn3, Value.slice ax lx cx, qq3)) (l := LL3)))
    have N6 := Lib.hid (List.mem_cons_self (a := (V4.heap.size + 1, mm3, Value.slice ay ly cy, rr3)) (l := (V4.heap.size, nn3, Value.slice ax lx cx, qq3) :: LL3))
    generalize hLL4 : (V4.heap.size + 1, mm3, Value.slice ay ly cy, rr3) :: (V4.heap.size, nn3, Value.slice ax lx cx, qq3) :: LL3 = LL4 at *
    clear hLL4
    go_upto_region 5 with fail
    go_cut [11, 12] (fun s1 s2 wx => MadeE (ModR n1 n2 xs ys) LL4 w s1 s2 wx)
    case first =>
      have hE0 := hA
      have hC := hA.start.drew
      replace hA := hA.drew
      go_region_held3 (fun W' => W'.cell? ⟨w.heap.size, 0, none⟩ = some (.bool n1) ∧ W'.cell? ⟨w.heap.size, 1, none⟩ = some (.slice a1 xs.length c1) ∧ W'.cell? ⟨w.heap.size + 1, 0, none⟩ = some (.bool n2) ∧ W'.cell? ⟨w.heap.size + 1, 1, none⟩ = some (.slice a2 ys.length c2))
        ((refine (fun (hk : Below _ _ _) => ⟨((hE0.held hk).cells N1.out).1, ((hE0.held hk).cells N1.out).2, ((hE0.held hk).cells N2.out).1, ((hE0.held hk).cells N2.out).2⟩) ?_; (have hcs := hC.size; (try simp only [] at hcs); (repeat' (first | with_reducible exact hC | with_reducible exact Below.refl _ _ | refine Below.drew ?_ | refine Below.alloc ?_ ?_ _ | refine Below.setCell ?_ ?_ _)); all_goals (first | omega | (simp only [World.size_alloc]; omega) | (simp; omega)))))
        (first
          | (go_at_call 15; (with_reducible refine (own_open n1 (.slice a1 xs.length c1) xs _ ?_ ?_).mono ?_); (first | with_reducible exact hA.sl N1.out | with_reducible exact hA.sl (List.mem_cons_of_mem _ N1.out) | with_reducible exact hA.sl (List.mem_cons_of_mem _ (List.mem_cons_of_mem _ N1.out)) | exact hA.zero.sl (List.mem_cons_of_mem _ N1.out) | exact hA.zero.sl (List.mem_cons_of_mem _ (List.mem_cons_of_mem _ N1.out)) | exact hA.zero2.sl (List.mem_cons_of_mem _ (List.mem_cons_of_mem _ N1.out))); (omega); rintro e W0o ⟨ao0, l0, cap0, rfl, hs0, hb⟩; (first | (have hA' := hA.step hb; replace hC := hC.trans (hb.mono hC.size); replace hA := hA'; clear hA') | (have hA' := hA.zero.step hb; have hgz := hC.size; replace hC := (hC.alloc hgz _).trans (hb.mono (Nat.le_trans hgz (by simp))); replace hA := hA'; clear hA') | (have hA' := hA.zero2.step hb; have hgz := hC.size; replace hC := ((hC.alloc hgz _).alloc (Nat.le_trans hgz (by simp)) _).trans (hb.mono (Nat.le_trans hgz (by simp; omega))); replace hA := hA'; clear hA')); clear hb; (try simp only [World.size_drew, World.size_alloc] at hA); (try simp only [World.size_drew, World.size_alloc] at hgz))
          | (go_at_call 15; (with_reducible refine (own_open n2 (.slice a2 ys.length c2) ys _ ?_ ?_).mono ?_); (first | with_reducible exact hA.sl N2.out | with_reducible exact hA.sl (List.mem_cons_of_mem _ N2.out) | with_reducible exact hA.sl (List.mem_cons_of_mem _ (List.mem_cons_of_mem _ N2.out)) | exact hA.zero.sl (List.mem_cons_of_mem _ N2.out) | exact hA.zero.sl (List.mem_cons_of_mem _ (List.mem_cons_of_mem _ N2.out)) | exact hA.zero2.sl (List.mem_cons_of_mem _ (List.mem_cons_of_mem _ N2.out))); (omega); rintro e W1o ⟨ao1, l1, cap1, rfl, hs1, hb⟩; (first | replace hs0 := hs0.below hb | replace hs0 := (hs0.below (below1 _ _)).below hb | replace hs0 := (hs0.below (below2 _ _ _)).below hb); (first | (have hA' := hA.step hb; replace hC := hC.trans (hb.mono hC.size); replace hA := hA'; clear hA') | (have hA' := hA.zero.step hb; have hgz := hC.size; replace hC := (hC.alloc hgz _).trans (hb.mono (Nat.le_trans hgz (by simp))); replace hA := hA'; clear hA') | (have hA' := hA.zero2.step hb; have hgz := hC.size; replace hC := ((hC.alloc hgz _).alloc (Nat.le_trans hgz (by simp)) _).trans (hb.mono (Nat.le_trans hgz (by simp; omega))); replace hA := hA'; clear hA')); clear hb; (try simp only [World.size_alloc] at hA); (try simp only [World.size_alloc] at hgz))
          | (go_at_call 36; (with_reducible refine (modulo_all n1 n2 _ _ xs ys _ ?_ ?_ X1.out X2.out).mono ?_); (first | with_reducible exact hs0 | exact hs0.below (below1 _ _) | exact hs0.below (below2 _ _ _)); (first | with_reducible exact hs1 | exact hs1.below (below1 _ _) | exact hs1.below (below2 _ _ _)); rintro e Wop ⟨m1, ax, lx, cx, q, c, rfl, hsx, hb, hres⟩; have HRES := Lib.hid hres; clear hres; (first | (have hA' := hA.step hb; replace hC := hC.trans (hb.mono hC.size); replace hA := hA'; clear hA') | (have hA' := hA.zero.step hb; have hgz := hC.size; replace hC := (hC.alloc hgz _).trans (hb.mono (Nat.le_trans hgz (by simp))); replace hA := hA'; clear hA') | (have hA' := hA.zero2.step hb; have hgz := hC.size; replace hC := ((hC.alloc hgz _).alloc (Nat.le_trans hgz (by simp)) _).trans (hb.mono (Nat.le_trans hgz (by simp; omega))); replace hA := hA'; clear hA')); clear hb; (try simp only [World.size_alloc] at hA); (try simp only [World.size_alloc] at hgz); (try (have hz0 := hA.facts List.mem_cons_self; obtain ⟨z00, z01, z02, z03⟩ := hz0)); (try (have hz1 := hA.facts (List.mem_cons_of_mem _ List.mem_cons_self); obtain ⟨z10, z11, z12, z13⟩ := hz1)); (try (have hne := hA.ne01; obtain ⟨ne1, ne2⟩ := hne)); (try (have lt0 := hA.old List.mem_cons_self; dsimp only at lt0)); (try (have lt1 := hA.old (List.mem_cons_of_mem _ List.mem_cons_self); dsimp only at lt1))))
      all_goals (go_wp2_with fail; go_meet)
      all_goals unfold MadeE
      all_goals first
        | (with_reducible refine ⟨_, _, m1, ax, lx, cx, q, c, rfl, rfl, hA.push hsx, mem1, List.mem_cons_self, ?_, HRES.out⟩; exact hB.trans (Below.mono (by (have hcs := hC.size; (try simp only [World.size_drew] at hcs); (repeat' (first | with_reducible exact hC | with_reducible exact Below.refl _ _ | refine Below.drew ?_ | refine Below.alloc ?_ ?_ _ | refine Below.setCell ?_ ?_ _)); all_goals (first | omega | (simp only [World.size_drew, World.size_alloc]; omega) | (simp; omega)))) hB.size))
        | (with_reducible refine ⟨_, _, m1, ax, lx, cx, q, c, rfl, rfl, hA.fill0 hsx m1, mem1, List.mem_cons_self, ?_, HRES.out⟩; exact hB.trans (Below.mono (by (have hcs := hC.size; (try simp only [] at hcs); (repeat' (first | with_reducible exact hC | with_reducible exact Below.refl _ _ | refine Below.drew ?_ | refine Below.alloc ?_ ?_ _ | refine Below.setCell ?_ ?_ _)); all_goals (first | omega | (simp only [World.size_alloc]; omega) | (simp; omega)))) hB.size))
    case rest =>
      clear hA hB
      obtain ⟨LL5, gg5, nn5, aa5, ll5, kk5, qq5, cc5, rfl, rfl, hA, hsub5, hmq5, hB, hr5⟩ := hcut
      replace N1 := Lib.hid (hsub5 _ N1.out)
      replace N2 := Lib.hid (hsub5 _ N2.out)
      replace N3 := Lib.hid (hsub5 _ N3.out)
      replace N4 := Lib.hid (hsub5 _ N4.out)
      replace N5 := Lib.hid (hsub5 _ N5.out)
      replace N6 := Lib.hid (hsub5 _ N6.out)
      have N7 := Lib.hid hmq5
      have HR5 := Lib.hid hr5
      clear hsub5 hmq5 hr5
      obtain ⟨p0, p1⟩ := hA.cells N1.out
      obtain ⟨p2, p3⟩ := hA.cells N2.out
      go_wp2_with fail
      refine (rmodulo_all n1 n2 _ _ xs ys _ (hA.sl N1.out) (hA.sl N2.out) X1.out X2.out).mono ?_
      rintro e V6 ⟨m, au, lu, cu, u, c, rfl, hsx, hb, hres⟩
      obtain ⟨e1, e2, e3⟩ := modR_unique HR5.out hres
      subst e1; subst e2; subst e3
      clear hres HR5 p0 p1 p2 p3
      replace hB := hB.trans (hb.mono hB.size)
      replace hA := (hA.step hb).push (n := nn5) hsx
      replace hB := hB.alloc hB.size (.cells #[.bool nn5, .slice au lu cu] 24)
      clear hb hsx N1 N2
      replace N3 := Lib.hid (mem1 (x := (V6.heap.size, nn5, .slice au lu cu, qq5)) _ N3.out)
      replace N4 := Lib.hid (mem1 (x := (V6.heap.size, nn5, .slice au lu cu, qq5)) _ N4.out)
      replace N5 := Lib.hid (mem1 (x := (V6.heap.size, nn5, .slice au lu cu, qq5)) _ N5.out)
      replace N6 := Lib.hid (mem1 (x := (V6.heap.size, nn5, .slice au lu cu, qq5)) _ N6.out)
      replace N7 := Lib.hid (mem1 (x := (V6.heap.size, nn5, .slice au lu cu, qq5)) _ N7.out)
      have N8 := Lib.hid (List.mem_cons_self (a := (V6.heap.size, nn5, Value.slice au lu cu, qq5)) (l := LL5))
      obtain ⟨p0, p1⟩ := hA.cells N3.out
      obtain ⟨p2, p3⟩ := hA.cells N5.out
      go_wp2_with fail
      refine (same_any nn3 nn3 _ _ qq3 qq3 _ (hA.sl N3.out) (hA.sl N5.out)).mono ?_
      rintro e V7 ⟨rfl, hb⟩
      rw [sameB_true ⟨rfl, rfl⟩]
      replace hB := hB.trans (hb.mono hB.size)
      replace hA := hA.step hb
      clear hb p0 p1 p2 p3
      obtain ⟨p0, p1⟩ := hA.cells N4.out
      obtain ⟨p2, p3⟩ := hA.cells N6.out
      go_wp2_with fail
      refine (same_any mm3 mm3 _ _ rr3 rr3 _ (hA.sl N4.out) (hA.sl N6.out)).mono ?_
      rintro e V8 ⟨rfl, hb⟩
      rw [sameB_true ⟨rfl, rfl⟩]
      replace hB := hB.trans (hb.mono hB.size)
      replace hA := hA.step hb
      clear hb p0 p1 p2 p3
      obtain ⟨p0, p1⟩ := hA.cells N7.out
      obtain ⟨p2, p3⟩ := hA.cells N8.out
      go_wp2_with fail
      refine (same_any nn5 nn5 _ _ qq5 qq5 _ (hA.sl N7.out) (hA.sl N8.out)).mono ?_
      rintro e V9 ⟨rfl, hb⟩
      rw [sameB_true ⟨rfl, rfl⟩]
      replace hB := hB.trans (hb.mono hB.size)
      go_wp2
      go_ret
      exact ⟨rfl, hB⟩

theorem divides_any (n1 n2 : Bool) (a1 a2 : Option Addr) (c1 c2 : Nat) (xs ys : List Nat) (w : World) (ht : Pow10 w)
    (hs1 : Sl .u32 w (.slice a1 xs.length c1) xs) (hs2 : Sl .u32 w (.slice a2 ys.length c2) ys) (hx : ∀ i, limb xs i < 4294967296) (hy : ∀ i, limb ys i < 4294967296) :
    Calls Tryd.prog 7 #[.agg #[.bool n1, .slice a1 xs.length c1], .agg #[.bool n2, .slice a2 ys.length c2]] w (TruePost w) := by
  rcases Nat.lt_or_ge 70 xs.length with h1 | h1
  · exact divides_out1 n1 n2 a1 a2 c1 c2 xs ys w ht hs1 hs2 hx hy h1
  · rcases Nat.lt_or_ge 70 ys.length with h2 | h2
    · exact divides_out2 n1 n2 a1 a2 c1 c2 xs ys w ht hs1 hs2 hx hy h1 h2
    · exact divides_in n1 n2 a1 a2 c1 c2 xs ys w ht hs1 hs2 hx hy h1 h2
end Go.Proofs.YtiekhjgfnmochaaDoor
