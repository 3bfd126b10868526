/- NumWhole, walked -/
import Derived.Test.YtiekhjgfnmochaaDoorWholeOut
import Derived.Test.YtiekhjgfnmochaaDoorModulo
namespace Go.Proofs.YtiekhjgfnmochaaDoor
open Go.RowKit

set_option maxRecDepth 100000 in
set_option maxHeartbeats 4000000 in
theorem whole_in (n1 n2 : Bool) (a1 a2 : Option Addr) (c1 c2 : Nat) (xs ys : List Nat) (w : World) (ht : Pow10 w)
    (hs1 : Sl .u32 w (.slice a1 xs.length c1) xs) (hs2 : Sl .u32 w (.slice a2 ys.length c2) ys) (hx : ∀ i, limb xs i < 4294967296) (hy : ∀ i, limb ys i < 4294967296) (g1 : Snd n1 xs) (g2 : Snd n2 ys) (hne : ys ≠ []) :
    Calls Tryd.prog 8 #[.agg #[.bool n1, .slice a1 xs.length c1], .agg #[.bool n2, .slice a2 ys.length c2]] w (TruePost w) := by
  have HT := Lib.hid ht; clear ht
  have X1 := Lib.hid hx; clear hx
  have X2 := Lib.hid hy; clear hy
  have hE : Env [(w.heap.size + 1, n2, .slice a2 ys.length c2, ys), (w.heap.size, n1, .slice a1 xs.length c1, xs)] ((w.alloc (.cells #[.bool n1, .slice a1 xs.length c1] 24)).alloc (.cells #[.bool n2, .slice a2 ys.length c2] 24)) := by
    have h1 := (Env.nil w).push (n := n1) hs1
    have h2 := h1.push (n := n2) (hs2.below (below1 w _))
    simpa only [World.size_alloc] using h2
  have hB := below2 w (.cells #[.bool n1, .slice a1 xs.length c1] 24) (.cells #[.bool n2, .slice a2 ys.length c2] 24)
  clear hs1 hs2
  have M1 : Hid ((w.heap.size, n1, Value.slice a1 xs.length c1, xs) ∈ [(w.heap.size + 1, n2, Value.slice a2 ys.length c2, ys), (w.heap.size, n1, Value.slice a1 xs.length c1, xs)]) := Lib.hid (by simp)
  have M2 : Hid ((w.heap.size + 1, n2, Value.slice a2 ys.length c2, ys) ∈ [(w.heap.size + 1, n2, Value.slice a2 ys.length c2, ys), (w.heap.size, n1, Value.slice a1 xs.length c1, xs)]) := Lib.hid (by simp)
  have G1 := Lib.hid g1
  have G2 := Lib.hid g2
  have GN := Lib.hid hne
  have h1 : xs.length ≤ 64 := g1.1
  have h2 : ys.length ≤ 64 := g2.1
  have hb0 : (((ys.length : Nat) : Int) == 0) = false := by
    have := List.length_pos_iff.2 hne
    rw [beq_eq_false_iff_ne]; omega
  clear g1 g2 hne
  go_enter Tryd.func8, Tryd.ntmps8
  go_wp2_with fail
  refine (answers_any _ (HT.out.below hB)).mono ?_
  rintro e V1 ⟨rfl, hb⟩
  replace hB := hB.trans (hb.mono hB.size)
  replace hE := hE.step hb
  clear hb
  obtain ⟨p0, p1⟩ := hE.cells M1.out
  go_wp2_with fail
  refine (rsound_any n1 _ xs _ (hE.sl M1.out) X1.out).mono ?_
  rintro e V2 ⟨rfl, hb⟩
  rw [sndB_true G1.out]
  replace hB := hB.trans (hb.mono hB.size)
  replace hE := hE.step hb
  clear hb p0 p1
  obtain ⟨p0, p1⟩ := hE.cells M2.out
  go_wp2_with fail
  refine (rsound_any n2 _ ys _ (hE.sl M2.out) X2.out).mono ?_
  rintro e V3 ⟨rfl, hb⟩
  rw [sndB_true G2.out]
  replace hB := hB.trans (hb.mono hB.size)
  replace hE := hE.step hb
  clear hb p0 p1
  obtain ⟨p0, p1⟩ := hE.cells M2.out
  have hA : EnvD [(w.heap.size + 1, n2, .slice a2 ys.length c2, ys), (w.heap.size, n1, .slice a1 xs.length c1, xs)] _ := ⟨hE, List.pairwise_cons.2 ⟨fun e he => by rw [List.mem_singleton.1 he]; exact Nat.lt_succ_self _, List.pairwise_singleton _ _⟩⟩
  clear hE p0
  go_upto_region 3 with fail
  go_cut [5, 6, 7] (fun s1 s2 s3 wx => MadeD (DivR n1 n2 xs ys) [(w.heap.size + 1, n2, .slice a2 ys.length c2, ys), (w.heap.size, n1, .slice a1 xs.length c1, xs)] w s1 s2 s3 wx)
  case first =>
    have hE0 := hA
    have hC := hA.start.drew
    replace hA := hA.drew
    go_region_held3 (fun W' => W'.cell? ⟨w.heap.size, 0, none⟩ = some (.bool n1) ∧ W'.cell? ⟨w.heap.size, 1, none⟩ = some (.slice a1 xs.length c1) ∧ W'.cell? ⟨w.heap.size + 1, 0, none⟩ = some (.bool n2) ∧ W'.cell? ⟨w.heap.size + 1, 1, none⟩ = some (.slice a2 ys.length c2))
      ((refine (fun (hk : Below _ _ _) => ⟨((hE0.held hk).cells M1.out).1, ((hE0.held hk).cells M1.out).2, ((hE0.held hk).cells M2.out).1, ((hE0.held hk).cells M2.out).2⟩) ?_; (have hcs := hC.size; (try simp only [] at hcs); (repeat' (first | with_reducible exact hC | with_reducible exact Below.refl _ _ | refine Below.drew ?_ | refine Below.alloc ?_ ?_ _ | refine Below.setCell ?_ ?_ _)); all_goals (first | omega | (simp only [World.size_alloc]; omega) | (simp; omega)))))
      (first
        | (go_at_call 15; (with_reducible refine (own_open n1 (.slice a1 xs.length c1) xs _ ?_ ?_).mono ?_); (first | with_reducible exact hA.sl M1.out | with_reducible exact hA.sl (List.mem_cons_of_mem _ M1.out) | with_reducible exact hA.sl (List.mem_cons_of_mem _ (List.mem_cons_of_mem _ M1.out)) | exact hA.zero.sl (List.mem_cons_of_mem _ M1.out) | exact hA.zero.sl (List.mem_cons_of_mem _ (List.mem_cons_of_mem _ M1.out)) | exact hA.zero2.sl (List.mem_cons_of_mem _ (List.mem_cons_of_mem _ M1.out))); (omega); rintro e W0o ⟨ao0, l0, cap0, rfl, hs0, hb⟩; (first | (have hA' := hA.step hb; replace hC := hC.trans (hb.mono hC.size); replace hA := hA'; clear hA') | (have hA' := hA.zero.step hb; have hgz := hC.size; replace hC := (hC.alloc hgz _).trans (hb.mono (Nat.le_trans hgz (by simp))); replace hA := hA'; clear hA') | (have hA' := hA.zero2.step hb; have hgz := hC.size; replace hC := ((hC.alloc hgz _).alloc (Nat.le_trans hgz (by simp)) _).trans (hb.mono (Nat.le_trans hgz (by simp; omega))); replace hA := hA'; clear hA')); clear hb; (try simp only [World.size_drew] at hA); (try simp only [World.size_drew] at hgz))
        | (go_at_call 15; (with_reducible refine (own_open n2 (.slice a2 ys.length c2) ys _ ?_ ?_).mono ?_); (first | with_reducible exact hA.sl M2.out | with_reducible exact hA.sl (List.mem_cons_of_mem _ M2.out) | with_reducible exact hA.sl (List.mem_cons_of_mem _ (List.mem_cons_of_mem _ M2.out)) | exact hA.zero.sl (List.mem_cons_of_mem _ M2.out) | exact hA.zero.sl (List.mem_cons_of_mem _ (List.mem_cons_of_mem _ M2.out)) | exact hA.zero2.sl (List.mem_cons_of_mem _ (List.mem_cons_of_mem _ M2.out))); (omega); rintro e W1o ⟨ao1, l1, cap1, rfl, hs1, hb⟩; (first | replace hs0 := hs0.below hb | replace hs0 := (hs0.below (below1 _ _)).below hb | replace hs0 := (hs0.below (below2 _ _ _)).below hb); (first | (have hA' := hA.step hb; replace hC := hC.trans (hb.mono hC.size); replace hA := hA'; clear hA') | (have hA' := hA.zero.step hb; have hgz := hC.size; replace hC := (hC.alloc hgz _).trans (hb.mono (Nat.le_trans hgz (by simp))); replace hA := hA'; clear hA') | (have hA' := hA.zero2.step hb; have hgz := hC.size; replace hC := ((hC.alloc hgz _).alloc (Nat.le_trans hgz (by simp)) _).trans (hb.mono (Nat.le_trans hgz (by simp; omega))); replace hA := hA'; clear hA')); clear hb; (try simp only [World.size_drew, World.size_alloc] at hA); (try simp only [World.size_drew, World.size_alloc] at hgz))
        | (go_at_call 34; (with_reducible refine (divide_all n1 n2 _ _ xs ys _ ?_ ?_ X1.out X2.out).mono ?_); (first | with_reducible exact hs0 | exact hs0.below (below1 _ _) | exact hs0.below (below2 _ _ _)); (first | with_reducible exact hs1 | exact hs1.below (below1 _ _) | exact hs1.below (below2 _ _ _)); rintro e Wop ⟨m1, ax, lx, cx, q, m2, ay, ly, cy, r, c, rfl, hsx, hsy, hb, hres⟩; have HRES := Lib.hid hres; clear hres; (first | (have hA' := hA.step hb; replace hC := hC.trans (hb.mono hC.size); replace hA := hA'; clear hA') | (have hA' := hA.zero.step hb; have hgz := hC.size; replace hC := (hC.alloc hgz _).trans (hb.mono (Nat.le_trans hgz (by simp))); replace hA := hA'; clear hA') | (have hA' := hA.zero2.step hb; have hgz := hC.size; replace hC := ((hC.alloc hgz _).alloc (Nat.le_trans hgz (by simp)) _).trans (hb.mono (Nat.le_trans hgz (by simp; omega))); replace hA := hA'; clear hA')); clear hb; (try simp only [World.size_drew, World.size_alloc] at hA); (try simp only [World.size_drew, World.size_alloc] at hgz); (try (have hz0 := hA.facts List.mem_cons_self; obtain ⟨z00, z01, z02, z03⟩ := hz0)); (try (have hz1 := hA.facts (List.mem_cons_of_mem _ List.mem_cons_self); obtain ⟨z10, z11, z12, z13⟩ := hz1)); (try (have hne := hA.ne01; obtain ⟨ne1, ne2⟩ := hne)); (try (have lt0 := hA.old List.mem_cons_self; dsimp only at lt0)); (try (have lt1 := hA.old (List.mem_cons_of_mem _ List.mem_cons_self); dsimp only at lt1))))
    all_goals (go_wp2_with fail; go_meet)
    all_goals unfold MadeD
    all_goals first
      | (with_reducible refine ⟨_, _, _, m1, m2, ax, lx, cx, ay, ly, cy, q, r, c, rfl, rfl, rfl, hA.push2 hsx hsy, mem2, (List.mem_cons_of_mem _ List.mem_cons_self), List.mem_cons_self, ?_, HRES.out⟩; exact hB.trans (Below.mono (by (have hcs := hC.size; (try simp only [] at hcs); (repeat' (first | with_reducible exact hC | with_reducible exact Below.refl _ _ | refine Below.drew ?_ | refine Below.alloc ?_ ?_ _ | refine Below.setCell ?_ ?_ _)); all_goals (first | omega | (simp only [World.size_alloc]; omega) | (simp; omega)))) hB.size))
      | (with_reducible refine ⟨_, _, _, m1, m2, ax, lx, cx, ay, ly, cy, q, r, c, rfl, rfl, rfl, hA.push2 hsy hsx, mem2, List.mem_cons_self, (List.mem_cons_of_mem _ List.mem_cons_self), ?_, HRES.out⟩; exact hB.trans (Below.mono (by (have hcs := hC.size; (try simp only [] at hcs); (repeat' (first | with_reducible exact hC | with_reducible exact Below.refl _ _ | refine Below.drew ?_ | refine Below.alloc ?_ ?_ _ | refine Below.setCell ?_ ?_ _)); all_goals (first | omega | (simp only [World.size_alloc]; omega) | (simp; omega)))) hB.size))
      | (with_reducible refine ⟨_, _, _, m1, m2, ax, lx, cx, ay, ly, cy, q, r, c, rfl, rfl, rfl, hA.fillpush hsx m1 hsy m2, mem2, (List.mem_cons_of_mem _ List.mem_cons_self), List.mem_cons_self, ?_, HRES.out⟩; exact hB.trans (Below.mono (by (have hcs := hC.size; (try simp only [World.size_drew] at hcs); (repeat' (first | with_reducible exact hC | with_reducible exact Below.refl _ _ | refine Below.drew ?_ | refine Below.alloc ?_ ?_ _ | refine Below.setCell ?_ ?_ _)); all_goals (first | omega | (simp only [World.size_drew, World.size_alloc]; omega) | (simp; omega)))) hB.size))
      | (with_reducible refine ⟨_, _, _, m1, m2, ax, lx, cx, ay, ly, cy, q, r, c, rfl, rfl, rfl, hA.fillpush hsy m2 hsx m1, mem2, List.mem_cons_self, (List.mem_cons_of_mem _ List.mem_cons_self), ?_, HRES.out⟩; exact hB.trans (Below.mono (by (have hcs := hC.size; (try simp only [World.size_drew] at hcs); (repeat' (first | with_reducible exact hC | with_reducible exact Below.refl _ _ | refine Below.drew ?_ | refine Below.alloc ?_ ?_ _ | refine Below.setCell ?_ ?_ _)); all_goals (first | omega | (simp only [World.size_drew, World.size_alloc]; omega) | (simp; omega)))) hB.size))
      | (with_reducible refine ⟨_, _, _, m1, m2, ax, lx, cx, ay, ly, cy, q, r, c, rfl, rfl, rfl, hA.fill10 hsy m2 hsx m1, mem2, (List.mem_cons_of_mem _ List.mem_cons_self), List.mem_cons_self, ?_, HRES.out⟩; exact hB.trans (Below.mono (by (have hcs := hC.size; (try simp only [] at hcs); (repeat' (first | with_reducible exact hC | with_reducible exact Below.refl _ _ | refine Below.drew ?_ | refine Below.alloc ?_ ?_ _ | refine Below.setCell ?_ ?_ _)); all_goals (first | omega | (simp only []; omega) | (simp; omega)))) hB.size))
      | (with_reducible refine ⟨_, _, _, m1, m2, ax, lx, cx, ay, ly, cy, q, r, c, rfl, rfl, rfl, hA.fill01 hsx m1 hsy m2, mem2, List.mem_cons_self, (List.mem_cons_of_mem _ List.mem_cons_self), ?_, HRES.out⟩; exact hB.trans (Below.mono (by (have hcs := hC.size; (try simp only [] at hcs); (repeat' (first | with_reducible exact hC | with_reducible exact Below.refl _ _ | refine Below.drew ?_ | refine Below.alloc ?_ ?_ _ | refine Below.setCell ?_ ?_ _)); all_goals (first | omega | (simp only []; omega) | (simp; omega)))) hB.size))
  case rest =>
    clear hA hB
    obtain ⟨LL3, gg3, hh3, nn3, mm3, aa3, ll3, kk3, ab3, lb3, kb3, qq3, rr3, cc3, rfl, rfl, rfl, hA, hsub3, hmq3, hmr3, hB, hr3⟩ := hcut
    have N1 := Lib.hid (hsub3 _ M1.out)
    have N2 := Lib.hid (hsub3 _ M2.out)
    have N3 := Lib.hid hmq3
    have N4 := Lib.hid hmr3
    have HR3 := Lib.hid (hr3.good G1.out G2.out GN.out)
    have W3 := Lib.hid HR3.out.2.1.2.1.wide
    clear hsub3 hmq3 hmr3 hr3 M1 M2 p1
    go_upto_region 4 with fail
    go_cut [8, 9] (fun s1 s2 wx => MadeE (fun c n q => ((Snd nn3 qq3 ∧ Snd n2 ys) ∧ c = 0 ∧ Snd n q ∧ ival n q = ival nn3 qq3 * ival n2 ys) ∨ ((Snd nn3 qq3 ∧ Snd n2 ys) ∧ c = 6 ∧ n = false ∧ q = [] ∧ 1000000000 ^ 64 ≤ (ival nn3 qq3 * ival n2 ys).natAbs) ∨ (¬ ((Snd nn3 qq3 ∧ Snd n2 ys)) ∧ c = 2 ∧ n = false ∧ q = [])) LL3 w s1 s2 wx)
    case first =>
      have hE0 := hA
      have hC := hA.start.drew
      replace hA := hA.drew
      go_region_held3 (fun W' => W'.cell? ⟨gg3, 0, none⟩ = some (.bool nn3) ∧ W'.cell? ⟨gg3, 1, none⟩ = some (.slice aa3 ll3 kk3) ∧ W'.cell? ⟨w.heap.size + 1, 0, none⟩ = some (.bool n2) ∧ W'.cell? ⟨w.heap.size + 1, 1, none⟩ = some (.slice a2 ys.length c2))
        ((refine (fun (hk : Below _ _ _) => ⟨((hE0.held hk).cells N3.out).1, ((hE0.held hk).cells N3.out).2, ((hE0.held hk).cells N2.out).1, ((hE0.held hk).cells N2.out).2⟩) ?_; (have hcs := hC.size; (try simp only [World.size_drew] at hcs); (repeat' (first | with_reducible exact hC | with_reducible exact Below.refl _ _ | refine Below.drew ?_ | refine Below.alloc ?_ ?_ _ | refine Below.setCell ?_ ?_ _)); all_goals (first | omega | (simp only [World.size_drew, World.size_alloc]; omega) | (simp; omega)))))
        (first
          | (go_at_call 15; (with_reducible refine (own_open n2 (.slice a2 ys.length c2) ys _ ?_ ?_).mono ?_); (first | with_reducible exact hA.sl N2.out | with_reducible exact hA.sl (List.mem_cons_of_mem _ N2.out) | with_reducible exact hA.sl (List.mem_cons_of_mem _ (List.mem_cons_of_mem _ N2.out)) | exact hA.zero.sl (List.mem_cons_of_mem _ N2.out) | exact hA.zero.sl (List.mem_cons_of_mem _ (List.mem_cons_of_mem _ N2.out)) | exact hA.zero2.sl (List.mem_cons_of_mem _ (List.mem_cons_of_mem _ N2.out))); (omega); rintro e W0o ⟨ao0, l0, cap0, rfl, hs0, hb⟩; (first | (have hA' := hA.step hb; replace hC := hC.trans (hb.mono hC.size); replace hA := hA'; clear hA') | (have hA' := hA.zero.step hb; have hgz := hC.size; replace hC := (hC.alloc hgz _).trans (hb.mono (Nat.le_trans hgz (by simp))); replace hA := hA'; clear hA') | (have hA' := hA.zero2.step hb; have hgz := hC.size; replace hC := ((hC.alloc hgz _).alloc (Nat.le_trans hgz (by simp)) _).trans (hb.mono (Nat.le_trans hgz (by simp; omega))); replace hA := hA'; clear hA')); clear hb; (try simp only [World.size_drew] at hA); (try simp only [World.size_drew] at hgz))
          | (go_at_call 32; (with_reducible refine (mul_allo nn3 n2 _ _ qq3 ys _ ?_ ?_ W3.out X2.out).mono ?_); (first | with_reducible exact hA.sl N3.out | with_reducible exact hA.sl (List.mem_cons_of_mem _ N3.out) | with_reducible exact hA.sl (List.mem_cons_of_mem _ (List.mem_cons_of_mem _ N3.out)) | exact hA.zero.sl (List.mem_cons_of_mem _ N3.out) | exact hA.zero.sl (List.mem_cons_of_mem _ (List.mem_cons_of_mem _ N3.out)) | exact hA.zero2.sl (List.mem_cons_of_mem _ (List.mem_cons_of_mem _ N3.out))); (first | with_reducible exact hs0 | exact hs0.below (below1 _ _) | exact hs0.below (below2 _ _ _)); rintro e Wop ⟨m1, ax, lx, cx, q, c, rfl, hsx, hb, hres⟩; have HRES := Lib.hid hres; clear hres; (first | (have hA' := hA.step hb; replace hC := hC.trans (hb.mono hC.size); replace hA := hA'; clear hA') | (have hA' := hA.zero.step hb; have hgz := hC.size; replace hC := (hC.alloc hgz _).trans (hb.mono (Nat.le_trans hgz (by simp))); replace hA := hA'; clear hA') | (have hA' := hA.zero2.step hb; have hgz := hC.size; replace hC := ((hC.alloc hgz _).alloc (Nat.le_trans hgz (by simp)) _).trans (hb.mono (Nat.le_trans hgz (by simp; omega))); replace hA := hA'; clear hA')); clear hb; (try simp only [World.size_drew, World.size_alloc] at hA); (try simp only [World.size_drew, World.size_alloc] at hgz); (try (have hz0 := hA.facts List.mem_cons_self; obtain ⟨z00, z01, z02, z03⟩ := hz0)); (try (have hz1 := hA.facts (List.mem_cons_of_mem _ List.mem_cons_self); obtain ⟨z10, z11, z12, z13⟩ := hz1)); (try (have hne := hA.ne01; obtain ⟨ne1, ne2⟩ := hne)); (try (have lt0 := hA.old List.mem_cons_self; dsimp only at lt0)); (try (have lt1 := hA.old (List.mem_cons_of_mem _ List.mem_cons_self); dsimp only at lt1))))
      all_goals (go_wp2_with fail; go_meet)
      all_goals unfold MadeE
      all_goals first
        | (with_reducible refine ⟨_, _, m1, ax, lx, cx, q, c, rfl, rfl, hA.push hsx, mem1, List.mem_cons_self, ?_, HRES.out⟩; exact hB.trans (Below.mono (by (have hcs := hC.size; (try simp only [World.size_drew] at hcs); (repeat' (first | with_reducible exact hC | with_reducible exact Below.refl _ _ | refine Below.drew ?_ | refine Below.alloc ?_ ?_ _ | refine Below.setCell ?_ ?_ _)); all_goals (first | omega | (simp only [World.size_drew, World.size_alloc]; omega) | (simp; omega)))) hB.size))
        | (with_reducible refine ⟨_, _, m1, ax, lx, cx, q, c, rfl, rfl, hA.fill0 hsx m1, mem1, List.mem_cons_self, ?_, HRES.out⟩; exact hB.trans (Below.mono (by (have hcs := hC.size; (try simp only [World.size_drew] at hcs); (repeat' (first | with_reducible exact hC | with_reducible exact Below.refl _ _ | refine Below.drew ?_ | refine Below.alloc ?_ ?_ _ | refine Below.setCell ?_ ?_ _)); all_goals (first | omega | (simp only [World.size_drew, World.size_alloc]; omega) | (simp; omega)))) hB.size))
    case rest =>
      clear hA hB
      obtain ⟨LL4, gg4, nn4, aa4, ll4, kk4, qq4, cc4, rfl, rfl, hA, hsub4, hmq4, hB, hr4⟩ := hcut
      replace N1 := Lib.hid (hsub4 _ N1.out)
      replace N2 := Lib.hid (hsub4 _ N2.out)
      replace N3 := Lib.hid (hsub4 _ N3.out)
      replace N4 := Lib.hid (hsub4 _ N4.out)
      have N5 := Lib.hid hmq4
      have HR4 : Hid (cc4 = 0 ∧ Snd nn4 qq4 ∧ ival nn4 qq4 = ival nn3 qq3 * ival n2 ys) := Lib.hid (any_good hr4 ⟨HR3.out.2.1, G2.out⟩ (by
        rw [HR3.out.2.2.2.1]
        exact Nat.lt_of_le_of_lt (whole_prod n1 n2 (val xs) (val ys)) (Nat.lt_of_lt_of_le (val_lt G1.out.2.1) (Nat.pow_le_pow_right (by omega) G1.out.1))))
      clear hsub4 hmq4 hr4
      obtain ⟨p0, p1⟩ := hA.cells N5.out
      obtain ⟨p2, p3⟩ := hA.cells N4.out
      go_wp2_with fail
      refine (add_allo nn4 mm3 _ _ qq4 rr3 _ (hA.sl N5.out) (hA.sl N4.out) HR4.out.2.1.2.1.wide HR3.out.2.2.1.2.1.wide).mono ?_
      rintro e V5 ⟨m1, ax, lx, cx, sx, cs, rfl, hsx, hb, hres⟩
      have hsum : ival nn4 qq4 + ival mm3 rr3 = ival n1 xs := by
        rw [HR4.out.2.2, HR3.out.2.2.2.1, HR3.out.2.2.2.2]
        exact whole_sum n1 n2 (val xs) (val ys)
      rw [hsum] at hres
      obtain ⟨hcs, hss, hvs⟩ := any_good hres ⟨HR4.out.2.1, HR3.out.2.2.1⟩ (snd_val_lt G1.out)
      obtain ⟨e1, e2⟩ := snd_unique G1.out hss hvs.symm
      subst e1; subst e2; subst hcs
      clear hres hsum hvs hss p0 p1 p2 p3
      replace hB := hB.trans (hb.mono hB.size)
      replace hA := (hA.step hb).push (n := n1) hsx
      replace hB := hB.alloc hB.size (.cells #[.bool n1, .slice ax lx cx] 24)
      clear hb hsx
      have hc4 := HR4.out.1
      subst hc4
      replace N1 := Lib.hid (mem1 (x := (V5.heap.size, n1, .slice ax lx cx, xs)) _ N1.out)
      replace N2 := Lib.hid (mem1 (x := (V5.heap.size, n1, .slice ax lx cx, xs)) _ N2.out)
      replace N3 := Lib.hid (mem1 (x := (V5.heap.size, n1, .slice ax lx cx, xs)) _ N3.out)
      replace N4 := Lib.hid (mem1 (x := (V5.heap.size, n1, .slice ax lx cx, xs)) _ N4.out)
      replace N5 := Lib.hid (mem1 (x := (V5.heap.size, n1, .slice ax lx cx, xs)) _ N5.out)
      have N6 := Lib.hid (List.mem_cons_self (a := (V5.heap.size, n1, Value.slice ax lx cx, xs)) (l := LL4))
      generalize hLL5 : (V5.heap.size, n1, Value.slice ax lx cx, xs) :: LL4 = LL5 at *
      clear hLL5
      go_upto_region 6 with fail
      go_cut [12, 13] (fun s1 s2 wx => MadeE (ModR n1 n2 xs ys) LL5 w s1 s2 wx)
      case first =>
        have hE0 := hA
        have hC := hA.start.drew
        replace hA := hA.drew
        go_region_held3 (fun W' => W'.cell? ⟨w.heap.size, 0, none⟩ = some (.bool n1) ∧ W'.cell? ⟨w.heap.size, 1, none⟩ = some (.slice a1 xs.length c1) ∧ W'.cell? ⟨w.heap.size + 1, 0, none⟩ = some (.bool n2) ∧ W'.cell? ⟨w.heap.size + 1, 1, none⟩ = some (.slice a2 ys.length c2))
          ((refine (fun (hk : Below _ _ _) => ⟨((hE0.held hk).cells N1.out).1, ((hE0.held hk).cells N1.out).2, ((hE0.held hk).cells N2.out).1, ((hE0.held hk).cells N2.out).2⟩) ?_; (have hcs := hC.size; (try simp only [] at hcs); (repeat' (first | with_reducible exact hC | with_reducible exact Below.refl _ _ | refine Below.drew ?_ | refine Below.alloc ?_ ?_ _ | refine Below.setCell ?_ ?_ _)); all_goals (first | omega | (simp only [World.size_alloc]; omega) | (simp; omega)))))
          (first
            | (go_at_call 15; (with_reducible refine (own_open n1 (.slice a1 xs.length c1) xs _ ?_ ?_).mono ?_); (first | with_reducible exact hA.sl N1.out | with_reducible exact hA.sl (List.mem_cons_of_mem _ N1.out) | with_reducible exact hA.sl (List.mem_cons_of_mem _ (List.mem_cons_of_mem _ N1.out)) | exact hA.zero.sl (List.mem_cons_of_mem _ N1.out) | exact hA.zero.sl (List.mem_cons_of_mem _ (List.mem_cons_of_mem _ N1.out)) | exact hA.zero2.sl (List.mem_cons_of_mem _ (List.mem_cons_of_mem _ N1.out))); (omega); rintro e W0o ⟨ao0, l0, cap0, rfl, hs0, hb⟩; (first | (have hA' := hA.step hb; replace hC := hC.trans (hb.mono hC.size); replace hA := hA'; clear hA') | (have hA' := hA.zero.step hb; have hgz := hC.size; replace hC := (hC.alloc hgz _).trans (hb.mono (Nat.le_trans hgz (by simp))); replace hA := hA'; clear hA') | (have hA' := hA.zero2.step hb; have hgz := hC.size; replace hC := ((hC.alloc hgz _).alloc (Nat.le_trans hgz (by simp)) _).trans (hb.mono (Nat.le_trans hgz (by simp; omega))); replace hA := hA'; clear hA')); clear hb; (try simp only [World.size_drew, World.size_alloc] at hA); (try simp only [World.size_drew, World.size_alloc] at hgz))
            | (go_at_call 15; (with_reducible refine (own_open n2 (.slice a2 ys.length c2) ys _ ?_ ?_).mono ?_); (first | with_reducible exact hA.sl N2.out | with_reducible exact hA.sl (List.mem_cons_of_mem _ N2.out) | with_reducible exact hA.sl (List.mem_cons_of_mem _ (List.mem_cons_of_mem _ N2.out)) | exact hA.zero.sl (List.mem_cons_of_mem _ N2.out) | exact hA.zero.sl (List.mem_cons_of_mem _ (List.mem_cons_of_mem _ N2.out)) | exact hA.zero2.sl (List.mem_cons_of_mem _ (List.mem_cons_of_mem _ N2.out))); (omega); rintro e W1o ⟨ao1, l1, cap1, rfl, hs1, hb⟩; (first | replace hs0 := hs0.below hb | replace hs0 := (hs0.below (below1 _ _)).below hb | replace hs0 := (hs0.below (below2 _ _ _)).below hb); (first | (have hA' := hA.step hb; replace hC := hC.trans (hb.mono hC.size); replace hA := hA'; clear hA') | (have hA' := hA.zero.step hb; have hgz := hC.size; replace hC := (hC.alloc hgz _).trans (hb.mono (Nat.le_trans hgz (by simp))); replace hA := hA'; clear hA') | (have hA' := hA.zero2.step hb; have hgz := hC.size; replace hC := ((hC.alloc hgz _).alloc (Nat.le_trans hgz (by simp)) _).trans (hb.mono (Nat.le_trans hgz (by simp; omega))); replace hA := hA'; clear hA')); clear hb; (try simp only [World.size_alloc] at hA); (try simp only [World.size_alloc] at hgz))
            | (go_at_call 36; (with_reducible refine (modulo_all n1 n2 _ _ xs ys _ ?_ ?_ X1.out X2.out).mono ?_); (first | with_reducible exact hs0 | exact hs0.below (below1 _ _) | exact hs0.below (below2 _ _ _)); (first | with_reducible exact hs1 | exact hs1.below (below1 _ _) | exact hs1.below (below2 _ _ _)); rintro e Wop ⟨m1, ax, lx, cx, q, c, rfl, hsx, hb, hres⟩; have HRES := Lib.hid hres; clear hres; (first | (have hA' := hA.step hb; replace hC := hC.trans (hb.mono hC.size); replace hA := hA'; clear hA') | (have hA' := hA.zero.step hb; have hgz := hC.size; replace hC := (hC.alloc hgz _).trans (hb.mono (Nat.le_trans hgz (by simp))); replace hA := hA'; clear hA') | (have hA' := hA.zero2.step hb; have hgz := hC.size; replace hC := ((hC.alloc hgz _).alloc (Nat.le_trans hgz (by simp)) _).trans (hb.mono (Nat.le_trans hgz (by simp; omega))); replace hA := hA'; clear hA')); clear hb; (try simp only [World.size_alloc] at hA); (try simp only [World.size_alloc] at hgz); (try (have hz0 := hA.facts List.mem_cons_self; obtain ⟨z00, z01, z02, z03⟩ := hz0)); (try (have hz1 := hA.facts (List.mem_cons_of_mem _ List.mem_cons_self); obtain ⟨z10, z11, z12, z13⟩ := hz1)); (try (have hne := hA.ne01; obtain ⟨ne1, ne2⟩ := hne)); (try (have lt0 := hA.old List.mem_cons_self; dsimp only at lt0)); (try (have lt1 := hA.old (List.mem_cons_of_mem _ List.mem_cons_self); dsimp only at lt1))))
        all_goals (go_wp2_with fail; go_meet)
        all_goals unfold MadeE
        all_goals first
          | (with_reducible refine ⟨_, _, m1, ax, lx, cx, q, c, rfl, rfl, hA.push hsx, mem1, List.mem_cons_self, ?_, HRES.out⟩; exact hB.trans (Below.mono (by (have hcs := hC.size; (try simp only [World.size_drew] at hcs); (repeat' (first | with_reducible exact hC | with_reducible exact Below.refl _ _ | refine Below.drew ?_ | refine Below.alloc ?_ ?_ _ | refine Below.setCell ?_ ?_ _)); all_goals (first | omega | (simp only [World.size_drew, World.size_alloc]; omega) | (simp; omega)))) hB.size))
          | (with_reducible refine ⟨_, _, m1, ax, lx, cx, q, c, rfl, rfl, hA.fill0 hsx m1, mem1, List.mem_cons_self, ?_, HRES.out⟩; exact hB.trans (Below.mono (by (have hcs := hC.size; (try simp only [] at hcs); (repeat' (first | with_reducible exact hC | with_reducible exact Below.refl _ _ | refine Below.drew ?_ | refine Below.alloc ?_ ?_ _ | refine Below.setCell ?_ ?_ _)); all_goals (first | omega | (simp only [World.size_alloc]; omega) | (simp; omega)))) hB.size))
      case rest =>
        clear hA hB
        obtain ⟨LL6, gg6, nn6, aa6, ll6, kk6, qq6, cc6, rfl, rfl, hA, hsub6, hmq6, hB, hr6⟩ := hcut
        replace N1 := Lib.hid (hsub6 _ N1.out)
        replace N2 := Lib.hid (hsub6 _ N2.out)
        replace N3 := Lib.hid (hsub6 _ N3.out)
        replace N4 := Lib.hid (hsub6 _ N4.out)
        replace N5 := Lib.hid (hsub6 _ N5.out)
        replace N6 := Lib.hid (hsub6 _ N6.out)
        have N7 := Lib.hid hmq6
        have HR6 := Lib.hid (hr6.good G1.out G2.out GN.out)
        have hc6 := HR6.out.1
        subst hc6
        clear hsub6 hmq6 hr6
        obtain ⟨p0, p1⟩ := hA.cells N7.out
        obtain ⟨p2, p3⟩ := hA.cells N4.out
        go_wp2_with fail
        refine (sub_allo nn6 mm3 _ _ qq6 rr3 _ (hA.sl N7.out) (hA.sl N4.out) HR6.out.2.1.2.1.wide HR3.out.2.2.1.2.1.wide).mono ?_
        rintro e V7 ⟨md, ad, ld, kd, dd, cd, rfl, hsx, hb, hres⟩
        have hYp : 0 < val ys := snd_pos G2.out GN.out
        have hdif : ival nn6 qq6 - ival mm3 rr3 = 0 ∨ ival nn6 qq6 - ival mm3 rr3 = ival n2 ys := by
          rw [HR6.out.2.2, HR3.out.2.2.2.2]
          exact modN_diff n1 n2 (val xs) (val ys)
        obtain ⟨hcd, hsd, hvd⟩ := any_good hres ⟨HR6.out.2.1, HR3.out.2.2.1⟩ (by
          rcases hdif with h | h
          · rw [h]; exact Nat.pow_pos (by omega)
          · rw [h]; exact snd_val_lt G2.out)
        subst hcd
        have HD : Hid (dd = [] ∨ (md = n2 ∧ dd = ys)) := Lib.hid (by
          rcases hdif with h | h
          · exact .inl (ival_zero hsd (hvd.trans h))
          · exact .inr (snd_unique hsd G2.out (hvd.trans h)))
        have HM : Hid (qq6 = [] ∨ nn6 = n2) := Lib.hid (by
          by_cases hq : qq6 = []
          · exact .inl hq
          · exact .inr (modN_sign hYp HR6.out.2.1 HR6.out.2.2 hq))
        have HLT : Hid (val rr3 < val ys) := Lib.hid (by
          have := Nat.mod_lt (val xs) hYp
          have e := HR3.out.2.2.2.2
          have e2 : (ival mm3 rr3).natAbs = (sg n1 (val xs % val ys)).natAbs := by rw [e]
          rw [ival_abs, sg_abs] at e2
          omega)
        have hld := slen hsx
        subst hld
        have hlm := slen (hA.sl N7.out)
        subst hlm
        clear hres hdif hvd hsd p0 p1 p2 p3 hYp
        replace hB := hB.trans (hb.mono hB.size)
        replace hA := (hA.step hb).push (n := md) hsx
        replace hB := hB.alloc hB.size (.cells #[.bool md, .slice ad dd.length kd] 24)
        clear hb hsx
        replace N1 := Lib.hid (mem1 (x := (V7.heap.size, md, .slice ad dd.length kd, dd)) _ N1.out)
        replace N2 := Lib.hid (mem1 (x := (V7.heap.size, md, .slice ad dd.length kd, dd)) _ N2.out)
        replace N3 := Lib.hid (mem1 (x := (V7.heap.size, md, .slice ad dd.length kd, dd)) _ N3.out)
        replace N4 := Lib.hid (mem1 (x := (V7.heap.size, md, .slice ad dd.length kd, dd)) _ N4.out)
        replace N5 := Lib.hid (mem1 (x := (V7.heap.size, md, .slice ad dd.length kd, dd)) _ N5.out)
        replace N6 := Lib.hid (mem1 (x := (V7.heap.size, md, .slice ad dd.length kd, dd)) _ N6.out)
        replace N7 := Lib.hid (mem1 (x := (V7.heap.size, md, .slice ad dd.length kd, dd)) _ N7.out)
        have N8 := Lib.hid (List.mem_cons_self (a := (V7.heap.size, md, Value.slice ad dd.length kd, dd)) (l := LL6))
        generalize hLL7 : (V7.heap.size, md, Value.slice ad dd.length kd, dd) :: LL6 = LL7 at *
        clear hLL7
        obtain ⟨p0, p1⟩ := hA.cells N2.out
        go_wp2_with fail
        refine (own_open n2 _ ys _ (hA.sl N2.out) (by omega)).mono ?_
        rintro e V8 ⟨az, lz, kz, rfl, hsz, hb⟩
        clear p0 p1
        replace hB := hB.trans (hb.mono hB.size)
        replace hA := (hA.step hb).push (n := false) hsz
        replace hB := hB.alloc hB.size (.cells #[.bool false, .slice az lz kz] 24)
        clear hb hsz
        replace N1 := Lib.hid (mem1 (x := (V8.heap.size, false, .slice az lz kz, ys)) _ N1.out)
        replace N2 := Lib.hid (mem1 (x := (V8.heap.size, false, .slice az lz kz, ys)) _ N2.out)
        replace N3 := Lib.hid (mem1 (x := (V8.heap.size, false, .slice az lz kz, ys)) _ N3.out)
        replace N4 := Lib.hid (mem1 (x := (V8.heap.size, false, .slice az lz kz, ys)) _ N4.out)
        replace N5 := Lib.hid (mem1 (x := (V8.heap.size, false, .slice az lz kz, ys)) _ N5.out)
        replace N6 := Lib.hid (mem1 (x := (V8.heap.size, false, .slice az lz kz, ys)) _ N6.out)
        replace N7 := Lib.hid (mem1 (x := (V8.heap.size, false, .slice az lz kz, ys)) _ N7.out)
        replace N8 := Lib.hid (mem1 (x := (V8.heap.size, false, .slice az lz kz, ys)) _ N8.out)
        have N9 := Lib.hid (List.mem_cons_self (a := (V8.heap.size, false, Value.slice az lz kz, ys)) (l := LL7))
        obtain ⟨p0, p1⟩ := hA.cells N4.out
        have hA2 := hA.push (n := false) (hA.sl N4.out)
        have hB2 := hB.alloc hB.size (.cells #[.bool false, .slice ab3 lb3 kb3] 24)
        simp only [World.size_alloc] at hA2
        replace N1 := Lib.hid (mem1 (x := (V8.heap.size + 1, false, .slice ab3 lb3 kb3, rr3)) _ N1.out)
        replace N2 := Lib.hid (mem1 (x := (V8.heap.size + 1, false, .slice ab3 lb3 kb3, rr3)) _ N2.out)
        replace N3 := Lib.hid (mem1 (x := (V8.heap.size + 1, false, .slice ab3 lb3 kb3, rr3)) _ N3.out)
        replace N4 := Lib.hid (mem1 (x := (V8.heap.size + 1, false, .slice ab3 lb3 kb3, rr3)) _ N4.out)
        replace N5 := Lib.hid (mem1 (x := (V8.heap.size + 1, false, .slice ab3 lb3 kb3, rr3)) _ N5.out)
        replace N6 := Lib.hid (mem1 (x := (V8.heap.size + 1, false, .slice ab3 lb3 kb3, rr3)) _ N6.out)
        replace N7 := Lib.hid (mem1 (x := (V8.heap.size + 1, false, .slice ab3 lb3 kb3, rr3)) _ N7.out)
        replace N8 := Lib.hid (mem1 (x := (V8.heap.size + 1, false, .slice ab3 lb3 kb3, rr3)) _ N8.out)
        replace N9 := Lib.hid (mem1 (x := (V8.heap.size + 1, false, .slice ab3 lb3 kb3, rr3)) _ N9.out)
        have N10 := Lib.hid (List.mem_cons_self (a := (V8.heap.size + 1, false, Value.slice ab3 lb3 kb3, rr3)) (l := (V8.heap.size, false, .slice az lz kz, ys) :: LL7))
        obtain ⟨q0, q1⟩ := hA2.cells N6.out
        obtain ⟨q2, q3⟩ := hA2.cells N1.out
        clear hA hB
        have hdc : (dd = [] ∧ ((dd.length : Int) == 0) = true) ∨ ((md = n2 ∧ dd = ys) ∧ ((dd.length : Int) == 0) = false) := by
          by_cases h : dd = []
          · exact .inl ⟨h, by rw [h]; rfl⟩
          · refine .inr ⟨HD.out.resolve_left h, ?_⟩
            have := List.length_pos_iff.2 h
            rw [beq_eq_false_iff_ne]; omega
        have hmc : (((qq6.length : Int) == 0) = true) ∨ ((nn6 == n2) = true ∧ ((qq6.length : Int) == 0) = false) := by
          by_cases h : qq6 = []
          · exact .inl (by rw [h]; rfl)
          · refine .inr ⟨by rw [HM.out.resolve_left h]; cases n2 <;> rfl, ?_⟩
            have := List.length_pos_iff.2 h
            rw [beq_eq_false_iff_ne]; omega
        rcases hdc with ⟨hd1, hd2⟩ | ⟨hd1, hd2⟩
        · clear hd1
          rcases hmc with hm2 | ⟨hm1, hm2⟩
          · go_wp2_with fail
            refine (same_any n1 n1 _ _ xs xs _ (hA2.sl N6.out) (hA2.sl N1.out)).mono ?_
            rintro e V12 ⟨rfl, hb⟩
            rw [sameB_true ⟨rfl, rfl⟩]
            replace hB2 := hB2.trans (hb.mono hB2.size)
            replace hA2 := hA2.step hb
            clear hb q0 q1 q2 q3 p0 p1
            obtain ⟨p0, p1⟩ := hA2.cells N10.out
            obtain ⟨p2, p3⟩ := hA2.cells N9.out
            go_wp2_with fail
            refine (cmp_all false false _ _ rr3 ys _ (hA2.sl N10.out) (hA2.sl N9.out) HR3.out.2.2.1.2.1.wide X2.out).mono ?_
            rintro e V13 ⟨cz, rfl, hb, hcz⟩
            have hcz1 : cz = -1 := by
              rcases hcz with ⟨_, rfl⟩ | ⟨h, _⟩
              · have := HLT.out
                unfold cmpZ ival
                rw [if_pos (by simp; omega)]
              · exact absurd ⟨snd_unsigned HR3.out.2.2.1, snd_unsigned G2.out⟩ h
            subst hcz1
            clear hcz p0 p1 p2 p3
            replace hB2 := hB2.trans (hb.mono hB2.size)
            replace hA2 := hA2.step hb
            clear hb
            obtain ⟨p0, p1⟩ := hA2.cells N8.out
            obtain ⟨p2, p3⟩ := hA2.cells N2.out
            obtain ⟨p4, p5⟩ := hA2.cells N7.out
            go_wp2
            go_ret
            exact ⟨rfl, hB2⟩
          · go_wp2_with fail
            refine (same_any n1 n1 _ _ xs xs _ (hA2.sl N6.out) (hA2.sl N1.out)).mono ?_
            rintro e V12 ⟨rfl, hb⟩
            rw [sameB_true ⟨rfl, rfl⟩]
            replace hB2 := hB2.trans (hb.mono hB2.size)
            replace hA2 := hA2.step hb
            clear hb q0 q1 q2 q3 p0 p1
            obtain ⟨p0, p1⟩ := hA2.cells N10.out
            obtain ⟨p2, p3⟩ := hA2.cells N9.out
            go_wp2_with fail
            refine (cmp_all false false _ _ rr3 ys _ (hA2.sl N10.out) (hA2.sl N9.out) HR3.out.2.2.1.2.1.wide X2.out).mono ?_
            rintro e V13 ⟨cz, rfl, hb, hcz⟩
            have hcz1 : cz = -1 := by
              rcases hcz with ⟨_, rfl⟩ | ⟨h, _⟩
              · have := HLT.out
                unfold cmpZ ival
                rw [if_pos (by simp; omega)]
              · exact absurd ⟨snd_unsigned HR3.out.2.2.1, snd_unsigned G2.out⟩ h
            subst hcz1
            clear hcz p0 p1 p2 p3
            replace hB2 := hB2.trans (hb.mono hB2.size)
            replace hA2 := hA2.step hb
            clear hb
            obtain ⟨p0, p1⟩ := hA2.cells N8.out
            obtain ⟨p2, p3⟩ := hA2.cells N2.out
            obtain ⟨p4, p5⟩ := hA2.cells N7.out
            go_wp2
            go_ret
            exact ⟨rfl, hB2⟩
        · have HDE := Lib.hid hd1
          clear hd1
          rcases hmc with hm2 | ⟨hm1, hm2⟩
          · go_wp2_with fail
            refine (same_any n1 n1 _ _ xs xs _ (hA2.sl N6.out) (hA2.sl N1.out)).mono ?_
            rintro e V12 ⟨rfl, hb⟩
            rw [sameB_true ⟨rfl, rfl⟩]
            replace hB2 := hB2.trans (hb.mono hB2.size)
            replace hA2 := hA2.step hb
            clear hb q0 q1 q2 q3 p0 p1
            obtain ⟨p0, p1⟩ := hA2.cells N10.out
            obtain ⟨p2, p3⟩ := hA2.cells N9.out
            go_wp2_with fail
            refine (cmp_all false false _ _ rr3 ys _ (hA2.sl N10.out) (hA2.sl N9.out) HR3.out.2.2.1.2.1.wide X2.out).mono ?_
            rintro e V13 ⟨cz, rfl, hb, hcz⟩
            have hcz1 : cz = -1 := by
              rcases hcz with ⟨_, rfl⟩ | ⟨h, _⟩
              · have := HLT.out
                unfold cmpZ ival
                rw [if_pos (by simp; omega)]
              · exact absurd ⟨snd_unsigned HR3.out.2.2.1, snd_unsigned G2.out⟩ h
            subst hcz1
            clear hcz p0 p1 p2 p3
            replace hB2 := hB2.trans (hb.mono hB2.size)
            replace hA2 := hA2.step hb
            clear hb
            obtain ⟨p0, p1⟩ := hA2.cells N8.out
            obtain ⟨p2, p3⟩ := hA2.cells N2.out
            obtain ⟨p4, p5⟩ := hA2.cells N7.out
            go_wp2_with fail
            refine (same_any _ n2 _ _ _ ys _ (hA2.sl N8.out) (hA2.sl N2.out)).mono ?_
            rintro e V14 ⟨rfl, hb⟩
            rw [sameB_true HDE.out]
            replace hB2 := hB2.trans (hb.mono hB2.size)
            replace hA2 := hA2.step hb
            clear hb p0 p1 p2 p3 p4 p5
            obtain ⟨p2, p3⟩ := hA2.cells N2.out
            obtain ⟨p4, p5⟩ := hA2.cells N7.out
            go_wp2
            go_ret
            exact ⟨rfl, hB2⟩
          · go_wp2_with fail
            refine (same_any n1 n1 _ _ xs xs _ (hA2.sl N6.out) (hA2.sl N1.out)).mono ?_
            rintro e V12 ⟨rfl, hb⟩
            rw [sameB_true ⟨rfl, rfl⟩]
            replace hB2 := hB2.trans (hb.mono hB2.size)
            replace hA2 := hA2.step hb
            clear hb q0 q1 q2 q3 p0 p1
            obtain ⟨p0, p1⟩ := hA2.cells N10.out
            obtain ⟨p2, p3⟩ := hA2.cells N9.out
            go_wp2_with fail
            refine (cmp_all false false _ _ rr3 ys _ (hA2.sl N10.out) (hA2.sl N9.out) HR3.out.2.2.1.2.1.wide X2.out).mono ?_
            rintro e V13 ⟨cz, rfl, hb, hcz⟩
            have hcz1 : cz = -1 := by
              rcases hcz with ⟨_, rfl⟩ | ⟨h, _⟩
              · have := HLT.out
                unfold cmpZ ival
                rw [if_pos (by simp; omega)]
              · exact absurd ⟨snd_unsigned HR3.out.2.2.1, snd_unsigned G2.out⟩ h
            subst hcz1
            clear hcz p0 p1 p2 p3
            replace hB2 := hB2.trans (hb.mono hB2.size)
            replace hA2 := hA2.step hb
            clear hb
            obtain ⟨p0, p1⟩ := hA2.cells N8.out
            obtain ⟨p2, p3⟩ := hA2.cells N2.out
            obtain ⟨p4, p5⟩ := hA2.cells N7.out
            go_wp2_with fail
            refine (same_any _ n2 _ _ _ ys _ (hA2.sl N8.out) (hA2.sl N2.out)).mono ?_
            rintro e V14 ⟨rfl, hb⟩
            rw [sameB_true HDE.out]
            replace hB2 := hB2.trans (hb.mono hB2.size)
            replace hA2 := hA2.step hb
            clear hb p0 p1 p2 p3 p4 p5
            obtain ⟨p2, p3⟩ := hA2.cells N2.out
            obtain ⟨p4, p5⟩ := hA2.cells N7.out
            go_wp2
            go_ret
            exact ⟨rfl, hB2⟩

theorem whole_any (n1 n2 : Bool) (a1 a2 : Option Addr) (c1 c2 : Nat) (xs ys : List Nat) (w : World) (ht : Pow10 w)
    (hs1 : Sl .u32 w (.slice a1 xs.length c1) xs) (hs2 : Sl .u32 w (.slice a2 ys.length c2) ys) (hx : ∀ i, limb xs i < 4294967296) (hy : ∀ i, limb ys i < 4294967296) :
    Calls Tryd.prog 8 #[.agg #[.bool n1, .slice a1 xs.length c1], .agg #[.bool n2, .slice a2 ys.length c2]] w (TruePost w) := by
  by_cases g1 : Snd n1 xs
  · by_cases g2 : Snd n2 ys
    · by_cases hne : ys = []
      · exact whole_out3 n1 n2 a1 a2 c1 c2 xs ys w ht hs1 hs2 hx hy g1 g2 hne
      · exact whole_in n1 n2 a1 a2 c1 c2 xs ys w ht hs1 hs2 hx hy g1 g2 hne
    · exact whole_out2 n1 n2 a1 a2 c1 c2 xs ys w ht hs1 hs2 hx hy g1 g2
  · exact whole_out1 n1 n2 a1 a2 c1 c2 xs ys w ht hs1 hs2 hx hy g1
end Go.Proofs.YtiekhjgfnmochaaDoor
