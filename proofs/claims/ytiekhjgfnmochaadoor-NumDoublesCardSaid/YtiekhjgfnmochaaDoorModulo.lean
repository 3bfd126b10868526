/- num.Modulo -/
import Derived.Test.YtiekhjgfnmochaaDoorDivAll
import Derived.Test.YtiekhjgfnmochaaDoorAnyOps
namespace Go.Proofs.YtiekhjgfnmochaaDoor
open Go.RowKit
open DV

theorem slen {w : World} {a : Option Addr} {l c : Nat} {xs : List Nat} (h : Sl .u32 w (.slice a l c) xs) : l = xs.length := by
  obtain ⟨_, _, _, hv, _, _⟩ := h
  simp only [Value.slice.injEq] at hv
  exact hv.2.1

set_option maxRecDepth 100000 in
set_option maxHeartbeats 4000000 in
theorem modulo_all (n1 n2 : Bool) (s1 s2 : Value) (xs ys : List Nat) (w : World) (hs1 : Sl .u32 w s1 xs) (hs2 : Sl .u32 w s2 ys) (hx : ∀ i, limb xs i < 4294967296) (hy : ∀ i, limb ys i < 4294967296) :
    Calls Tryd.prog 36 #[.agg #[.bool n1, s1], .agg #[.bool n2, s2]] w (ModV n1 n2 xs ys w) := by
  have HS1 := Lib.hid hs1
  have HS2 := Lib.hid hs2
  obtain ⟨q1, ao1, cap1, rfl, hcap1, q2⟩ := hs1
  obtain ⟨q3, ao2, cap2, rfl, hcap2, q4⟩ := hs2
  clear q1 q2 q3 q4
  have HX := Lib.hid hx; clear hx
  have HY := Lib.hid hy; clear hy
  have hA0 := (Env.nil w).push (n := n1) HS1.out
  have hA1 := hA0.push (n := n2) (HS2.out.below (below1 w (.cells #[.bool n1, .slice ao1 xs.length cap1] 24)))
  have hA := Lib.hid (hA1.alloc (.cells #[.bool false, .slice none 0 0] 24))
  have hB := Lib.hid ((below2 w (.cells #[.bool n1, .slice ao1 xs.length cap1] 24) (.cells #[.bool n2, .slice ao2 ys.length cap2] 24)).alloc (by simp; omega) (.cells #[.bool false, .slice none 0 0] 24))
  have hQ := Lib.hid (ZB.new ((w.alloc (.cells #[.bool n1, .slice ao1 xs.length cap1] 24)).alloc (.cells #[.bool n2, .slice ao2 ys.length cap2] 24)))
  simp only [World.size_alloc] at hA hQ
  clear hA0 hA1
  go_enter Tryd.func36, Tryd.ntmps36
  go_wp2_with fail
  generalize (((w.alloc (.cells #[.bool n1, .slice ao1 xs.length cap1] 24)).alloc (.cells #[.bool n2, .slice ao2 ys.length cap2] 24)).alloc (.cells #[.bool false, .slice none 0 0] 24)) = W at *
  replace hA := hA.out
  replace hB := hB.out
  replace hQ := hQ.out
  have M1 : Hid ((w.heap.size, n1, Value.slice ao1 xs.length cap1, xs) ∈ [(w.heap.size + 1, n2, Value.slice ao2 ys.length cap2, ys), (w.heap.size, n1, Value.slice ao1 xs.length cap1, xs)]) := Lib.hid (by simp)
  have M2 : Hid ((w.heap.size + 1, n2, Value.slice ao2 ys.length cap2, ys) ∈ [(w.heap.size + 1, n2, Value.slice ao2 ys.length cap2, ys), (w.heap.size, n1, Value.slice ao1 xs.length cap1, xs)]) := Lib.hid (by simp)
  obtain ⟨p0, p1⟩ := hA.cells M1.out
  obtain ⟨p2, p3⟩ := hA.cells M2.out
  refine (divide_all n1 n2 _ _ xs ys _ (hA.sl M1.out) (hA.sl M2.out) HX.out HY.out).mono ?_
  rintro e w1 ⟨m1, a1, l1, c1, q, m2, a2, l2, c2, r, c, rfl, hsq, hsr, hb, hres⟩
  have hb0 := hb
  replace hB := hB.trans (hb.mono hB.size)
  replace hA := hA.step hb
  replace hQ := hQ.step hb
  clear hb hb0 p0 p1 p2 p3
  have hA2 := (hA.push (n := m1) hsq).push (n := m2) (hsr.below (below1 w1 _))
  have hQ2 := (hQ.alloc (.cells #[.bool m1, .slice a1 l1 c1] 24)).alloc (.cells #[.bool m2, .slice a2 l2 c2] 24)
  have hB2 := (hB.alloc hB.size (.cells #[.bool m1, .slice a1 l1 c1] 24)).alloc (by have := hB.size; simp; omega) (.cells #[.bool m2, .slice a2 l2 c2] 24)
  simp only [World.size_alloc] at hA2
  have hl := slen hsr
  have g1 := hQ.lt
  clear hsq hsr hA hB hQ
  obtain ⟨x0, x1⟩ := hA2.cells List.mem_cons_self
  obtain ⟨y0, y1⟩ := hA2.cells (List.mem_cons_of_mem _ (List.mem_cons_of_mem _ M2.out))
  obtain ⟨z0, z1, z2, z3⟩ := hQ2.facts
  have HSR := Lib.hid (hA2.sl List.mem_cons_self)
  have HSB := Lib.hid (hA2.sl (List.mem_cons_of_mem _ (List.mem_cons_of_mem _ M2.out)))
  have HRES := Lib.hid hres
  have k1 : ¬ (w.heap.size + 1 + 1 = w1.heap.size) := by omega
  have k2 : ¬ (w1.heap.size = w.heap.size + 1 + 1) := by omega
  have k3 : ¬ (w.heap.size + 1 + 1 = w1.heap.size + 1) := by omega
  have k4 : ¬ (w1.heap.size + 1 = w.heap.size + 1 + 1) := by omega
  have hB2 := Lib.hid hB2
  have hA2 := Lib.hid hA2
  have hQ2 := Lib.hid hQ2
  by_cases hc0 : c = 0
  · subst hc0
    subst hl
    have hrs : Snd m2 r ∧ Snd n2 ys := by
      rcases hres with ⟨g, _, _, _, g2, _⟩ | ⟨_, _, h, _⟩ | ⟨_, h, _⟩
      · exact ⟨g2, g.2⟩
      · cases h
      · cases h
    clear hres
    by_cases hr : r = []
    · have hl0 : ((r.length : Int) == 0) = true := by rw [hr]; rfl
      have hl1 : r.length ≤ 0 := by rw [hr]; exact Nat.le_refl _
      have HM := Lib.hid (ModR.rest HRES.out (.inl hr))
      clear hrs hr
      go_wp2_with fail
      skip
      refine bodyPost_ret (v := .tuple #[.agg #[.bool m2, .slice a2 r.length c2], .int .i64 0]) (by simp [results, Tryd.results36, go_sem, z0, z1]) rfl ?_
      exact ⟨m2, a2, _, c2, r, 0, rfl, HSR.out.box hQ2.out _ _, (hB2.out.setCell (by simp; omega) _).setCell (by simp; omega) _, HM.out⟩
    · have hl0 : ((r.length : Int) == 0) = false := by
        have := List.length_pos_iff.2 hr
        rw [beq_eq_false_iff_ne]; omega
      have hl1 : 0 < r.length := List.length_pos_iff.2 hr
      by_cases hm : m2 = n2
      · have HM := Lib.hid (ModR.rest HRES.out (.inr hm))
        subst hm
        have he : (m2 == m2) = true := by cases m2 <;> rfl
        have he2 : (m2 != m2) = false := by cases m2 <;> rfl
        clear hrs hr
        go_wp2_with fail
        skip
        refine bodyPost_ret (v := .tuple #[.agg #[.bool m2, .slice a2 r.length c2], .int .i64 0]) (by simp [results, Tryd.results36, go_sem, z0, z1]) rfl ?_
        exact ⟨m2, a2, _, c2, r, 0, rfl, HSR.out.box hQ2.out _ _, (hB2.out.setCell (by simp; omega) _).setCell (by simp; omega) _, HM.out⟩
      · have he : (m2 == n2) = false := by revert hm; cases m2 <;> cases n2 <;> simp
        have he2 : (m2 != n2) = true := by revert hm; cases m2 <;> cases n2 <;> simp
        have HM := Lib.hid fun (m3 : Bool) (s : List Nat) (c : Int) h => ModR.more (m3 := m3) (s := s) (c := c) HRES.out hr hm h
        have HRS := Lib.hid hrs
        clear hrs hr hm
        go_wp2_with fail
        refine (add_all m2 n2 _ _ r ys _ HSR.out HSB.out HRS.out.1.2.1.wide HRS.out.2.2.1.wide).mono ?_
        rintro e w3 ⟨v3, m3, s3, c3, rfl, ⟨sv3, rfl, hs3⟩, hb3, hres3⟩
        have hQ3 := hQ2.out.step hb3
        have hB3 := Lib.hid (hB2.out.trans (hb3.mono hB2.out.size))
        have HM3 := Lib.hid (HM.out m3 s3 c3 hres3)
        have HS3 := Lib.hid hs3
        obtain ⟨_, a3, cap3, rfl, _, _⟩ := hs3
        clear x0 x1 y0 y1 z0 z1 z2 z3 hres3 hb3
        obtain ⟨z0, z1, z2, z3⟩ := hQ3.facts
        have HQ3 := Lib.hid hQ3; clear hQ3
        go_wp2_with fail
        refine bodyPost_ret (v := .tuple #[.agg #[.bool m3, .slice a3 s3.length cap3], .int .i64 c3]) (by simp [results, Tryd.results36, go_sem, z0, z1]) rfl ?_
        exact ⟨m3, a3, _, cap3, s3, c3, rfl, HS3.out.box HQ3.out _ _, (hB3.out.setCell (by simp; omega) _).setCell (by simp; omega) _, HM3.out⟩
  · subst hl
    have hcb : (c != 0) = true := by rw [bne_iff_ne]; exact hc0
    have HM : Hid (ModR n1 n2 xs ys c false []) := Lib.hid (by
      rcases hres with ⟨_, _, h, _⟩ | ⟨g, h, rfl, _⟩ | ⟨g, rfl, _⟩
      · exact absurd h hc0
      · exact .inr (.inl ⟨g, h, rfl, rfl, rfl⟩)
      · exact .inr (.inr ⟨g, rfl, rfl, rfl⟩))
    clear hres hc0
    go_wp2_with fail
    refine bodyPost_ret (v := .tuple #[.agg #[.bool false, .slice none 0 0], .int .i64 c]) (by simp [results, Tryd.results36, go_sem, z0, z1]) rfl ?_
    exact ⟨false, none, 0, 0, [], c, rfl, Sl.nil _ _, by first | exact hB2.out | exact (hB2.out.setCell (by simp; omega) _).setCell (by simp; omega) _, HM.out⟩
end Go.Proofs.YtiekhjgfnmochaaDoor
