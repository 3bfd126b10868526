/- NumDoubles, walked -/
import Derived.Test.YtiekhjgfnmochaaDoorDoubMath
import Derived.Test.YtiekhjgfnmochaaDoorROf
import Derived.Test.YtiekhjgfnmochaaDoorModulo
import Derived.Deep.AppendLies
import Derived.Deep.RegionHeld3
namespace Go.Proofs.YtiekhjgfnmochaaDoor
open Go.RowKit

/-- One box's slice is turned. -/
theorem env_slice {W W' : World} {B g : Nat} {neg : Bool} {s0 v : Value} {xs0 xs : List Nat} (h : EnvD [(g, neg, s0, xs0)] W) (hb : Below B W W') (hg : g < B) (hs : Sl .u32 W' v xs) (hne : ∀ b off l c, v = .slice (some ⟨b, off, none⟩) l c → g ≠ b) :
    EnvD [(g, neg, v, xs)] (W'.setCell ⟨g, 1, none⟩ v) := by
  have h0 := (h.1 _ _ _ _ (List.mem_singleton.2 rfl)).1
  refine ⟨fun g' n' s' xs' hm => ?_, List.pairwise_singleton _ _⟩
  simp only [List.mem_singleton, Prod.mk.injEq] at hm
  obtain ⟨rfl, rfl, rfl, rfl⟩ := hm
  have h1 : W'.heap[g']? = some (.cells #[.bool n', s0] 24 (0, 0)) := (hb.block g' hg).trans h0
  refine ⟨?_, ?_, by have := (Array.getElem?_eq_some_iff.1 h1).1; simpa using this⟩
  · simp only [World.setCell, Array.getElem?_modify]
    simp [h1]
  · obtain ⟨hm, ao, cap, rfl, hc, hh⟩ := hs
    refine ⟨hm, ao, cap, rfl, hc, ?_⟩
    rcases hh with hh | ⟨b, off, rfl, hlt, hcell⟩
    · exact .inl hh
    · refine .inr ⟨b, off, rfl, by simpa using hlt, fun j hj => ?_⟩
      rw [cell_other (by simpa using (hne b off _ _ rfl).symm)]
      exact hcell j hj
/-- Behind the first three lines: x's box. -/
def Dbl0 (g : Nat) (neg : Bool) (n : Nat) (w W : World) : Prop := ∃ ao l cap, EnvD [(g, neg, .slice ao l cap, firstN n)] W ∧ Below w.heap.size w W

set_option maxRecDepth 100000 in
set_option maxHeartbeats 4000000 in
theorem doubles_any (n : Nat) (neg : Bool) (w : World) (ht : Pow10 w) (hn : n ≤ 65535) :
    Calls Tryd.prog 11 #[.int .u16 (n : Nat), .bool neg] w (TruePost w) := by
  obtain ⟨i0, hi, hz0, hz1, hz2⟩ := info_parts infoU32
  have HT := Lib.hid ht; clear ht
  go_enter Tryd.func11, Tryd.ntmps11
  go_wp2_with fail
  refine (rof_any _ _ (by omega) (by omega)).mono ?_
  rintro e w1 ⟨v1, m1, r1, rfl, ⟨s1, rfl, hs1⟩, hb1, hsn1, hv1⟩
  obtain ⟨rfl, rfl⟩ := one_list hn hsn1 hv1
  have HS1 := Lib.hid hs1
  obtain ⟨_, ao1, cap1, rfl, _, _⟩ := hs1
  clear hsn1 hv1
  go_wp2_with fail
  have hA1 := (EnvD.nil w1).push (n := neg) HS1.out
  have hB1 := hb1.alloc hb1.size (.cells #[.bool neg, .slice ao1 [n + 1].length cap1] 24)
  have hg5 := hb1.size
  have hl5 : w1.heap.size < (w1.alloc (.cells #[.bool neg, .slice ao1 [n + 1].length cap1] 24)).heap.size := by simp
  obtain ⟨p0, p1, p2, p3⟩ := hA1.facts List.mem_cons_self
  have HS2 := hA1.sl List.mem_cons_self
  generalize hW2 : w1.alloc (.cells #[.bool neg, .slice ao1 [n + 1].length cap1] 24) = W2 at *
  obtain ⟨W3, hrun0, hown0, hgrow0⟩ := run_make_full (P := Tryd.prog) W2.drew W2.heap.size 22 52 i0 (.int .u32 0) 1 Tryd.underlying22 hi hz0 hz1 .i64 .i64 60 (by rw [hz2]; omega) (by unfold maxLen; omega) (Nat.le_refl _)
  have hrun : (Instr.makeSlice 22 (.int .i64 60) (.int .i64 60)).run Tryd.prog W2.drew = .ok (.slice (some ⟨W2.heap.size, 0, none⟩) 60 60) W3 := hrun0
  have hown : W3.ownsRow W2.heap.size 52 1 (.slice (some ⟨W2.heap.size, 0, none⟩) 60 60) 60 ((List.replicate 60 0).map fun (x : Nat) => Value.int .u32 (x : Int)) := by
    have e : (Value.int .u32 0).cells = #[Value.int .u32 0] := rfl
    have h : W3.ownsRow W2.heap.size 52 1 (.slice (some ⟨W2.heap.size, 0, none⟩) 60 60) 60 (madeCells (Value.int .u32 0).cells (60 * 1)).toList := hown0
    rw [Nat.mul_one, e, toList_madeCells_one] at h
    simpa using h
  have hb3 : Below W2.heap.size W2.drew W3 := (Below.refl _ W2.drew).grown hgrow0 (Nat.le_refl _) (fun _ h => by cases h)
  have q1 : W3.cell? ⟨w1.heap.size, 1, none⟩ = some (.slice ao1 [n + 1].length cap1) := by rw [hb3.cell (p := ⟨w1.heap.size, 1, none⟩) hl5]; exact p1
  obtain ⟨b1, o1, rfl, hb1l, hc1⟩ := sl_cells HS2 (show 0 < [n + 1].length by simp)
  have hnews : ∀ j u, [Value.int .u32 ((n + 1 : Nat) : Int)][j]? = some u → W3.cell? ((⟨b1, o1, none⟩ : Addr).add j) = some u := by
    intro j u hu
    have hj : j = 0 := by have := (List.getElem?_eq_some_iff.1 hu).1; simp at this; omega
    subst hj
    rw [Addr.add_lit, hb3.cell (p := ⟨b1, o1 + 0, none⟩) hb1l]
    have e : limb [n + 1] 0 = n + 1 := rfl
    rw [e] at hc1
    simp at hu
    rw [← hu]
    exact hc1
  have HN := Lib.hid hnews
  have HO := Lib.hid hown
  have HB3 := Lib.hid hb3
  have HA1 := Lib.hid hA1
  clear hnews hown hown0 hrun0 hgrow0 hb3 hc1 HS2 hA1 HS1
  go_upto_region 3 with fail
  go_cut [] (fun wx => Dbl0 w1.heap.size neg n w wx)
  case first =>
    go_region_law
      ((refine step_append_lies _ (by rfl) _ _ _ (by rfl) W2.heap.size 52 i0 _ 1 4 Tryd.underlying22 hi hz0 hz1 hz2 rfl (by omega) (.slice (some ⟨W2.heap.size, 0, none⟩) 60 60) 60 _ (by rfl) HO.out ⟨b1, o1, none⟩ 1 cap1 [Value.int .u32 ((n + 1 : Nat) : Int)] (by rfl) (by rfl) HN.out (by intro u hu; rw [List.mem_singleton] at hu; subst hu; rfl) (by omega) (by unfold maxLen; omega) (by omega) (Nat.le_of_lt (HO.out.lt _ rfl).2) W3.heap.size rfl ?_; intro g cap w4 hown4 hgrow4 hat hlt; have hb4 : Below W2.heap.size W2.drew w4 := HB3.out.grown hgrow4 (Nat.le_of_lt (HO.out.lt _ rfl).2) (fun k hk => (HO.out.lt k hk).1); have y1 : w4.cell? ⟨w1.heap.size, 1, none⟩ = some (.slice (some ⟨b1, o1, none⟩) [n + 1].length cap1) := (by rw [hb4.cell (p := ⟨w1.heap.size, 1, none⟩) hl5]; exact p1); have y3 : w4.frozen? ⟨w1.heap.size, 1, none⟩ = false := (by rw [hb4.frozen (p := ⟨w1.heap.size, 1, none⟩) hl5]; exact p3)))
    all_goals (go_wp2_with fail; go_meet)
    all_goals
      have e1 : (List.map (fun (x : Nat) => Value.int .u32 (x : Int)) (List.replicate 60 0) ++ [Value.int .u32 ((n + 1 : Nat) : Int)]) = (firstN n).map fun (x : Nat) => Value.int .u32 (x : Int) := by simp [firstN]
      have hsl : Sl .u32 w4 (.slice (some ⟨g, 0, none⟩) 61 cap) (firstN n) := by
        rw [e1] at hown4
        exact owns_sl hown4
      refine ⟨some ⟨g, 0, none⟩, 61, cap, env_slice HA1.out ((Below.refl W2.heap.size W2).drew.trans hb4) hl5 hsl ?_, ?_⟩
      · intro b off l c hv
        simp only [Value.slice.injEq, Option.some.injEq, Addr.mk.injEq] at hv
        have := (hown4.lt g rfl).1
        omega
      · exact (hB1.trans (((Below.refl W2.heap.size W2).drew.trans hb4).mono hB1.size)).setCell hg5 _
  case rest =>
    clear p0 p1 p2 p3 q1 hrun HN HO HB3 HA1 hW2 hB1 hl5 hb1l hb1 hi hz0 hz1 hz2
    obtain ⟨ao, l, cap, hA, hB⟩ := hcut
    have hfl : (firstN n).length = 61 := by simp [firstN]
    have hl := slen (hA.sl List.mem_cons_self)
    rw [hfl] at hl
    subst hl
    go_wp2_with fail
    refine (answers_any _ (HT.out.below hB)).mono ?_
    rintro e V1 ⟨rfl, hb⟩
    replace hB := hB.trans (hb.mono hB.size)
    replace hA := hA.step hb
    clear hb
    obtain ⟨p0, p1⟩ := hA.cells List.mem_cons_self
    go_wp2_with fail
    refine (own_open neg _ (firstN n) _ (hA.sl List.mem_cons_self) (by omega)).mono ?_
    rintro e V2 ⟨af, lf, kf, rfl, hsf, hb⟩
    clear p0 p1
    replace hB := hB.trans (hb.mono hB.size)
    replace hA := (hA.step hb).push (n := neg) hsf
    replace hB := hB.alloc hB.size (.cells #[.bool neg, .slice af lf kf] 24)
    clear hb hsf
    go_wp2_with fail
    refine (rof_any 2 _ (by omega) (by omega)).mono ?_
    rintro e V3 ⟨v3, m3, r3, rfl, ⟨s3, rfl, hs3⟩, hb, hsn3, hv3⟩
    obtain ⟨rfl, rfl⟩ := two_list hsn3 hv3
    have HS3 := hs3
    obtain ⟨_, a3, c3, rfl, _, _⟩ := hs3
    replace hB := hB.trans (hb.mono hB.size)
    replace hA := (hA.step hb).push (n := false) HS3
    replace hB := hB.alloc hB.size (.cells #[.bool false, .slice a3 [2].length c3] 24)
    clear hb hsn3 hv3 HS3
    have M1 := Lib.hid (List.mem_cons_of_mem (V3.heap.size, false, Value.slice a3 [2].length c3, [2]) (List.mem_cons_of_mem (V2.heap.size, neg, Value.slice af lf kf, firstN n) (List.mem_cons_self (a := (w1.heap.size, neg, Value.slice ao 61 cap, firstN n)) (l := []))))
    have M2 := Lib.hid (List.mem_cons_of_mem (V3.heap.size, false, Value.slice a3 [2].length c3, [2]) (List.mem_cons_self (a := (V2.heap.size, neg, Value.slice af lf kf, firstN n)) (l := [(w1.heap.size, neg, Value.slice ao 61 cap, firstN n)])))
    have M3 := Lib.hid (List.mem_cons_self (a := (V3.heap.size, false, Value.slice a3 [2].length c3, [2])) (l := [(V2.heap.size, neg, Value.slice af lf kf, firstN n), (w1.heap.size, neg, Value.slice ao 61 cap, firstN n)]))
    go_wp2_with fail
    have hp := hA.2
    have hlt1 : w1.heap.size < V2.heap.size := (List.pairwise_cons.1 (List.pairwise_cons.1 hp).2).1 _ List.mem_cons_self
    have hlt2 : V2.heap.size < V3.heap.size := (List.pairwise_cons.1 hp).1 _ List.mem_cons_self
    clear hp
    obtain ⟨X, hX⟩ : ∃ X, X = (n + 1) * 1000000000 ^ 60 := ⟨_, rfl⟩
    have HX1 : Hid (1000000000 ^ 60 ≤ X) := Lib.hid (by rw [hX]; exact Nat.le_mul_of_pos_left _ (by omega))
    have HX2 : Hid (X ≤ 65536 * 1000000000 ^ 60) := Lib.hid (by rw [hX]; exact Nat.mul_le_mul_right _ (by omega))
    have HX0 : Hid (0 < X) := Lib.hid (Nat.lt_of_lt_of_le (Nat.pow_pos (by omega)) HX1.out)
    have HF : Hid (Snd neg (firstN n)) := Lib.hid (firstN_snd hn neg)
    have HFV : Hid (val (firstN n) = X) := Lib.hid (by rw [hX]; exact firstN_val n)
    have HD0 : Hid (Dbl neg X 0 (firstN n)) := Lib.hid ⟨HF.out, by rw [HFV.out]; omega⟩
    have HW2 : Hid (∀ i, limb [2] i < 4294967296) := Lib.hid snd_two.2.1.wide
    clear hX
    generalize hLL : [(V3.heap.size, false, Value.slice a3 [2].length c3, [2]), (V2.heap.size, neg, Value.slice af lf kf, firstN n), (w1.heap.size, neg, Value.slice ao 61 cap, firstN n)] = LL at *
    clear hLL hfl
    generalize w1.heap.size = G5 at *
    generalize V2.heap.size = G6 at *
    generalize V3.heap.size = G7 at *
    go_loopw [8] (fun t wr => ∃ (k : Nat) (L : List Ent) (rs : List Nat) (ax : Option Addr) (lx cx : Nat), t = .int .i64 (k : Nat) ∧ EnvD L wr ∧ (G5, neg, .slice ax lx cx, rs) ∈ L ∧ (G6, neg, .slice af lf kf, firstN n) ∈ L ∧ (G7, false, .slice a3 [2].length c3, [2]) ∈ L ∧ Dbl neg X k rs ∧ Below w.heap.size w wr) (fun t _ => 300 - (intOf t).toNat)
    case atStart => exact ⟨0, LL, firstN n, ao, 61, cap, rfl, hA, M1.out, M2.out, M3.out, HD0.out, hB⟩
    case round =>
      clear hA hB M1 M2 M3 HD0
      obtain ⟨k, L, rs, ax, lx, cx, rfl, hA, m1, m2, m3, hd, hB⟩ := hrel
      have N1 := Lib.hid m1
      have N2 := Lib.hid m2
      have N3 := Lib.hid m3
      have HD := Lib.hid hd
      have hk := hd.less HX1.out
      have hk3 : (k : Int) < 300 := by omega
      have hrl : rs.length ≤ 64 := hd.snd.1
      have HW := Lib.hid hd.snd.2.1.wide
      have hlx := slen (hA.sl m1)
      subst hlx
      clear m1 m2 m3 hd
      go_upto_region 10 with fail
      go_cut [9, 10] from 33 to 71 (fun s1 s2 wx => MadeE (fun c n q => ((Snd neg rs ∧ Snd neg rs) ∧ c = 0 ∧ Snd n q ∧ ival n q = ival neg rs + ival neg rs) ∨ ((Snd neg rs ∧ Snd neg rs) ∧ c = 6 ∧ n = false ∧ q = [] ∧ 1000000000 ^ 64 ≤ (ival neg rs + ival neg rs).natAbs) ∨ (¬ ((Snd neg rs ∧ Snd neg rs)) ∧ c = 2 ∧ n = false ∧ q = [])) L w s1 s2 wx)
      case first =>
        have hE0 := hA
        have hC := hA.start.drew
        replace hA := hA.drew
        go_region_held3 (fun W' => W'.cell? ⟨G5, 0, none⟩ = some (.bool neg) ∧ W'.cell? ⟨G5, 1, none⟩ = some (.slice ax rs.length cx) ∧ W'.cell? ⟨G5, 0, none⟩ = some (.bool neg) ∧ W'.cell? ⟨G5, 1, none⟩ = some (.slice ax rs.length cx))
          ((refine (fun (hk : Below _ _ _) => ⟨((hE0.held hk).cells N1.out).1, ((hE0.held hk).cells N1.out).2, ((hE0.held hk).cells N1.out).1, ((hE0.held hk).cells N1.out).2⟩) ?_; (have hcs := hC.size; (try simp only [World.size_drew] at hcs); (repeat' (first | with_reducible exact hC | with_reducible exact Below.refl _ _ | refine Below.drew ?_ | refine Below.alloc ?_ ?_ _ | refine Below.setCell ?_ ?_ _)); all_goals (first | omega | (simp only [World.size_drew, World.size_alloc]; omega) | (simp; omega)))))
          (first
            | (have hgd := hs0; clear hgd; go_at_call 15; (with_reducible refine (own_open neg (.slice ax rs.length cx) rs _ ?_ ?_).mono ?_); (first | with_reducible exact hA.sl N1.out | with_reducible exact hA.sl (List.mem_cons_of_mem _ N1.out) | with_reducible exact hA.sl (List.mem_cons_of_mem _ (List.mem_cons_of_mem _ N1.out)) | exact hA.zero.sl (List.mem_cons_of_mem _ N1.out) | exact hA.zero.sl (List.mem_cons_of_mem _ (List.mem_cons_of_mem _ N1.out)) | exact hA.zero2.sl (List.mem_cons_of_mem _ (List.mem_cons_of_mem _ N1.out))); (omega); rintro e W1o ⟨ao1, l1, cap1, rfl, hs1, hb⟩; (first | replace hs0 := hs0.below hb | replace hs0 := (hs0.below (below1 _ _)).below hb | replace hs0 := (hs0.below (below2 _ _ _)).below hb); (first | (have hA' := hA.step hb; replace hC := hC.trans (hb.mono hC.size); replace hA := hA'; clear hA') | (have hA' := hA.zero.step hb; have hgz := hC.size; replace hC := (hC.alloc hgz _).trans (hb.mono (Nat.le_trans hgz (by simp))); replace hA := hA'; clear hA') | (have hA' := hA.zero2.step hb; have hgz := hC.size; replace hC := ((hC.alloc hgz _).alloc (Nat.le_trans hgz (by simp)) _).trans (hb.mono (Nat.le_trans hgz (by simp; omega))); replace hA := hA'; clear hA')); clear hb; (try simp only [World.size_drew, World.size_alloc] at hA); (try simp only [World.size_drew, World.size_alloc] at hgz))
            | (go_at_call 15; (with_reducible refine (own_open neg (.slice ax rs.length cx) rs _ ?_ ?_).mono ?_); (first | with_reducible exact hA.sl N1.out | with_reducible exact hA.sl (List.mem_cons_of_mem _ N1.out) | with_reducible exact hA.sl (List.mem_cons_of_mem _ (List.mem_cons_of_mem _ N1.out)) | exact hA.zero.sl (List.mem_cons_of_mem _ N1.out) | exact hA.zero.sl (List.mem_cons_of_mem _ (List.mem_cons_of_mem _ N1.out)) | exact hA.zero2.sl (List.mem_cons_of_mem _ (List.mem_cons_of_mem _ N1.out))); (omega); rintro e W0o ⟨ao0, l0, cap0, rfl, hs0, hb⟩; (first | (have hA' := hA.step hb; replace hC := hC.trans (hb.mono hC.size); replace hA := hA'; clear hA') | (have hA' := hA.zero.step hb; have hgz := hC.size; replace hC := (hC.alloc hgz _).trans (hb.mono (Nat.le_trans hgz (by simp))); replace hA := hA'; clear hA') | (have hA' := hA.zero2.step hb; have hgz := hC.size; replace hC := ((hC.alloc hgz _).alloc (Nat.le_trans hgz (by simp)) _).trans (hb.mono (Nat.le_trans hgz (by simp; omega))); replace hA := hA'; clear hA')); clear hb; (try simp only [World.size_drew, World.size_alloc] at hA); (try simp only [World.size_drew, World.size_alloc] at hgz))
            | (go_at_call 26; (with_reducible refine (add_allo neg neg _ _ rs rs _ ?_ ?_ HW.out HW.out).mono ?_); (first | with_reducible exact hs0 | exact hs0.below (below1 _ _) | exact hs0.below (below2 _ _ _)); (first | with_reducible exact hs1 | exact hs1.below (below1 _ _) | exact hs1.below (below2 _ _ _)); rintro e Wop ⟨m1, ax, lx, cx, q, c, rfl, hsx, hb, hres⟩; have HRES := Lib.hid hres; clear hres; (first | (have hA' := hA.step hb; replace hC := hC.trans (hb.mono hC.size); replace hA := hA'; clear hA') | (have hA' := hA.zero.step hb; have hgz := hC.size; replace hC := (hC.alloc hgz _).trans (hb.mono (Nat.le_trans hgz (by simp))); replace hA := hA'; clear hA') | (have hA' := hA.zero2.step hb; have hgz := hC.size; replace hC := ((hC.alloc hgz _).alloc (Nat.le_trans hgz (by simp)) _).trans (hb.mono (Nat.le_trans hgz (by simp; omega))); replace hA := hA'; clear hA')); clear hb; (try simp only [World.size_drew, World.size_alloc] at hA); (try simp only [World.size_drew, World.size_alloc] at hgz); (try (have hz0 := hA.facts List.mem_cons_self; obtain ⟨z00, z01, z02, z03⟩ := hz0)); (try (have hz1 := hA.facts (List.mem_cons_of_mem _ List.mem_cons_self); obtain ⟨z10, z11, z12, z13⟩ := hz1)); (try (have hne := hA.ne01; obtain ⟨ne1, ne2⟩ := hne)); (try (have lt0 := hA.old List.mem_cons_self; dsimp only at lt0)); (try (have lt1 := hA.old (List.mem_cons_of_mem _ List.mem_cons_self); dsimp only at lt1))))
        all_goals (go_wp2_with fail; go_meet)
        all_goals unfold MadeE
        all_goals first
          | (with_reducible refine ⟨_, _, m1, ax, lx, cx, q, c, rfl, rfl, hA.push hsx, mem1, List.mem_cons_self, ?_, HRES.out⟩; exact hB.trans (Below.mono (by (have hcs := hC.size; (try simp only [World.size_drew] at hcs); (repeat' (first | with_reducible exact hC | with_reducible exact Below.refl _ _ | refine Below.drew ?_ | refine Below.alloc ?_ ?_ _ | refine Below.setCell ?_ ?_ _)); all_goals (first | omega | (simp only [World.size_drew, World.size_alloc]; omega) | (simp; omega)))) hB.size))
          | (with_reducible refine ⟨_, _, m1, ax, lx, cx, q, c, rfl, rfl, hA.fill0 hsx m1, mem1, List.mem_cons_self, ?_, HRES.out⟩; exact hB.trans (Below.mono (by (have hcs := hC.size; (try simp only [World.size_drew] at hcs); (repeat' (first | with_reducible exact hC | with_reducible exact Below.refl _ _ | refine Below.drew ?_ | refine Below.alloc ?_ ?_ _ | refine Below.setCell ?_ ?_ _)); all_goals (first | omega | (simp only [World.size_drew, World.size_alloc]; omega) | (simp; omega)))) hB.size))
      case rest =>
        clear hA hB
        obtain ⟨LL10, gg10, nn10, aa10, ll10, kk10, qq10, cc10, rfl, rfl, hA, hsub10, hmq10, hB, hr10⟩ := hcut
        replace N1 := Lib.hid (hsub10 _ N1.out)
        replace N2 := Lib.hid (hsub10 _ N2.out)
        replace N3 := Lib.hid (hsub10 _ N3.out)
        have N4 := Lib.hid hmq10
        have HR10 := Lib.hid (any_g hr10 ⟨HD.out.snd, HD.out.snd⟩)
        clear hsub10 hmq10 hr10
        go_upto_region 11 with fail
        go_cut [11, 12] from 33 to 71 (fun s1 s2 wx => MadeE (fun c n q => ((Snd neg rs ∧ Snd false [2]) ∧ c = 0 ∧ Snd n q ∧ ival n q = ival neg rs * ival false [2]) ∨ ((Snd neg rs ∧ Snd false [2]) ∧ c = 6 ∧ n = false ∧ q = [] ∧ 1000000000 ^ 64 ≤ (ival neg rs * ival false [2]).natAbs) ∨ (¬ ((Snd neg rs ∧ Snd false [2])) ∧ c = 2 ∧ n = false ∧ q = [])) LL10 w s1 s2 wx)
        case first =>
          have hE0 := hA
          have hC := hA.start.drew
          replace hA := hA.drew
          go_region_held3 (fun W' => W'.cell? ⟨G5, 0, none⟩ = some (.bool neg) ∧ W'.cell? ⟨G5, 1, none⟩ = some (.slice ax rs.length cx) ∧ W'.cell? ⟨G7, 0, none⟩ = some (.bool false) ∧ W'.cell? ⟨G7, 1, none⟩ = some (.slice a3 [2].length c3))
            ((refine (fun (hk : Below _ _ _) => ⟨((hE0.held hk).cells N1.out).1, ((hE0.held hk).cells N1.out).2, ((hE0.held hk).cells N3.out).1, ((hE0.held hk).cells N3.out).2⟩) ?_; (have hcs := hC.size; (try simp only [World.size_drew] at hcs); (repeat' (first | with_reducible exact hC | with_reducible exact Below.refl _ _ | refine Below.drew ?_ | refine Below.alloc ?_ ?_ _ | refine Below.setCell ?_ ?_ _)); all_goals (first | omega | (simp only [World.size_drew, World.size_alloc]; omega) | (simp; omega)))))
            (first
              | (go_at_call 15; (with_reducible refine (own_open neg (.slice ax rs.length cx) rs _ ?_ ?_).mono ?_); (first | with_reducible exact hA.sl N1.out | with_reducible exact hA.sl (List.mem_cons_of_mem _ N1.out) | with_reducible exact hA.sl (List.mem_cons_of_mem _ (List.mem_cons_of_mem _ N1.out)) | exact hA.zero.sl (List.mem_cons_of_mem _ N1.out) | exact hA.zero.sl (List.mem_cons_of_mem _ (List.mem_cons_of_mem _ N1.out)) | exact hA.zero2.sl (List.mem_cons_of_mem _ (List.mem_cons_of_mem _ N1.out))); (omega); rintro e W0o ⟨ao0, l0, cap0, rfl, hs0, hb⟩; (first | (have hA' := hA.step hb; replace hC := hC.trans (hb.mono hC.size); replace hA := hA'; clear hA') | (have hA' := hA.zero.step hb; have hgz := hC.size; replace hC := (hC.alloc hgz _).trans (hb.mono (Nat.le_trans hgz (by simp))); replace hA := hA'; clear hA') | (have hA' := hA.zero2.step hb; have hgz := hC.size; replace hC := ((hC.alloc hgz _).alloc (Nat.le_trans hgz (by simp)) _).trans (hb.mono (Nat.le_trans hgz (by simp; omega))); replace hA := hA'; clear hA')); clear hb; (try simp only [World.size_drew, World.size_alloc] at hA); (try simp only [World.size_drew, World.size_alloc] at hgz))
              | (go_at_call 32; (with_reducible refine (mul_allo neg false _ _ rs [2] _ ?_ ?_ HW.out HW2.out).mono ?_); (first | with_reducible exact hs0 | exact hs0.below (below1 _ _) | exact hs0.below (below2 _ _ _)); (first | with_reducible exact hA.sl N3.out | with_reducible exact hA.sl (List.mem_cons_of_mem _ N3.out) | with_reducible exact hA.sl (List.mem_cons_of_mem _ (List.mem_cons_of_mem _ N3.out)) | exact hA.zero.sl (List.mem_cons_of_mem _ N3.out) | exact hA.zero.sl (List.mem_cons_of_mem _ (List.mem_cons_of_mem _ N3.out)) | exact hA.zero2.sl (List.mem_cons_of_mem _ (List.mem_cons_of_mem _ N3.out))); rintro e Wop ⟨m1, ax, lx, cx, q, c, rfl, hsx, hb, hres⟩; have HRES := Lib.hid hres; clear hres; (first | (have hA' := hA.step hb; replace hC := hC.trans (hb.mono hC.size); replace hA := hA'; clear hA') | (have hA' := hA.zero.step hb; have hgz := hC.size; replace hC := (hC.alloc hgz _).trans (hb.mono (Nat.le_trans hgz (by simp))); replace hA := hA'; clear hA') | (have hA' := hA.zero2.step hb; have hgz := hC.size; replace hC := ((hC.alloc hgz _).alloc (Nat.le_trans hgz (by simp)) _).trans (hb.mono (Nat.le_trans hgz (by simp; omega))); replace hA := hA'; clear hA')); clear hb; (try simp only [World.size_drew, World.size_alloc] at hA); (try simp only [World.size_drew, World.size_alloc] at hgz); (try (have hz0 := hA.facts List.mem_cons_self; obtain ⟨z00, z01, z02, z03⟩ := hz0)); (try (have hz1 := hA.facts (List.mem_cons_of_mem _ List.mem_cons_self); obtain ⟨z10, z11, z12, z13⟩ := hz1)); (try (have hne := hA.ne01; obtain ⟨ne1, ne2⟩ := hne)); (try (have lt0 := hA.old List.mem_cons_self; dsimp only at lt0)); (try (have lt1 := hA.old (List.mem_cons_of_mem _ List.mem_cons_self); dsimp only at lt1))))
          all_goals (go_wp2_with fail; go_meet)
          all_goals unfold MadeE
          all_goals first
            | (with_reducible refine ⟨_, _, m1, ax, lx, cx, q, c, rfl, rfl, hA.push hsx, mem1, List.mem_cons_self, ?_, HRES.out⟩; exact hB.trans (Below.mono (by (have hcs := hC.size; (try simp only [World.size_drew] at hcs); (repeat' (first | with_reducible exact hC | with_reducible exact Below.refl _ _ | refine Below.drew ?_ | refine Below.alloc ?_ ?_ _ | refine Below.setCell ?_ ?_ _)); all_goals (first | omega | (simp only [World.size_drew, World.size_alloc]; omega) | (simp; omega)))) hB.size))
            | (with_reducible refine ⟨_, _, m1, ax, lx, cx, q, c, rfl, rfl, hA.fill0 hsx m1, mem1, List.mem_cons_self, ?_, HRES.out⟩; exact hB.trans (Below.mono (by (have hcs := hC.size; (try simp only [World.size_drew] at hcs); (repeat' (first | with_reducible exact hC | with_reducible exact Below.refl _ _ | refine Below.drew ?_ | refine Below.alloc ?_ ?_ _ | refine Below.setCell ?_ ?_ _)); all_goals (first | omega | (simp only [World.size_drew, World.size_alloc]; omega) | (simp; omega)))) hB.size))
        case rest =>
          clear hA hB
          obtain ⟨LL11, gg11, nn11, aa11, ll11, kk11, qq11, cc11, rfl, rfl, hA, hsub11, hmq11, hB, hr11⟩ := hcut
          replace N1 := Lib.hid (hsub11 _ N1.out)
          replace N2 := Lib.hid (hsub11 _ N2.out)
          replace N3 := Lib.hid (hsub11 _ N3.out)
          replace N4 := Lib.hid (hsub11 _ N4.out)
          have N5 := Lib.hid hmq11
          have HR11 := any_g hr11 ⟨HD.out.snd, snd_two⟩
          have hN : ival neg rs * ival false [2] = ival neg rs + ival neg rs := by rw [ival_two]; omega
          rw [hN] at HR11
          obtain ⟨e1, e2, e3⟩ := any_unique HR10.out HR11
          subst e1; subst e2; subst e3
          clear hsub11 hmq11 hr11 HR11 hN
          have hcc : (cc10 != cc10) = false := by simp
          obtain ⟨p0, p1⟩ := hA.cells N4.out
          obtain ⟨p2, p3⟩ := hA.cells N5.out
          go_wp2_with fail
          refine (same_any nn10 nn10 _ _ qq10 qq10 _ (hA.sl N4.out) (hA.sl N5.out)).mono ?_
          rintro e V12 ⟨rfl, hb⟩
          rw [sameB_true ⟨rfl, rfl⟩]
          replace hB := hB.trans (hb.mono hB.size)
          replace hA := hA.step hb
          clear hb p0 p1 p2 p3 hcc
          rcases HR10.out with ⟨_, hc, hs, hv⟩ | ⟨_, hc, _, _, hl⟩ | ⟨h, _⟩
          · subst hc
            obtain ⟨rfl, hd⟩ := HD.out.next HX0.out hs hv
            have HDN := Lib.hid hd
            clear hs hv hd
            obtain ⟨p0, p1⟩ := hA.cells N4.out
            obtain ⟨q0, q1, q2, q3⟩ := hA.facts N1.out
            obtain ⟨L', hA', hm', hsub'⟩ := hA.fillAt N1.out (hA.sl N4.out) nn10
            have hlw := hA.old N1.out
            have hgg : w.heap.size ≤ G5 := hg5
            go_wp2_with fail
            go_roundw
            case rel => exact ⟨k + 1, L', qq10, aa10, ll10, kk10, by go_num, hA', hm', hsub' _ N2.out (by simp; omega), hsub' _ N3.out (by simp; omega), HDN.out, (hB.setCell hgg _).setCell hgg _⟩
            case measure => simp only [intOf]; omega
          · subst hc
            obtain ⟨h64, h90⟩ := HD.out.last HX2.out hl
            have h64i : ((rs.length : Int) != 64) = false := by rw [h64]; rfl
            have HDL := HD
            clear hl HD HR10
            obtain ⟨p0, p1⟩ := hA.cells N1.out
            go_wp2_with fail
            go_loopw [13] (fun t wr => ∃ (j : Nat) (L : List Ent) (rs : List Nat) (ax : Option Addr) (lx cx : Nat), j ≤ k ∧ t = .int .i64 (j : Nat) ∧ EnvD L wr ∧ (G5, neg, .slice ax lx cx, rs) ∈ L ∧ (G6, neg, .slice af lf kf, firstN n) ∈ L ∧ (G7, false, .slice a3 [2].length c3, [2]) ∈ L ∧ Dbl neg X (k - j) rs ∧ Below w.heap.size w wr) (fun t _ => k - (intOf t).toNat)
            case atStart => exact ⟨0, _, rs, ax, _, cx, by omega, rfl, hA, N1.out, N2.out, N3.out, HDL.out, hB⟩
            case round =>
              clear hA hB N1 N2 N3 N4 N5 HDL p0 p1 h64 h64i HW hrl
              obtain ⟨j, L, rs, ax, lx, cx, hjk, rfl, hA, m1, m2, m3, hd, hB⟩ := hrel
              have N1 := Lib.hid m1
              have N2 := Lib.hid m2
              have N3 := Lib.hid m3
              have HD := Lib.hid hd
              have hrl : rs.length ≤ 64 := hd.snd.1
              have HW := Lib.hid hd.snd.2.1.wide
              have hlx := slen (hA.sl m1)
              subst hlx
              clear m1 m2 m3 hd
              rcases Nat.lt_or_ge j k with hj | hj
              · have hji : (j : Int) < (k : Int) := by omega
                go_upto_region 22 with fail
                go_cut [14, 15, 16] from 72 to 93 (fun s1 s2 s3 wx => MadeD (DivR neg false rs [2]) L w s1 s2 s3 wx)
                case first =>
                  have hE0 := hA
                  have hC := hA.start.drew
                  replace hA := hA.drew
                  go_region_held3 (fun W' => W'.cell? ⟨G5, 0, none⟩ = some (.bool neg) ∧ W'.cell? ⟨G5, 1, none⟩ = some (.slice ax rs.length cx) ∧ W'.cell? ⟨G7, 0, none⟩ = some (.bool false) ∧ W'.cell? ⟨G7, 1, none⟩ = some (.slice a3 [2].length c3))
                    ((refine (fun (hk : Below _ _ _) => ⟨((hE0.held hk).cells N1.out).1, ((hE0.held hk).cells N1.out).2, ((hE0.held hk).cells N3.out).1, ((hE0.held hk).cells N3.out).2⟩) ?_; (have hcs := hC.size; (try simp only [World.size_drew] at hcs); (repeat' (first | with_reducible exact hC | with_reducible exact Below.refl _ _ | refine Below.drew ?_ | refine Below.alloc ?_ ?_ _ | refine Below.setCell ?_ ?_ _)); all_goals (first | omega | (simp only [World.size_drew, World.size_alloc]; omega) | (simp; omega)))))
                    (first
                      | (go_at_call 15; (with_reducible refine (own_open neg (.slice ax rs.length cx) rs _ ?_ ?_).mono ?_); (first | with_reducible exact hA.sl N1.out | with_reducible exact hA.sl (List.mem_cons_of_mem _ N1.out) | with_reducible exact hA.sl (List.mem_cons_of_mem _ (List.mem_cons_of_mem _ N1.out)) | exact hA.zero.sl (List.mem_cons_of_mem _ N1.out) | exact hA.zero.sl (List.mem_cons_of_mem _ (List.mem_cons_of_mem _ N1.out)) | exact hA.zero2.sl (List.mem_cons_of_mem _ (List.mem_cons_of_mem _ N1.out))); (omega); rintro e W0o ⟨ao0, l0, cap0, rfl, hs0, hb⟩; (first | (have hA' := hA.step hb; replace hC := hC.trans (hb.mono hC.size); replace hA := hA'; clear hA') | (have hA' := hA.zero.step hb; have hgz := hC.size; replace hC := (hC.alloc hgz _).trans (hb.mono (Nat.le_trans hgz (by simp))); replace hA := hA'; clear hA') | (have hA' := hA.zero2.step hb; have hgz := hC.size; replace hC := ((hC.alloc hgz _).alloc (Nat.le_trans hgz (by simp)) _).trans (hb.mono (Nat.le_trans hgz (by simp; omega))); replace hA := hA'; clear hA')); clear hb; (try simp only [World.size_drew, World.size_alloc] at hA); (try simp only [World.size_drew, World.size_alloc] at hgz))
                      | (go_at_call 34; (with_reducible refine (divide_all neg false _ _ rs [2] _ ?_ ?_ HW.out HW2.out).mono ?_); (first | with_reducible exact hs0 | exact hs0.below (below1 _ _) | exact hs0.below (below2 _ _ _)); (first | with_reducible exact hA.sl N3.out | with_reducible exact hA.sl (List.mem_cons_of_mem _ N3.out) | with_reducible exact hA.sl (List.mem_cons_of_mem _ (List.mem_cons_of_mem _ N3.out)) | exact hA.zero.sl (List.mem_cons_of_mem _ N3.out) | exact hA.zero.sl (List.mem_cons_of_mem _ (List.mem_cons_of_mem _ N3.out)) | exact hA.zero2.sl (List.mem_cons_of_mem _ (List.mem_cons_of_mem _ N3.out))); rintro e Wop ⟨m1, ax, lx, cx, q, m2, ay, ly, cy, r, c, rfl, hsx, hsy, hb, hres⟩; have HRES := Lib.hid hres; clear hres; (first | (have hA' := hA.step hb; replace hC := hC.trans (hb.mono hC.size); replace hA := hA'; clear hA') | (have hA' := hA.zero.step hb; have hgz := hC.size; replace hC := (hC.alloc hgz _).trans (hb.mono (Nat.le_trans hgz (by simp))); replace hA := hA'; clear hA') | (have hA' := hA.zero2.step hb; have hgz := hC.size; replace hC := ((hC.alloc hgz _).alloc (Nat.le_trans hgz (by simp)) _).trans (hb.mono (Nat.le_trans hgz (by simp; omega))); replace hA := hA'; clear hA')); clear hb; (try simp only [World.size_drew, World.size_alloc] at hA); (try simp only [World.size_drew, World.size_alloc] at hgz); (try (have hz0 := hA.facts List.mem_cons_self; obtain ⟨z00, z01, z02, z03⟩ := hz0)); (try (have hz1 := hA.facts (List.mem_cons_of_mem _ List.mem_cons_self); obtain ⟨z10, z11, z12, z13⟩ := hz1)); (try (have hne := hA.ne01; obtain ⟨ne1, ne2⟩ := hne)); (try (have lt0 := hA.old List.mem_cons_self; dsimp only at lt0)); (try (have lt1 := hA.old (List.mem_cons_of_mem _ List.mem_cons_self); dsimp only at lt1))))
                  all_goals (go_wp2_with fail; go_meet)
                  all_goals unfold MadeD
                  all_goals first
                    | (with_reducible refine ⟨_, _, _, m1, m2, ax, lx, cx, ay, ly, cy, q, r, c, rfl, rfl, rfl, hA.push2 hsx hsy, mem2, (List.mem_cons_of_mem _ List.mem_cons_self), List.mem_cons_self, ?_, HRES.out⟩; exact hB.trans (Below.mono (by (have hcs := hC.size; (try simp only [World.size_drew] at hcs); (repeat' (first | with_reducible exact hC | with_reducible exact Below.refl _ _ | refine Below.drew ?_ | refine Below.alloc ?_ ?_ _ | refine Below.setCell ?_ ?_ _)); all_goals (first | omega | (simp only [World.size_drew, World.size_alloc]; omega) | (simp; omega)))) hB.size))
                    | (with_reducible refine ⟨_, _, _, m1, m2, ax, lx, cx, ay, ly, cy, q, r, c, rfl, rfl, rfl, hA.push2 hsy hsx, mem2, List.mem_cons_self, (List.mem_cons_of_mem _ List.mem_cons_self), ?_, HRES.out⟩; exact hB.trans (Below.mono (by (have hcs := hC.size; (try simp only [World.size_drew] at hcs); (repeat' (first | with_reducible exact hC | with_reducible exact Below.refl _ _ | refine Below.drew ?_ | refine Below.alloc ?_ ?_ _ | refine Below.setCell ?_ ?_ _)); all_goals (first | omega | (simp only [World.size_drew, World.size_alloc]; omega) | (simp; omega)))) hB.size))
                    | (with_reducible refine ⟨_, _, _, m1, m2, ax, lx, cx, ay, ly, cy, q, r, c, rfl, rfl, rfl, hA.fillpush hsx m1 hsy m2, mem2, (List.mem_cons_of_mem _ List.mem_cons_self), List.mem_cons_self, ?_, HRES.out⟩; exact hB.trans (Below.mono (by (have hcs := hC.size; (try simp only [World.size_drew] at hcs); (repeat' (first | with_reducible exact hC | with_reducible exact Below.refl _ _ | refine Below.drew ?_ | refine Below.alloc ?_ ?_ _ | refine Below.setCell ?_ ?_ _)); all_goals (first | omega | (simp only [World.size_drew, World.size_alloc]; omega) | (simp; omega)))) hB.size))
                    | (with_reducible refine ⟨_, _, _, m1, m2, ax, lx, cx, ay, ly, cy, q, r, c, rfl, rfl, rfl, hA.fillpush hsy m2 hsx m1, mem2, List.mem_cons_self, (List.mem_cons_of_mem _ List.mem_cons_self), ?_, HRES.out⟩; exact hB.trans (Below.mono (by (have hcs := hC.size; (try simp only [World.size_drew] at hcs); (repeat' (first | with_reducible exact hC | with_reducible exact Below.refl _ _ | refine Below.drew ?_ | refine Below.alloc ?_ ?_ _ | refine Below.setCell ?_ ?_ _)); all_goals (first | omega | (simp only [World.size_drew, World.size_alloc]; omega) | (simp; omega)))) hB.size))
                    | (with_reducible refine ⟨_, _, _, m1, m2, ax, lx, cx, ay, ly, cy, q, r, c, rfl, rfl, rfl, hA.fill10 hsy m2 hsx m1, mem2, (List.mem_cons_of_mem _ List.mem_cons_self), List.mem_cons_self, ?_, HRES.out⟩; exact hB.trans (Below.mono (by (have hcs := hC.size; (try simp only [World.size_drew] at hcs); (repeat' (first | with_reducible exact hC | with_reducible exact Below.refl _ _ | refine Below.drew ?_ | refine Below.alloc ?_ ?_ _ | refine Below.setCell ?_ ?_ _)); all_goals (first | omega | (simp only [World.size_drew, World.size_alloc]; omega) | (simp; omega)))) hB.size))
                    | (with_reducible refine ⟨_, _, _, m1, m2, ax, lx, cx, ay, ly, cy, q, r, c, rfl, rfl, rfl, hA.fill01 hsx m1 hsy m2, mem2, List.mem_cons_self, (List.mem_cons_of_mem _ List.mem_cons_self), ?_, HRES.out⟩; exact hB.trans (Below.mono (by (have hcs := hC.size; (try simp only [World.size_drew] at hcs); (repeat' (first | with_reducible exact hC | with_reducible exact Below.refl _ _ | refine Below.drew ?_ | refine Below.alloc ?_ ?_ _ | refine Below.setCell ?_ ?_ _)); all_goals (first | omega | (simp only [World.size_drew, World.size_alloc]; omega) | (simp; omega)))) hB.size))
                case rest =>
                  clear hA hB
                  obtain ⟨LL22, gg22, hh22, nn22, mm22, aa22, ll22, kk22, ab22, lb22, kb22, qq22, rr22, cc22, rfl, rfl, rfl, hA, hsub22, hmq22, hmr22, hB, hr22⟩ := hcut
                  replace N1 := Lib.hid (hsub22 _ N1.out)
                  replace N2 := Lib.hid (hsub22 _ N2.out)
                  replace N3 := Lib.hid (hsub22 _ N3.out)
                  obtain ⟨i, hi⟩ : ∃ i, k - j = i + 1 := ⟨k - j - 1, by omega⟩
                  have hd := HD.out
                  rw [hi] at hd
                  obtain ⟨hc, hm, hq, hr⟩ := hd.half HX0.out hr22
                  subst hc; subst hm; subst hr
                  have hlr := slen (hA.sl hmr22)
                  subst hlr
                  have N4 := Lib.hid hmq22
                  have N5 := Lib.hid hmr22
                  have HQ := Lib.hid hq
                  clear hsub22 hmq22 hmr22 hr22 hd hq
                  obtain ⟨p0, p1⟩ := hA.cells N5.out
                  obtain ⟨p2, p3⟩ := hA.cells N4.out
                  obtain ⟨q0, q1, q2, q3⟩ := hA.facts N1.out
                  obtain ⟨L', hA', hm', hsub'⟩ := hA.fillAt N1.out (hA.sl N4.out) nn22
                  have hgg : w.heap.size ≤ G5 := hg5
                  have hlen0 : ([] : List Nat).length = 0 := rfl
                  go_wp2_with fail
                  go_roundw
                  case rel => exact ⟨j + 1, L', qq22, aa22, ll22, kk22, by omega, by go_num, hA', hm', hsub' _ N2.out (by simp; omega), hsub' _ N3.out (by simp; omega), by rw [show k - (j + 1) = i by omega]; exact HQ.out, (hB.setCell hgg _).setCell hgg _⟩
                  case measure => simp only [intOf]; omega
              · obtain rfl : j = k := by omega
                have hd := HD.out
                rw [show j - j = 0 by omega] at hd
                have hrs := hd.back HF.out HFV.out
                subst hrs
                clear hd HD
                have h90i : (90 : Int) < (j : Int) := by omega
                obtain ⟨p0, p1⟩ := hA.cells N1.out
                obtain ⟨p2, p3⟩ := hA.cells N2.out
                go_wp2_with fail
                refine (same_any neg neg _ _ (firstN n) (firstN n) _ (hA.sl N1.out) (hA.sl N2.out)).mono ?_
                rintro e V20 ⟨rfl, hb⟩
                rw [sameB_true ⟨rfl, rfl⟩]
                replace hB := hB.trans (hb.mono hB.size)
                go_wp2
                go_ret
                exact ⟨rfl, hB⟩
          · exact absurd trivial h

theorem doubles_int (z : Int) (neg : Bool) (w : World) (ht : Pow10 w) (h0 : 0 ≤ z) (h1 : z ≤ 65535) :
    Calls Tryd.prog 11 #[.int .u16 z, .bool neg] w (TruePost w) := by
  obtain ⟨n, rfl⟩ : ∃ n : Nat, z = (n : Int) := ⟨z.toNat, by omega⟩
  exact doubles_any n neg w ht (by omega)
end Go.Proofs.YtiekhjgfnmochaaDoor
