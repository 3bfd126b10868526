/- SameBuilt -/
import Derived.Test.YtimnhbndokfgnaaSmRound
import Derived.Test.YtimnhbndokfgnaaStOpB
namespace Go.Proofs.Ytimnhbndokfgnaa
open Go.RowKit

/-- The i-th of a tree that lies from B on. -/
def vO (B : Nat) (y : Nat → Int) (i : Nat) : Ob := ⟨2, 4, [(4, y i), zc B i, (4, y i)], none⟩
def vbx (B : Nat) (y : Nat → Int) (j : Nat) : List Ob := (List.range j).map (vO B y)
theorem vbx_len (B : Nat) (y : Nat → Int) (j : Nat) : (vbx B y j).length = j := by simp [vbx]
theorem vbx_succ (B : Nat) (y : Nat → Int) (j : Nat) : vbx B y (j + 1) = vbx B y j ++ [vO B y j] := by simp [vbx, List.range_succ]
def sV (os : List Ob) : St := ⟨4000, 4 * os.length, os, []⟩
/-- The leaves of the n-th tree. -/
def yn (xs : List Nat) (k : Nat) (b : Bool) (n : Nat) (i : Nat) : Int := ((limb xs i : Nat) : Int) + (if n = 1 ∧ b = true ∧ i = k then 1 else 0)
def osn (xs : List Nat) (k : Nat) (b : Bool) (n : Nat) : List Ob := (List.range n).flatMap fun m => vbx (m * xs.length) (yn xs k b m) xs.length
theorem osn_succ (xs : List Nat) (k : Nat) (b : Bool) (n : Nat) : osn xs k b (n + 1) = osn xs k b n ++ vbx (n * xs.length) (yn xs k b n) xs.length := by simp [osn, List.range_succ]
theorem osn_len (xs : List Nat) (k : Nat) (b : Bool) (n : Nat) : (osn xs k b n).length = n * xs.length := by
  induction n with
  | zero => simp [osn]
  | succ n ih => rw [osn_succ, List.length_append, ih, vbx_len, Nat.succ_mul]
theorem sV_make {xs : List Nat} {k : Nat} {b : Bool} {n i : Nat} (hi : i < xs.length) (hl : xs.length ≤ 200) (hn : n ≤ 1) :
    (sV (osn xs k b n ++ vbx (n * xs.length) (yn xs k b n) i)).make 2 [(4, yn xs k b n i), zc (n * xs.length) i, (4, yn xs k b n i)] = (((7, ((n * xs.length + i : Nat) : Int)), 0), sV (osn xs k b n ++ vbx (n * xs.length) (yn xs k b n) (i + 1))) := by
  have hlen : (osn xs k b n ++ vbx (n * xs.length) (yn xs k b n) i).length = n * xs.length + i := by rw [List.length_append, osn_len, vbx_len]
  have hB : n * xs.length ≤ 200 := by
    rcases Nat.lt_or_ge n 1 with h | h
    · obtain rfl : n = 0 := by omega
      simp
    · obtain rfl : n = 1 := by omega
      simpa using hl
  have hz : sdV (n * xs.length + i) 0 (zc (n * xs.length) i) = true := by
    unfold zc
    by_cases h0 : i = 0
    · subst h0; rfl
    · rw [if_neg h0]; exact sd_obj (by omega)
  have h4 : ∀ c : Int, sdV (n * xs.length + i) 0 (4, c) = true := fun c => rfl
  unfold St.make
  rw [if_neg (by simp [mayA]), if_neg (by simp [sV, osn_len, vbx_len, hz, h4]), if_neg (by simp [sV, osn_len, vbx_len]; omega)]
  simp only [sV, St.add, hlen, List.length_cons, List.length_nil]
  rw [vbx_succ, ← List.append_assoc]
  congr 2
  simp [osn_len, vbx_len]
  omega
theorem sV_obj {os : List Ob} {i : Nat} {o : Ob} (h : os[i]? = some o) : (sV os).obj (7, (i : Int)) = some o := by
  unfold St.obj
  rw [if_pos ⟨rfl, by simp⟩]
  simpa [sV] using h
/-- Both trees, whole. -/
theorem tree_at {xs : List Nat} {k : Nat} {b : Bool} {n i : Nat} (hn : n < 2) (hi : i < xs.length) : (sV (osn xs k b 2)).obj (7, ((n * xs.length + i : Nat) : Int)) = some (vO (n * xs.length) (yn xs k b n) i) := by
  apply sV_obj
  rw [osn_succ, osn_succ]
  rcases Nat.lt_or_ge n 1 with h | h
  · obtain rfl : n = 0 := by omega
    rw [List.getElem?_append_left (by simp [osn, vbx_len]; omega), List.getElem?_append_right (by simp [osn])]
    simp [osn, vbx, hi]
  · obtain rfl : n = 1 := by omega
    rw [List.getElem?_append_right (by simp [osn, vbx_len])]
    simp [osn, vbx, hi]
theorem tree_kind {xs : List Nat} {k : Nat} {b : Bool} {n i : Nat} (hn : n < 2) (hi : i < xs.length) : (sV (osn xs k b 2)).kind (7, ((n * xs.length + i : Nat) : Int)) = 2 := by unfold St.kind; rw [tree_at hn hi]; rfl
theorem tree_len {xs : List Nat} {k : Nat} {b : Bool} {n i : Nat} (hn : n < 2) (hi : i < xs.length) : (sV (osn xs k b 2)).len (7, ((n * xs.length + i : Nat) : Int)) = 3 := by unfold St.len; rw [tree_at hn hi]; rfl
theorem tree_get {xs : List Nat} {k : Nat} {b : Bool} {n i : Nat} (hn : n < 2) (hi : i < xs.length) : ((sV (osn xs k b 2)).get (7, ((n * xs.length + i : Nat) : Int)) ((0 : Nat) : Int)).1 = (4, yn xs k b n i) ∧ ((sV (osn xs k b 2)).get (7, ((n * xs.length + i : Nat) : Int)) ((1 : Nat) : Int)).1 = zc (n * xs.length) i ∧ ((sV (osn xs k b 2)).get (7, ((n * xs.length + i : Nat) : Int)) ((2 : Nat) : Int)).1 = (4, yn xs k b n i) := by
  unfold St.get
  rw [tree_at hn hi]
  exact ⟨rfl, rfl, rfl⟩
theorem tree_ne {xs : List Nat} {k : Nat} {b : Bool} {i : Nat} (hi : i < xs.length) : (sV (osn xs k b 2)).eqvA (7, ((0 * xs.length + i : Nat) : Int)) (7, ((1 * xs.length + i : Nat) : Int)) = false :=
  eqvA_no1 (fun e => by have := (Prod.mk.inj e).2; omega) (by rw [tree_kind (by decide) hi]; decide)
theorem tree_cmp {xs : List Nat} {k : Nat} {b : Bool} {i : Nat} (hi : i < xs.length) : (sV (osn xs k b 2)).compA (7, ((0 * xs.length + i : Nat) : Int)) (7, ((1 * xs.length + i : Nat) : Int)) = true :=
  compA_yes (by rw [tree_kind (by decide) hi]; decide) (by rw [tree_kind (by decide) hi]; decide) (by rw [tree_kind (by decide) hi, tree_kind (by decide) hi]) (by rw [tree_len (by decide) hi, tree_len (by decide) hi])
theorem tree_kids {xs : List Nat} {k : Nat} {b : Bool} {i : Nat} (hi : i < xs.length) : (sV (osn xs k b 2)).kids ((7, ((0 * xs.length + i : Nat) : Int)), (7, ((1 * xs.length + i : Nat) : Int))) = [((4, yn xs k b 0 i), (4, yn xs k b 1 i)), (zc (0 * xs.length) i, zc (1 * xs.length) i), ((4, yn xs k b 0 i), (4, yn xs k b 1 i))] := by
  unfold St.kids
  rw [show (sV (osn xs k b 2)).len (((7, ((0 * xs.length + i : Nat) : Int)), (7, ((1 * xs.length + i : Nat) : Int))) : Pr).1 = 3 from tree_len (by decide) hi]
  obtain ⟨a0, a1, a2⟩ := tree_get (xs := xs) (k := k) (b := b) (n := 0) (by decide) hi
  obtain ⟨b0, b1, b2⟩ := tree_get (xs := xs) (k := k) (b := b) (n := 1) (by decide) hi
  show [(sV (osn xs k b 2)).kid _ 0, (sV (osn xs k b 2)).kid _ 1, (sV (osn xs k b 2)).kid _ 2] = _
  unfold St.kid
  simp only [a0, a1, a2, b0, b1, b2]
theorem tree_same {xs : List Nat} {k : Nat} : ∀ i, i < xs.length → (sV (osn xs k false 2)).Tk [((7, ((0 * xs.length + i : Nat) : Int)), (7, ((1 * xs.length + i : Nat) : Int)))] (4 + 3 * i)
  | 0, hi => by
    refine Tk_in (c := 3) (tree_ne hi) (tree_cmp hi) ?_
    rw [tree_kids hi]
    have e : yn xs k false 0 0 = yn xs k false 1 0 := by simp [yn]
    have h1 : (sV (osn xs k false 2)).Tk [((4, yn xs k false 0 0), (4, yn xs k false 1 0))] 1 := Tk_eqv (eqvA_same (by rw [e]))
    have h2 : (sV (osn xs k false 2)).Tk [(zc (0 * xs.length) 0, zc (1 * xs.length) 0)] 1 := Tk_eqv (eqvA_same (by simp [zc]))
    exact Tk_append h1 (Tk_append h2 h1)
  | i + 1, hi => by
    rw [show 4 + 3 * (i + 1) = (1 + (4 + 3 * i + 1)) + 1 by omega]
    refine Tk_in (tree_ne hi) (tree_cmp hi) ?_
    rw [tree_kids hi]
    have e : yn xs k false 0 (i + 1) = yn xs k false 1 (i + 1) := by simp [yn]
    have h1 : (sV (osn xs k false 2)).Tk [((4, yn xs k false 0 (i + 1)), (4, yn xs k false 1 (i + 1)))] 1 := Tk_eqv (eqvA_same (by rw [e]))
    have h2 := tree_same (xs := xs) (k := k) i (by omega)
    rw [show zc (0 * xs.length) (i + 1) = (7, ((0 * xs.length + i : Nat) : Int)) by simp [zc], show zc (1 * xs.length) (i + 1) = (7, ((1 * xs.length + i : Nat) : Int)) by unfold zc; rw [if_neg (by omega), show 1 * xs.length + (i + 1) - 1 = 1 * xs.length + i by omega]]
    exact Tk_append h1 (Tk_append h2 h1)
theorem tree_part {xs : List Nat} {k : Nat} (hk : k < xs.length) : ∀ d, k + d < xs.length → ∀ f l, ∃ f', (sV (osn xs k true 2)).rEq (f + 2 * d + 2) (((7, ((0 * xs.length + (k + d) : Nat) : Int)), (7, ((1 * xs.length + (k + d) : Nat) : Int))) :: l) = some (false, f')
  | 0, hi, f, l => by
    rw [show f + 2 * 0 + 2 = f + 1 + 1 by omega, rEq_in (tree_ne hi) (tree_cmp hi), tree_kids hi]
    refine ⟨f, rEq_no (p := ((4, yn xs k true 0 (k + 0)), (4, yn xs k true 1 (k + 0)))) (eqvA_no1 ?_ ?_) (compA_no ?_) f _⟩
    · intro e
      have := (Prod.mk.inj e).2
      simp [yn] at this
      omega
    · show (sV (osn xs k true 2)).kind (4, _) ≠ 5
      simp [St.kind, St.obj]
    · show ¬ (1 ≤ (sV (osn xs k true 2)).kind (4, _) ∧ _)
      simp [St.kind, St.obj]
  | d + 1, hi, f, l => by
    rw [show f + 2 * (d + 1) + 2 = f + 2 * d + 2 + 1 + 1 by omega, rEq_in (tree_ne hi) (tree_cmp hi), tree_kids hi]
    have e : yn xs k true 0 (k + (d + 1)) = yn xs k true 1 (k + (d + 1)) := by simp [yn]
    simp only [List.cons_append, List.nil_append]
    rw [rEq_eqv (p := ((4, yn xs k true 0 (k + (d + 1))), (4, yn xs k true 1 (k + (d + 1))))) (eqvA_same (by rw [e]))]
    rw [show zc (0 * xs.length) (k + (d + 1)) = (7, ((0 * xs.length + (k + d) : Nat) : Int)) by unfold zc; rw [if_neg (by omega), show 0 * xs.length + (k + (d + 1)) - 1 = 0 * xs.length + (k + d) by omega], show zc (1 * xs.length) (k + (d + 1)) = (7, ((1 * xs.length + (k + d) : Nat) : Int)) by unfold zc; rw [if_neg (by omega), show 1 * xs.length + (k + (d + 1)) - 1 = 1 * xs.length + (k + d) by omega]]
    exact tree_part hk d (by omega) f _
theorem trees_all {xs : List Nat} {k : Nat} (b : Bool) (hk : k < xs.length) (hl : xs.length ≤ 200) : ∃ f, (sV (osn xs k b 2)).rEq 2000 [((7, ((0 * xs.length + (xs.length - 1) : Nat) : Int)), (7, ((1 * xs.length + (xs.length - 1) : Nat) : Int)))] = some (!b, f) := by
  cases b with
  | false =>
    have h := tree_same (xs := xs) (k := k) (xs.length - 1) (by omega)
    refine ⟨2000 - (4 + 3 * (xs.length - 1)), ?_⟩
    have h2 := h.1 [] (2000 - (4 + 3 * (xs.length - 1)))
    rw [show 2000 - (4 + 3 * (xs.length - 1)) + (4 + 3 * (xs.length - 1)) = 2000 by omega, List.append_nil] at h2
    rw [h2]
    exact rEq_nil _ _
  | true =>
    obtain ⟨f', h⟩ := tree_part hk (xs.length - 1 - k) (by omega) (2000 - (2 * (xs.length - 1 - k) + 2)) []
    rw [show 2000 - (2 * (xs.length - 1 - k) + 2) + 2 * (xs.length - 1 - k) + 2 = 2000 by omega, show k + (xs.length - 1 - k) = xs.length - 1 by omega] at h
    exact ⟨f', h⟩
/-- The roots. -/
def rts (L n : Nat) : List (Int × Int) := (List.range n).map fun m => (7, ((m * L + (L - 1) : Nat) : Int))
theorem rts_len (L n : Nat) : (rts L n).length = n := by simp [rts]
theorem rts_succ (L n : Nat) : rts L (n + 1) = rts L n ++ [(7, ((n * L + (L - 1) : Nat) : Int))] := by simp [rts, List.range_succ]
theorem vrow3 (w : World) (x y z : Int × Int) : RowV (w.alloc (.cells #[.int .i64 x.1, .int .i64 x.2, .int .i64 y.1, .int .i64 y.2, .int .i64 z.1, .int .i64 z.2] 35)) (.slice (some ⟨w.heap.size, 0, none⟩) 3 3) [x, y, z].length 2 (vcs [x, y, z]) := by
  refine ⟨rfl, by unfold maxLen; simp, some ⟨w.heap.size, 0, none⟩, 3, rfl, Nat.le_refl _, .inr ⟨w.heap.size, 0, rfl, by simp, fun j u hu => ?_⟩⟩
  rw [cell_of_row _ w.heap.size (0 + j) _ _ (0, 0) (heap_alloc_new w _), Nat.zero_add]
  simpa [vcs, vc] using hu

theorem qequalS {w0 w : World} {g : Nat} {R : Nat → Nat} {s : St} {a b : Int × Int} {f : Int} {r : Bool} {m : Nat} (h : StQ w0 w g R s) (hf : f ≤ 1000000) (hr : s.rEq f.toNat [(a, b)] = some (r, m)) :
    Calls Try.prog 30 #[.pointer (some ⟨g, 0, none⟩), .agg #[.int .i64 a.1, .int .i64 a.2], .agg #[.int .i64 b.1, .int .i64 b.2], .int .i64 f] w fun e w' => e = .returned (.tuple #[.bool r, .int .i64 (m : Int), .int .i64 0]) ∧ Below w.heap.size w w' := qequal h hf hr

set_option maxRecDepth 100000 in
set_option maxHeartbeats 16000000 in
theorem samebuilt_any (lv : Value) (xs : List Nat) (at_ : Int) (b : Bool) (w : World) (hs : Sl .u8 w lv xs) (hby : By xs) (ha0 : 0 ≤ at_) (ha1 : at_ ≤ 255) :
    Calls Try.prog 8 #[lv, .int .u8 at_, .bool b] w fun e w' => e = .returned (.bool true) ∧ Below w.heap.size w w' := by
  obtain ⟨i0, hi, hz0, hz1, hz2⟩ := info_parts infoVal
  have HI := Lib.hid (And.intro hi (And.intro hz0 (And.intro hz1 hz2)))
  clear hi hz0 hz1 hz2
  have HS := Lib.hid hs
  have HBY := Lib.hid hby
  obtain ⟨_, lo, lc, rfl, hcap, _⟩ := hs
  have HV1 := Lib.hid vrow1
  have HV3 := Lib.hid vrow3
  clear hby hcap
  go_enter Try.func8, Try.ntmps8
  go_wp2_with fail
  refine (qnew 4000 w _ (Below.refl _ _) (by omega)).mono ?_
  rintro e w1 ⟨g, hg, rfl, hq, hb⟩
  have HQ1 : Hid (StQ w w1 g (Rnew g) (sV [])) := Lib.hid hq
  clear hq hb hg
  go_wp2_with fail
  refine (answers7_any _).mono ?_
  rintro e w2 ⟨rfl, hb2⟩
  have HQ2 := Lib.hid (HQ1.out.below hb2)
  clear hb2
  by_cases hbig : 200 < xs.length
  · have hg : ((xs.length : Nat) : Int) > 200 := by omega
    go_wp2_with fail
    refine (answers7_any _).mono ?_
    rintro e w3 ⟨rfl, hb3⟩
    go_wp2_with fail
    go_ret
    exact ⟨rfl, HQ2.out.bel.trans (hb3.mono HQ2.out.bel.size)⟩
  have hg : ¬ ((xs.length : Nat) : Int) > 200 := by omega
  by_cases hem : xs.length = 0
  · have hz : (((xs.length : Nat) : Int) == 0) = true := by rw [beq_iff_eq]; omega
    go_wp2_with fail
    refine (answers7_any _).mono ?_
    rintro e w3 ⟨rfl, hb3⟩
    go_wp2_with fail
    go_ret
    exact ⟨rfl, HQ2.out.bel.trans (hb3.mono HQ2.out.bel.size)⟩
  have hz : (((xs.length : Nat) : Int) == 0) = false := by rw [beq_eq_false_iff_ne]; omega
  have hz3 : ¬ ((xs.length : Nat) : Int) = 0 := by omega
  obtain ⟨k, hk⟩ : ∃ k : Nat, at_.tmod ((xs.length : Nat) : Int) = ((k : Nat) : Int) := ⟨(at_.tmod ((xs.length : Nat) : Int)).toNat, by rw [Int.toNat_of_nonneg (Int.tmod_nonneg _ ha0)]⟩
  have hk2 : k < xs.length := by have := Int.tmod_lt_of_pos at_ (show (0 : Int) < ((xs.length : Nat) : Int) by omega); omega
  go_wp2_with fail
  clear hg hz hz3 hk
  go_loopw [10, 11] (fun c v wr => ∃ (n : Nat) (R : Nat → Nat), n ≤ 2 ∧ v = .int .i64 (n : Nat) ∧ StQ w wr g R (sV (osn xs k b n)) ∧ Own w wr R c (rts xs.length n)) (fun _ v _ => 2 - (intOf v).toNat)
  case atStart => exact ⟨0, _, by omega, rfl, HQ2.out, Own.nil _ _ _⟩
  case round =>
    obtain ⟨n, R, hn, rfl, hq, how⟩ := hrel
    have HQ := Lib.hid hq
    have HOW := Lib.hid how
    obtain ⟨ao, ac, hav⟩ := own_dslice how.row
    rw [rts_len] at hav
    subst hav
    clear hq how
    by_cases hlt2 : n < 2
    · have hii : ((n : Nat) : Int) < 2 := by omega
      go_upto_region 10 with fail
      have HQA := Lib.hid (HQ.out.alloc (.cells #[.int .i64 0, .int .i64 0] 35))
      have HVA := Lib.hid (Bx.new HQ.out (0, 0))
      have HOA := Lib.hid (HOW.out.below (below1 wr (.cells #[.int .i64 0, .int .i64 0] 35)))
      have HVW : Hid (w.heap.size ≤ wr.heap.size) := Lib.hid HQ.out.bel.size
      have HOV : Hid (∀ o : Nat, (Value.slice ao n ac).ownBlock ≠ some (⟨wr.heap.size, o, none⟩ : Addr).block) := Lib.hid fun o e => by have := (HOW.out.row.lt _ e).2; simp at this
      generalize wr.alloc (.cells #[.int .i64 0, .int .i64 0] 35) = w4 at *
      generalize wr.heap.size = vb at *
      go_wp2_with fail
      go_loopw [13] (fun v wr => ∃ (i : Nat) (R : Nat → Nat), i ≤ xs.length ∧ v = .int .i64 (i : Nat) ∧ StQ w wr g R (sV (osn xs k b n ++ vbx (n * xs.length) (yn xs k b n) i)) ∧ Bx wr R vb (zc (n * xs.length) i) ∧ Own w wr R (.slice ao n ac) (rts xs.length n)) (fun v _ => xs.length - (intOf v).toNat)
      case atStart => exact ⟨0, R, Nat.zero_le _, rfl, by simpa [vbx] using HQA.out, HVA.out, HOA.out⟩
      case round =>
        obtain ⟨i, R, hi, rfl, hq, hv, ho⟩ := hrel
        have HQ5 := Lib.hid hq
        have HV5 := Lib.hid hv
        have HO5 := Lib.hid ho
        clear hq hv ho
        by_cases hlt : i < xs.length
        · have hjj : ((i : Nat) : Int) < ((xs.length : Nat) : Int) := by omega
          have hsl := HS.out.below HQ5.out.bel
          obtain ⟨_, lo2, lc2, he, _, hcell⟩ := hsl
          injection he with he1 he2 he3
          subst he1 he3
          rcases hcell with ⟨hnil, _⟩ | ⟨lb, loff, rfl, _, hcell⟩
          · rw [hnil] at hlt; simp at hlt
          have hc := hcell i hlt
          clear hcell he2
          have hlb := HBY.out i
          have HMK := Lib.hid (sV_make (k := k) (b := b) hlt (by omega) (show n ≤ 1 by omega))
          obtain ⟨nv, hnv⟩ : ∃ nv, nv = n * xs.length + i := ⟨_, rfl⟩
          rw [← hnv] at HMK
          have HNV := Lib.hid hnv
          clear hnv
          obtain ⟨zz, hzz⟩ : ∃ zz, zz = zc (n * xs.length) i := ⟨_, rfl⟩
          rw [← hzz] at HMK HV5
          clear hzz
          obtain ⟨za, zd⟩ := zz
          obtain ⟨yy, hyy⟩ : ∃ yy, yy = yn xs k b n i := ⟨_, rfl⟩
          rw [← hyy] at HMK
          have HYY := Lib.hid hyy
          clear hyy
          go_upto_region 14 with fail
          have HQB := Lib.hid (HQ5.out.alloc (.cells #[.int .i64 4, .int .i64 ((limb xs i : Nat) : Int)] 35))
          have HVB := Lib.hid (HV5.out.below (below1 wr (.cells #[.int .i64 4, .int .i64 ((limb xs i : Nat) : Int)] 35)))
          have HOB := Lib.hid (HO5.out.below (below1 wr (.cells #[.int .i64 4, .int .i64 ((limb xs i : Nat) : Int)] 35)))
          have HXB := Lib.hid (Bx.new HQ5.out (4, ((limb xs i : Nat) : Int)))
          have HXW : Hid (w.heap.size ≤ wr.heap.size) := Lib.hid HQ5.out.bel.size
          have HVX : Hid (vb ≠ wr.heap.size) := Lib.hid (by have := HV5.out.lt; omega)
          have HOX : Hid (∀ o : Nat, (Value.slice ao n ac).ownBlock ≠ some (⟨wr.heap.size, o, none⟩ : Addr).block) := Lib.hid fun o e => by have := (HO5.out.row.lt _ e).2; simp at this
          generalize wr.alloc (.cells #[.int .i64 4, .int .i64 ((limb xs i : Nat) : Int)] 35) = w5 at *
          generalize wr.heap.size = xb at *
          clear hc
          by_cases h1 : n = 1
          · have hn1 : (((n : Nat) : Int) == 1) = true := by rw [beq_iff_eq]; omega
            by_cases h2 : b = true
            · by_cases h3 : i = k
              · have hik : (((i : Nat) : Int) == ((k : Nat) : Int)) = true := by rw [beq_iff_eq]; omega
                have hy : yy = ((limb xs i : Nat) : Int) + 1 := by rw [HYY.out]; unfold yn; rw [if_pos ⟨h1, h2, h3⟩]
                obtain ⟨x0, x1, xf0, xf1⟩ := HXB.out.facts
                simp only at x0 x1
                clear hjj hii h1 h3
                go_upto_region 16 with fail
                clear x0 x1 xf0 xf1 hn1 hik h2
                have HX6 : Hid (Bx (w5.setCell ⟨xb, 1, none⟩ (.int .i64 (((limb xs i : Nat) : Int) + 1))) R xb (4, yy)) := Lib.hid (by rw [hy]; exact ⟨(rowSet HXB.out.cells 1 _).trans (by simp), HXB.out.free⟩)
                have HQ6 := Lib.hid (HQB.out.set (p := ⟨xb, 1, none⟩) HXW.out HXB.out.free (.int .i64 (((limb xs i : Nat) : Int) + 1)))
                have HV6 := Lib.hid (HVB.out.other (p := ⟨xb, 1, none⟩) HVX.out (.int .i64 (((limb xs i : Nat) : Int) + 1)))
                have HO6 := Lib.hid (HOB.out.set (p := ⟨xb, 1, none⟩) (HOX.out 0) (.int .i64 (((limb xs i : Nat) : Int) + 1)))
                generalize w5.setCell ⟨xb, 1, none⟩ (.int .i64 (((limb xs i : Nat) : Int) + 1)) = w6 at *
                clear hy
                obtain ⟨x0, x1, _⟩ := HX6.out.facts
                obtain ⟨v0, v1, _⟩ := HV6.out.facts
                simp only at x0 x1 v0 v1
                go_wp2_with fail
                refine (qmake (HQ6.out.alloc _) (HV3.out _ (4, yy) (za, zd) (4, yy)) (by simp) HMK.out).mono ?_
                rintro e w7 ⟨rfl, R7, hq7, hf7, hr7⟩
                have HQ7 := Lib.hid (hq7.alloc (.cells #[.int .i64 7, .int .i64 (nv : Int)] 35))
                have hv7 := (HV6.out.below (below1 w6 _)).keep hf7 hr7
                have ho7 := (HO6.out.below (below1 w6 _)).keep hf7 hr7
                have HV7 := Lib.hid (hv7.below (below1 w7 (.cells #[.int .i64 7, .int .i64 (nv : Int)] 35)))
                have HO7 := Lib.hid (ho7.below (below1 w7 (.cells #[.int .i64 7, .int .i64 (nv : Int)] 35)))
                have HP7 := Lib.hid (Bx.new hq7 (7, (nv : Int)))
                clear hq7 hf7 hr7 hv7 ho7 x0 x1 v0 v1
                go_upto_region 19 with fail
                generalize w7.alloc (.cells #[.int .i64 7, .int .i64 (nv : Int)] 35) = w8 at *
                generalize w7.heap.size = pb at *
                obtain ⟨p0, p1, _⟩ := HP7.out.facts
                obtain ⟨v0, v1, vf0, vf1⟩ := HV7.out.facts
                simp only at p0 p1 v0 v1
                go_wp2_with fail
                go_roundw
                case measure => simp only [intOf]; omega
                case rel =>
                  refine ⟨i + 1, R7, by omega, by go_num, (HQ7.out.set (p := ⟨vb, 0, none⟩) HVW.out HV7.out.free _).set (p := ⟨vb, 1, none⟩) HVW.out HV7.out.free _, ?_, (HO7.out.set (p := ⟨vb, 0, none⟩) (HOV.out 0) _).set (p := ⟨vb, 1, none⟩) (HOV.out 0) _⟩
                  have hz : zc (n * xs.length) (i + 1) = (7, ((nv : Nat) : Int)) := by unfold zc; rw [if_neg (by omega), show n * xs.length + (i + 1) - 1 = nv by have := HNV.out; omega]
                  rw [hz]
                  exact HV7.out.put (7, ((nv : Nat) : Int))
              · have hy : ((limb xs i : Nat) : Int) = yy := by rw [HYY.out]; unfold yn; rw [if_neg (fun h => h3 h.2.2)]; omega
                have hik : (((i : Nat) : Int) == ((k : Nat) : Int)) = false := by rw [beq_eq_false_iff_ne]; omega
                clear hjj hii h1 h3
                go_upto_region 16 with fail
                clear hn1 hik h2
                rw [hy] at HXB
                have HX6 := HXB
                have HQ6 := HQB
                have HV6 := HVB
                have HO6 := HOB
                clear hy
                obtain ⟨x0, x1, _⟩ := HX6.out.facts
                obtain ⟨v0, v1, _⟩ := HV6.out.facts
                simp only at x0 x1 v0 v1
                go_wp2_with fail
                refine (qmake (HQ6.out.alloc _) (HV3.out _ (4, yy) (za, zd) (4, yy)) (by simp) HMK.out).mono ?_
                rintro e w7 ⟨rfl, R7, hq7, hf7, hr7⟩
                have HQ7 := Lib.hid (hq7.alloc (.cells #[.int .i64 7, .int .i64 (nv : Int)] 35))
                have hv7 := (HV6.out.below (below1 w5 _)).keep hf7 hr7
                have ho7 := (HO6.out.below (below1 w5 _)).keep hf7 hr7
                have HV7 := Lib.hid (hv7.below (below1 w7 (.cells #[.int .i64 7, .int .i64 (nv : Int)] 35)))
                have HO7 := Lib.hid (ho7.below (below1 w7 (.cells #[.int .i64 7, .int .i64 (nv : Int)] 35)))
                have HP7 := Lib.hid (Bx.new hq7 (7, (nv : Int)))
                clear hq7 hf7 hr7 hv7 ho7 x0 x1 v0 v1
                go_upto_region 19 with fail
                generalize w7.alloc (.cells #[.int .i64 7, .int .i64 (nv : Int)] 35) = w8 at *
                generalize w7.heap.size = pb at *
                obtain ⟨p0, p1, _⟩ := HP7.out.facts
                obtain ⟨v0, v1, vf0, vf1⟩ := HV7.out.facts
                simp only at p0 p1 v0 v1
                go_wp2_with fail
                go_roundw
                case measure => simp only [intOf]; omega
                case rel =>
                  refine ⟨i + 1, R7, by omega, by go_num, (HQ7.out.set (p := ⟨vb, 0, none⟩) HVW.out HV7.out.free _).set (p := ⟨vb, 1, none⟩) HVW.out HV7.out.free _, ?_, (HO7.out.set (p := ⟨vb, 0, none⟩) (HOV.out 0) _).set (p := ⟨vb, 1, none⟩) (HOV.out 0) _⟩
                  have hz : zc (n * xs.length) (i + 1) = (7, ((nv : Nat) : Int)) := by unfold zc; rw [if_neg (by omega), show n * xs.length + (i + 1) - 1 = nv by have := HNV.out; omega]
                  rw [hz]
                  exact HV7.out.put (7, ((nv : Nat) : Int))
            · have hy : ((limb xs i : Nat) : Int) = yy := by rw [HYY.out]; unfold yn; rw [if_neg (fun h => h2 h.2.1)]; omega
              have hbf : b = false := by simpa using h2
              clear hjj hii h1 h2
              go_upto_region 16 with fail
              clear hn1 hbf
              rw [hy] at HXB
              have HX6 := HXB
              have HQ6 := HQB
              have HV6 := HVB
              have HO6 := HOB
              clear hy
              obtain ⟨x0, x1, _⟩ := HX6.out.facts
              obtain ⟨v0, v1, _⟩ := HV6.out.facts
              simp only at x0 x1 v0 v1
              go_wp2_with fail
              refine (qmake (HQ6.out.alloc _) (HV3.out _ (4, yy) (za, zd) (4, yy)) (by simp) HMK.out).mono ?_
              rintro e w7 ⟨rfl, R7, hq7, hf7, hr7⟩
              have HQ7 := Lib.hid (hq7.alloc (.cells #[.int .i64 7, .int .i64 (nv : Int)] 35))
              have hv7 := (HV6.out.below (below1 w5 _)).keep hf7 hr7
              have ho7 := (HO6.out.below (below1 w5 _)).keep hf7 hr7
              have HV7 := Lib.hid (hv7.below (below1 w7 (.cells #[.int .i64 7, .int .i64 (nv : Int)] 35)))
              have HO7 := Lib.hid (ho7.below (below1 w7 (.cells #[.int .i64 7, .int .i64 (nv : Int)] 35)))
              have HP7 := Lib.hid (Bx.new hq7 (7, (nv : Int)))
              clear hq7 hf7 hr7 hv7 ho7 x0 x1 v0 v1
              go_upto_region 19 with fail
              generalize w7.alloc (.cells #[.int .i64 7, .int .i64 (nv : Int)] 35) = w8 at *
              generalize w7.heap.size = pb at *
              obtain ⟨p0, p1, _⟩ := HP7.out.facts
              obtain ⟨v0, v1, vf0, vf1⟩ := HV7.out.facts
              simp only at p0 p1 v0 v1
              go_wp2_with fail
              go_roundw
              case measure => simp only [intOf]; omega
              case rel =>
                refine ⟨i + 1, R7, by omega, by go_num, (HQ7.out.set (p := ⟨vb, 0, none⟩) HVW.out HV7.out.free _).set (p := ⟨vb, 1, none⟩) HVW.out HV7.out.free _, ?_, (HO7.out.set (p := ⟨vb, 0, none⟩) (HOV.out 0) _).set (p := ⟨vb, 1, none⟩) (HOV.out 0) _⟩
                have hz : zc (n * xs.length) (i + 1) = (7, ((nv : Nat) : Int)) := by unfold zc; rw [if_neg (by omega), show n * xs.length + (i + 1) - 1 = nv by have := HNV.out; omega]
                rw [hz]
                exact HV7.out.put (7, ((nv : Nat) : Int))
          · have hy : ((limb xs i : Nat) : Int) = yy := by rw [HYY.out]; unfold yn; rw [if_neg (fun h => h1 h.1)]; omega
            have hn1 : (((n : Nat) : Int) == 1) = false := by rw [beq_eq_false_iff_ne]; omega
            clear hjj hii h1
            go_upto_region 16 with fail
            clear hn1
            rw [hy] at HXB
            have HX6 := HXB
            have HQ6 := HQB
            have HV6 := HVB
            have HO6 := HOB
            clear hy
            obtain ⟨x0, x1, _⟩ := HX6.out.facts
            obtain ⟨v0, v1, _⟩ := HV6.out.facts
            simp only at x0 x1 v0 v1
            go_wp2_with fail
            refine (qmake (HQ6.out.alloc _) (HV3.out _ (4, yy) (za, zd) (4, yy)) (by simp) HMK.out).mono ?_
            rintro e w7 ⟨rfl, R7, hq7, hf7, hr7⟩
            have HQ7 := Lib.hid (hq7.alloc (.cells #[.int .i64 7, .int .i64 (nv : Int)] 35))
            have hv7 := (HV6.out.below (below1 w5 _)).keep hf7 hr7
            have ho7 := (HO6.out.below (below1 w5 _)).keep hf7 hr7
            have HV7 := Lib.hid (hv7.below (below1 w7 (.cells #[.int .i64 7, .int .i64 (nv : Int)] 35)))
            have HO7 := Lib.hid (ho7.below (below1 w7 (.cells #[.int .i64 7, .int .i64 (nv : Int)] 35)))
            have HP7 := Lib.hid (Bx.new hq7 (7, (nv : Int)))
            clear hq7 hf7 hr7 hv7 ho7 x0 x1 v0 v1
            go_upto_region 19 with fail
            generalize w7.alloc (.cells #[.int .i64 7, .int .i64 (nv : Int)] 35) = w8 at *
            generalize w7.heap.size = pb at *
            obtain ⟨p0, p1, _⟩ := HP7.out.facts
            obtain ⟨v0, v1, vf0, vf1⟩ := HV7.out.facts
            simp only at p0 p1 v0 v1
            go_wp2_with fail
            go_roundw
            case measure => simp only [intOf]; omega
            case rel =>
              refine ⟨i + 1, R7, by omega, by go_num, (HQ7.out.set (p := ⟨vb, 0, none⟩) HVW.out HV7.out.free _).set (p := ⟨vb, 1, none⟩) HVW.out HV7.out.free _, ?_, (HO7.out.set (p := ⟨vb, 0, none⟩) (HOV.out 0) _).set (p := ⟨vb, 1, none⟩) (HOV.out 0) _⟩
              have hz : zc (n * xs.length) (i + 1) = (7, ((nv : Nat) : Int)) := by unfold zc; rw [if_neg (by omega), show n * xs.length + (i + 1) - 1 = nv by have := HNV.out; omega]
              rw [hz]
              exact HV7.out.put (7, ((nv : Nat) : Int))
        · obtain rfl : i = xs.length := by omega
          have hjj : ¬ ((xs.length : Nat) : Int) < ((xs.length : Nat) : Int) := by omega
          have hzc : zc (n * xs.length) xs.length = (7, ((n * xs.length + (xs.length - 1) : Nat) : Int)) := by unfold zc; rw [if_neg hem, show n * xs.length + xs.length - 1 = n * xs.length + (xs.length - 1) by omega]
          rw [hzc] at HV5
          clear hzc
          have HRS := Lib.hid (rts_succ xs.length n)
          obtain ⟨nv, hnv⟩ : ∃ nv, nv = n * xs.length + (xs.length - 1) := ⟨_, rfl⟩
          rw [← hnv] at HV5 HRS
          clear hnv
          obtain ⟨v0, v1, vf0, vf1⟩ := HV5.out.facts
          simp only at v0 v1
          have HOR := Lib.hid ((HO5.out.below (below1 wr (.cells #[.int .i64 7, .int .i64 (nv : Int)] 35))).row)
          rw [rts_len] at HOR
          have hi0 := HI.out.1
          have hz0 := HI.out.2.1
          have hz1 := HI.out.2.2.1
          have hz2 := HI.out.2.2.2
          go_wp2_with (at_builtin; go_loud (refine wpList_append_row _ rfl _ _ 33 rfl w.heap.size 35 i0 _ 2 16 Try.underlying33 hi0 hz0 hz1 hz2 rfl (by decide) (.slice ao n ac) n (vcs (rts xs.length n)) rfl HOR.out _ 1 (vcs [(7, (nv : Int))]) rfl (HV1.out _ (7, (nv : Int))) (vcs_one _) (by unfold maxLen; omega) (by omega) (by have := HQ5.out.bel.size; simp; omega) ?_); go_loud (intro v' w7 hown7 hgrow7 hmv7; rw [← vcs_append, ← HRS.out] at hown7; have HO7 := Lib.hid hown7; have HG7 := Lib.hid hgrow7; have HM7 := Lib.hid hmv7; clear hown7 hgrow7 hmv7 hi0 hz0 hz1 hz2))
          go_roundw
          case measure => simp only [intOf]; omega
          case rel =>
            have hof : ∀ b, (Value.slice ao n ac).ownBlock = some b → w.heap.size ≤ b ∧ R b = 0 := fun b hb => ⟨(HO5.out.row.lt b hb).1, HO5.out.free b hb⟩
            refine ⟨n + 1, R, by omega, by go_num, ?_, ⟨by rw [rts_len]; exact HO7.out, fun b hb => ?_⟩⟩
            · rw [osn_succ]
              exact (HQ5.out.alloc _).grown HG7.out fun b hb => hof b hb
            · rcases HM7.out with e | ⟨b2, e, hge⟩
              · exact (hof b (e ▸ hb)).2
              · rw [e] at hb
                injection hb with hb
                subst hb
                exact HQ5.out.new_zero (by simp at hge; omega)
    · obtain rfl : n = 2 := by omega
      have hii : ¬ ((2 : Nat) : Int) < 2 := by omega
      obtain ⟨ff, hff⟩ := trees_all (xs := xs) (k := k) b hk2 (by omega)
      have hne : (sV (osn xs k b 2)).eqvA (7, ((0 * xs.length + (xs.length - 1) : Nat) : Int)) (7, ((1 * xs.length + (xs.length - 1) : Nat) : Int)) = false := tree_ne (by omega)
      obtain ⟨ob, off, cap', e, _, p0, p1⟩ := vrow_at HOW.out.rowV (k := 0) (by rw [rts_len]; omega)
      obtain ⟨ob2, off2, cap2, e2, _, q0, q1⟩ := vrow_at HOW.out.rowV (k := 1) (by rw [rts_len]; omega)
      rw [rts_len] at e e2
      simp only [Value.slice.injEq, true_and] at e e2
      obtain ⟨rfl, rfl⟩ := e
      obtain ⟨e3, rfl⟩ := e2
      simp only [Option.some.injEq, Addr.mk.injEq, and_true] at e3
      obtain ⟨rfl, rfl⟩ := e3
      simp only [rts, List.getElem_map, List.getElem_range, Nat.zero_mul, Nat.one_mul, Nat.add_zero] at p0 p1 q0 q1
      obtain ⟨ra, hra⟩ : ∃ ra, ra = 0 * xs.length + (xs.length - 1) := ⟨_, rfl⟩
      obtain ⟨rb, hrb⟩ : ∃ rb, rb = 1 * xs.length + (xs.length - 1) := ⟨_, rfl⟩
      rw [← hra, ← hrb] at hff hne
      rw [show 0 + (xs.length - 1) = ra by rw [hra]; omega] at p1
      rw [show xs.length + (xs.length - 1) = rb by rw [hrb]; omega] at q1
      have HFF := Lib.hid hff
      have HNE := Lib.hid hne
      have hb0 : (0 : Int) < ((2 : Nat) : Int) := by omega
      have hb1 : (1 : Int) < ((2 : Nat) : Int) := by omega
      have HRW := Lib.hid HOW.out.rowV
      clear hff hne hra hrb
      have hob : ob < wr.heap.size := ‹_›
      have HXQ : Hid (∀ W, Below wr.heap.size wr W → W.cell? ⟨ob, off, none⟩ = some (.int .i64 7) ∧ W.cell? ⟨ob, off + 1, none⟩ = some (.int .i64 (ra : Int)) ∧ W.cell? ⟨ob, off + 2, none⟩ = some (.int .i64 7) ∧ W.cell? ⟨ob, off + 2 + 1, none⟩ = some (.int .i64 (rb : Int))) := Lib.hid fun W hW =>
        ⟨(hW.cell (p := ⟨ob, off, none⟩) hob).trans p0, (hW.cell (p := ⟨ob, off + 1, none⟩) hob).trans p1, (hW.cell (p := ⟨ob, off + 2, none⟩) hob).trans q0, (hW.cell (p := ⟨ob, off + 2 + 1, none⟩) hob).trans q1⟩
      go_upto_region 21 with fail
      clear p0 p1 q0 q1 hob
      refine wp_region_slotsG (psi [isV (.pointer (some ⟨g, 0, none⟩)), isV (.slice (some ⟨ob, off, none⟩) 2 ac), isV (.pointer (some ⟨ob, off, none⟩)), isV (.agg #[.int .i64 7, .int .i64 (ra : Int)]), isV (.slice (some ⟨ob, off, none⟩) 2 ac), isV (.pointer (some ⟨ob, off + 2, none⟩)), isV (.agg #[.int .i64 7, .int .i64 (rb : Int)]), isV (.tuple #[.bool (!b), .int .i64 (ff : Int), .int .i64 0]), isV (.tuple #[.bool (!b), .int .i64 (ff : Int), .int .i64 0]), isV (.bool (!b)), isV (.int .i64 (ff : Int)), isV (.int .i64 0), isV (.bool (!b)), isV (.int .i64 (ff : Int)), isV (.int .i64 0)]) (fun W => Below wr.heap.size wr W) (by kernel_rfl) (Below.refl _ _).drew (psi_mono ?_) (by kernel_rfl) (by kernel_rfl) ?_ ?_
      · intro p hp
        simp only [List.mem_cons, List.not_mem_nil, or_false] at hp
        (repeat' rcases hp with rfl | hp) <;> first | exact isV_stays _ | (subst hp; exact isV_stays _)
      · refine AllOps.cons ?_ ?_
        · intro ab W hC hB hdep
          refine .inl ⟨rfl, ?_⟩
          have b0 : ab.tmps.getD 7 undef = .pointer (some ⟨g, 0, none⟩) := hB.off 7 (by kernel_rfl)
          clear hB hdep
          refine goes_value (v := .pointer (some ⟨g, 0, none⟩)) ?_ hC rfl
          simp only [execOp, Act.eval, b0]
          go_simp
        refine AllOps.cons ?_ ?_
        · intro ab W hC hB hdep
          refine .inl ⟨rfl, ?_⟩
          have b0 : ab.tmps.getD 10 undef = .slice (some ⟨ob, off, none⟩) 2 ac := hB.off 10 (by kernel_rfl)
          clear hB hdep
          refine goes_value (v := .slice (some ⟨ob, off, none⟩) 2 ac) ?_ hC rfl
          simp only [execOp, Act.eval, b0]
          go_simp
        refine AllOps.cons ?_ ?_
        · intro ab W hC hB hdep
          refine .inl ⟨rfl, ?_⟩
          obtain ⟨x0, (q0 : x0 = .slice (some ⟨ob, off, none⟩) 2 ac), e0⟩ := hdep 1 95 (by kernel_rfl)
          subst q0
          clear hB hdep
          refine goes_value (v := .pointer (some ⟨ob, off, none⟩)) ?_ hC rfl
          simp only [execOp, Act.eval, e0]
          go_simp
        refine AllOps.cons ?_ ?_
        · intro ab W hC hB hdep
          refine .inl ⟨rfl, ?_⟩
          obtain ⟨x0, (q0 : x0 = .pointer (some ⟨ob, off, none⟩)), e0⟩ := hdep 2 96 (by kernel_rfl)
          subst q0
          obtain ⟨c0, c1, c2, c3⟩ := HXQ.out W hC
          clear hB hdep
          refine goes_value (v := .agg #[.int .i64 7, .int .i64 (ra : Int)]) ?_ hC rfl
          simp only [execOp, Act.eval, e0]
          go_simp
        refine AllOps.cons ?_ ?_
        · intro ab W hC hB hdep
          refine .inl ⟨rfl, ?_⟩
          have b0 : ab.tmps.getD 10 undef = .slice (some ⟨ob, off, none⟩) 2 ac := hB.off 10 (by kernel_rfl)
          clear hB hdep
          refine goes_value (v := .slice (some ⟨ob, off, none⟩) 2 ac) ?_ hC rfl
          simp only [execOp, Act.eval, b0]
          go_simp
        refine AllOps.cons ?_ ?_
        · intro ab W hC hB hdep
          refine .inl ⟨rfl, ?_⟩
          obtain ⟨x0, (q0 : x0 = .slice (some ⟨ob, off, none⟩) 2 ac), e0⟩ := hdep 4 98 (by kernel_rfl)
          subst q0
          clear hB hdep
          refine goes_value (v := .pointer (some ⟨ob, off + 2, none⟩)) ?_ hC rfl
          simp only [execOp, Act.eval, e0]
          go_simp
        refine AllOps.cons ?_ ?_
        · intro ab W hC hB hdep
          refine .inl ⟨rfl, ?_⟩
          obtain ⟨x0, (q0 : x0 = .pointer (some ⟨ob, off + 2, none⟩)), e0⟩ := hdep 5 99 (by kernel_rfl)
          subst q0
          obtain ⟨c0, c1, c2, c3⟩ := HXQ.out W hC
          clear hB hdep
          refine goes_value (v := .agg #[.int .i64 7, .int .i64 (rb : Int)]) ?_ hC rfl
          simp only [execOp, Act.eval, e0]
          go_simp
        refine AllOps.cons ?_ ?_
        · intro ab W hC hB hdep
          refine .inl ⟨rfl, ?_⟩
          obtain ⟨x0, (q0 : x0 = .pointer (some ⟨g, 0, none⟩)), e0⟩ := hdep 0 94 (by kernel_rfl)
          subst q0
          obtain ⟨x1, (q1 : x1 = .agg #[.int .i64 7, .int .i64 (ra : Int)]), e1⟩ := hdep 3 97 (by kernel_rfl)
          subst q1
          obtain ⟨x2, (q2 : x2 = .agg #[.int .i64 7, .int .i64 (rb : Int)]), e2⟩ := hdep 6 100 (by kernel_rfl)
          subst q2
          clear hB hdep
          refine goes_call (f := 30) (args := #[.pointer (some ⟨g, 0, none⟩), .agg #[.int .i64 7, .int .i64 (ra : Int)], .agg #[.int .i64 7, .int .i64 (rb : Int)], .int .i64 2000]) ?_ ?_
          · simp only [execOp]
            go_simp
          · exact (qequalS (f := 2000) (a := (7, (ra : Int))) (b := (7, (rb : Int))) (HQ.out.below hC) (by omega) HFF.out).mono fun e w7 ⟨he, hb⟩ => ⟨_, he, hC.trans (hb.mono hC.size), hb, rfl⟩
        refine AllOps.cons ?_ ?_
        · intro ab W hC hB hdep
          refine .inl ⟨rfl, ?_⟩
          obtain ⟨x0, (q0 : x0 = .tuple #[.bool (!b), .int .i64 (ff : Int), .int .i64 0]), e0⟩ := hdep 7 101 (by kernel_rfl)
          subst q0
          clear hB hdep
          refine goes_value (v := .tuple #[.bool (!b), .int .i64 (ff : Int), .int .i64 0]) ?_ hC rfl
          simp only [execOp, Act.eval, e0]
          go_simp
        refine AllOps.cons ?_ ?_
        · intro ab W hC hB hdep
          refine .inl ⟨rfl, ?_⟩
          obtain ⟨x0, (q0 : x0 = .tuple #[.bool (!b), .int .i64 (ff : Int), .int .i64 0]), e0⟩ := hdep 8 93 (by kernel_rfl)
          subst q0
          clear hB hdep
          refine goes_value (v := .bool (!b)) ?_ hC rfl
          simp only [execOp, Act.eval, e0]
          go_simp
        refine AllOps.cons ?_ ?_
        · intro ab W hC hB hdep
          refine .inl ⟨rfl, ?_⟩
          obtain ⟨x0, (q0 : x0 = .tuple #[.bool (!b), .int .i64 (ff : Int), .int .i64 0]), e0⟩ := hdep 8 93 (by kernel_rfl)
          subst q0
          clear hB hdep
          refine goes_value (v := .int .i64 (ff : Int)) ?_ hC rfl
          simp only [execOp, Act.eval, e0]
          go_simp
        refine AllOps.cons ?_ ?_
        · intro ab W hC hB hdep
          refine .inl ⟨rfl, ?_⟩
          obtain ⟨x0, (q0 : x0 = .tuple #[.bool (!b), .int .i64 (ff : Int), .int .i64 0]), e0⟩ := hdep 8 93 (by kernel_rfl)
          subst q0
          clear hB hdep
          refine goes_value (v := .int .i64 0) ?_ hC rfl
          simp only [execOp, Act.eval, e0]
          go_simp
        refine AllOps.cons ?_ ?_
        · intro ab W hC hB hdep
          refine .inl ⟨rfl, ?_⟩
          obtain ⟨x0, (q0 : x0 = .bool (!b)), e0⟩ := hdep 9 102 (by kernel_rfl)
          subst q0
          clear hB hdep
          refine goes_value (v := .bool (!b)) ?_ hC rfl
          simp only [execOp, Act.eval, e0]
          go_simp
        refine AllOps.cons ?_ ?_
        · intro ab W hC hB hdep
          refine .inl ⟨rfl, ?_⟩
          obtain ⟨x0, (q0 : x0 = .int .i64 (ff : Int)), e0⟩ := hdep 10 103 (by kernel_rfl)
          subst q0
          clear hB hdep
          refine goes_value (v := .int .i64 (ff : Int)) ?_ hC rfl
          simp only [execOp, Act.eval, e0]
          go_simp
        refine AllOps.cons ?_ ?_
        · intro ab W hC hB hdep
          refine .inl ⟨rfl, ?_⟩
          obtain ⟨x0, (q0 : x0 = .int .i64 0), e0⟩ := hdep 11 104 (by kernel_rfl)
          subst q0
          clear hB hdep
          refine goes_value (v := .int .i64 0) ?_ hC rfl
          simp only [execOp, Act.eval, e0]
          go_simp
        exact trivial
      · intro aa w8 hC hB hall
        obtain ⟨_, (k12 : _ = _), e12⟩ := hall 12 _ rfl
        have s17 : aa.tmps.getD 17 undef = .bool (!b) := (e12 _ rfl).trans k12
        obtain ⟨_, (k14 : _ = _), e14⟩ := hall 14 _ rfl
        have s19 : aa.tmps.getD 19 undef = .int .i64 0 := (e14 _ rfl).trans k14
        have s2 : aa.tmps.getD 2 undef = .bool b := hB.off 2 (by kernel_rfl)
        have s7 : aa.tmps.getD 7 undef = .pointer (some ⟨g, 0, none⟩) := hB.off 7 (by kernel_rfl)
        have s10 : aa.tmps.getD 10 undef = .slice (some ⟨ob, off, none⟩) 2 ac := hB.off 10 (by kernel_rfl)
        have hsz : aa.tmps.size = 124 := hB.size
        have hdf : aa.defers = [] := hB.defers
        clear hall hB
        refine (‹∀ (a : Act) (w : World), Code.wp Try.prog _ _ a w → _›) _ w8 ?_
        have HQ6 := Lib.hid (HQ.out.below hC)
        have HXR : Hid (∀ W, Below w8.heap.size w8 W → W.cell? ⟨ob, off, none⟩ = some (.int .i64 7) ∧ W.cell? ⟨ob, off + 1, none⟩ = some (.int .i64 (ra : Int)) ∧ W.cell? ⟨ob, off + 2, none⟩ = some (.int .i64 7) ∧ W.cell? ⟨ob, off + 2 + 1, none⟩ = some (.int .i64 (rb : Int))) := Lib.hid fun W hW => HXQ.out W (hC.trans (hW.mono hC.size))
        clear hC
        have S2 := Lib.hid s2
        have S7 := Lib.hid s7
        have S10 := Lib.hid s10
        have S17 := Lib.hid s17
        have S19 := Lib.hid s19
        have SZ := Lib.hid hsz
        have DF := Lib.hid hdf
        clear s2 s7 s10 s17 s19 hsz hdf
        generalize aa = ac0 at *
        generalize w8 = w6 at *
        go_upto_region 22 with fail
        refine wp_region_slotsG (psi [isV (.int .i64 0), isV (.bool true), isV (.bool true), isV (.bool (!b)), isV (.bool b), isV (.bool (!b)), isV (.bool true), isV (.bool true), isV (.bool true), isV (.pointer (some ⟨g, 0, none⟩)), isV (.slice (some ⟨ob, off, none⟩) 2 ac), isV (.pointer (some ⟨ob, off, none⟩)), isV (.agg #[.int .i64 7, .int .i64 (ra : Int)]), isV (.slice (some ⟨ob, off, none⟩) 2 ac), isV (.pointer (some ⟨ob, off + 2, none⟩)), isV (.agg #[.int .i64 7, .int .i64 (rb : Int)]), isV (.bool false), isV (.bool true), isV (.bool true), isV (.bool true)]) (fun W => Below w6.heap.size w6 W) (by kernel_rfl) (Below.refl _ _).drew (psi_mono ?_) (by kernel_rfl) (by rw [SZ.out]; kernel_rfl) ?_ ?_
        · intro p hp
          simp only [List.mem_cons, List.not_mem_nil, or_false] at hp
          (repeat' rcases hp with rfl | hp) <;> first | exact isV_stays _ | (subst hp; exact isV_stays _)
        · refine AllOps.cons ?_ ?_
          · intro ab W hC hB hdep
            refine .inl ⟨rfl, ?_⟩
            have b0 : ab.tmps.getD 19 undef = .int .i64 0 := (hB.off 19 (by kernel_rfl)).trans S19.out
            clear hB hdep
            refine goes_value (v := .int .i64 0) ?_ hC rfl
            simp only [execOp, Act.eval, b0]
            go_simp
          refine AllOps.cons ?_ ?_
          · intro ab W hC hB hdep
            refine .inl ⟨rfl, ?_⟩
            obtain ⟨x0, (q0 : x0 = .int .i64 0), e0⟩ := hdep 0 105 (by kernel_rfl)
            subst q0
            clear hB hdep
            refine goes_value (v := .bool true) ?_ hC rfl
            simp only [execOp, Act.eval, e0]
            go_simp
          refine AllOps.cons ?_ ?_
          · intro ab W hC hB hdep
            refine .inl ⟨rfl, ?_⟩
            obtain ⟨x0, (q0 : x0 = .bool true), e0⟩ := hdep 1 106 (by kernel_rfl)
            subst q0
            clear hB hdep
            refine goes_value (v := .bool true) ?_ hC rfl
            simp only [execOp, Act.eval, e0]
            go_simp
          refine AllOps.cons ?_ ?_
          · intro ab W hC hB hdep
            obtain ⟨xg, (qg : xg = .bool true), eg⟩ := hdep 2 107 (by kernel_rfl)
            subst qg
            refine .inl ⟨(wanted_is (g := 2) (t := 107) (b := true) (c := true) rfl rfl (by rw [hB.size, SZ.out]; exact Nat.le_of_ble_eq_true rfl) eg).trans rfl, ?_⟩
            have b0 : ab.tmps.getD 17 undef = .bool (!b) := (hB.off 17 (by kernel_rfl)).trans S17.out
            clear hB hdep
            refine goes_value (v := .bool (!b)) ?_ hC rfl
            simp only [execOp, Act.eval, b0]
            go_simp
          refine AllOps.cons ?_ ?_
          · intro ab W hC hB hdep
            obtain ⟨xg, (qg : xg = .bool true), eg⟩ := hdep 2 107 (by kernel_rfl)
            subst qg
            refine .inl ⟨(wanted_is (g := 2) (t := 107) (b := true) (c := true) rfl rfl (by rw [hB.size, SZ.out]; exact Nat.le_of_ble_eq_true rfl) eg).trans rfl, ?_⟩
            have b0 : ab.tmps.getD 2 undef = .bool b := (hB.off 2 (by kernel_rfl)).trans S2.out
            clear hB hdep
            refine goes_value (v := .bool b) ?_ hC rfl
            simp only [execOp, Act.eval, b0]
            go_simp
          refine AllOps.cons ?_ ?_
          · intro ab W hC hB hdep
            obtain ⟨xg, (qg : xg = .bool true), eg⟩ := hdep 2 107 (by kernel_rfl)
            subst qg
            refine .inl ⟨(wanted_is (g := 2) (t := 107) (b := true) (c := true) rfl rfl (by rw [hB.size, SZ.out]; exact Nat.le_of_ble_eq_true rfl) eg).trans rfl, ?_⟩
            obtain ⟨x0, (q0 : x0 = .bool b), e0⟩ := hdep 4 109 (by kernel_rfl)
            subst q0
            clear hB hdep
            refine goes_value (v := .bool (!b)) ?_ hC rfl
            simp only [execOp, Act.eval, e0]
            go_simp
          refine AllOps.cons ?_ ?_
          · intro ab W hC hB hdep
            obtain ⟨xg, (qg : xg = .bool true), eg⟩ := hdep 2 107 (by kernel_rfl)
            subst qg
            refine .inl ⟨(wanted_is (g := 2) (t := 107) (b := true) (c := true) rfl rfl (by rw [hB.size, SZ.out]; exact Nat.le_of_ble_eq_true rfl) eg).trans rfl, ?_⟩
            obtain ⟨x0, (q0 : x0 = .bool (!b)), e0⟩ := hdep 3 108 (by kernel_rfl)
            subst q0
            obtain ⟨x1, (q1 : x1 = .bool (!b)), e1⟩ := hdep 5 110 (by kernel_rfl)
            subst q1
            clear hB hdep
            refine goes_value (v := .bool true) ?_ hC rfl
            simp only [execOp, Act.eval, e0, e1]
            go_simp
          refine AllOps.cons ?_ ?_
          · intro ab W hC hB hdep
            refine .inl ⟨rfl, ?_⟩
            obtain ⟨x0, (q0 : x0 = .bool true), e0⟩ := hdep 2 107 (by kernel_rfl)
            subst q0
            obtain ⟨x1, (q1 : x1 = .bool true), e1⟩ := hdep 6 111 (by kernel_rfl)
            subst q1
            clear hB hdep
            refine goes_value (v := .bool true) ?_ hC rfl
            simp only [execOp, Act.eval, e0, e1]
            go_simp
          refine AllOps.cons ?_ ?_
          · intro ab W hC hB hdep
            refine .inl ⟨rfl, ?_⟩
            obtain ⟨x0, (q0 : x0 = .bool true), e0⟩ := hdep 7 112 (by kernel_rfl)
            subst q0
            clear hB hdep
            refine goes_value (v := .bool true) ?_ hC rfl
            simp only [execOp, Act.eval, e0]
            go_simp
          refine AllOps.cons ?_ ?_
          · intro ab W hC hB hdep
            obtain ⟨xg, (qg : xg = .bool true), eg⟩ := hdep 8 113 (by kernel_rfl)
            subst qg
            refine .inl ⟨(wanted_is (g := 8) (t := 113) (b := true) (c := true) rfl rfl (by rw [hB.size, SZ.out]; exact Nat.le_of_ble_eq_true rfl) eg).trans rfl, ?_⟩
            have b0 : ab.tmps.getD 7 undef = .pointer (some ⟨g, 0, none⟩) := (hB.off 7 (by kernel_rfl)).trans S7.out
            clear hB hdep
            refine goes_value (v := .pointer (some ⟨g, 0, none⟩)) ?_ hC rfl
            simp only [execOp, Act.eval, b0]
            go_simp
          refine AllOps.cons ?_ ?_
          · intro ab W hC hB hdep
            obtain ⟨xg, (qg : xg = .bool true), eg⟩ := hdep 8 113 (by kernel_rfl)
            subst qg
            refine .inl ⟨(wanted_is (g := 8) (t := 113) (b := true) (c := true) rfl rfl (by rw [hB.size, SZ.out]; exact Nat.le_of_ble_eq_true rfl) eg).trans rfl, ?_⟩
            have b0 : ab.tmps.getD 10 undef = .slice (some ⟨ob, off, none⟩) 2 ac := (hB.off 10 (by kernel_rfl)).trans S10.out
            clear hB hdep
            refine goes_value (v := .slice (some ⟨ob, off, none⟩) 2 ac) ?_ hC rfl
            simp only [execOp, Act.eval, b0]
            go_simp
          refine AllOps.cons ?_ ?_
          · intro ab W hC hB hdep
            obtain ⟨xg, (qg : xg = .bool true), eg⟩ := hdep 8 113 (by kernel_rfl)
            subst qg
            refine .inl ⟨(wanted_is (g := 8) (t := 113) (b := true) (c := true) rfl rfl (by rw [hB.size, SZ.out]; exact Nat.le_of_ble_eq_true rfl) eg).trans rfl, ?_⟩
            obtain ⟨x0, (q0 : x0 = .slice (some ⟨ob, off, none⟩) 2 ac), e0⟩ := hdep 10 115 (by kernel_rfl)
            subst q0
            clear hB hdep
            refine goes_value (v := .pointer (some ⟨ob, off, none⟩)) ?_ hC rfl
            simp only [execOp, Act.eval, e0]
            go_simp
          refine AllOps.cons ?_ ?_
          · intro ab W hC hB hdep
            obtain ⟨xg, (qg : xg = .bool true), eg⟩ := hdep 8 113 (by kernel_rfl)
            subst qg
            refine .inl ⟨(wanted_is (g := 8) (t := 113) (b := true) (c := true) rfl rfl (by rw [hB.size, SZ.out]; exact Nat.le_of_ble_eq_true rfl) eg).trans rfl, ?_⟩
            obtain ⟨x0, (q0 : x0 = .pointer (some ⟨ob, off, none⟩)), e0⟩ := hdep 11 116 (by kernel_rfl)
            subst q0
            obtain ⟨c0, c1, c2, c3⟩ := HXR.out W hC
            clear hB hdep
            refine goes_value (v := .agg #[.int .i64 7, .int .i64 (ra : Int)]) ?_ hC rfl
            simp only [execOp, Act.eval, e0]
            go_simp
          refine AllOps.cons ?_ ?_
          · intro ab W hC hB hdep
            obtain ⟨xg, (qg : xg = .bool true), eg⟩ := hdep 8 113 (by kernel_rfl)
            subst qg
            refine .inl ⟨(wanted_is (g := 8) (t := 113) (b := true) (c := true) rfl rfl (by rw [hB.size, SZ.out]; exact Nat.le_of_ble_eq_true rfl) eg).trans rfl, ?_⟩
            have b0 : ab.tmps.getD 10 undef = .slice (some ⟨ob, off, none⟩) 2 ac := (hB.off 10 (by kernel_rfl)).trans S10.out
            clear hB hdep
            refine goes_value (v := .slice (some ⟨ob, off, none⟩) 2 ac) ?_ hC rfl
            simp only [execOp, Act.eval, b0]
            go_simp
          refine AllOps.cons ?_ ?_
          · intro ab W hC hB hdep
            obtain ⟨xg, (qg : xg = .bool true), eg⟩ := hdep 8 113 (by kernel_rfl)
            subst qg
            refine .inl ⟨(wanted_is (g := 8) (t := 113) (b := true) (c := true) rfl rfl (by rw [hB.size, SZ.out]; exact Nat.le_of_ble_eq_true rfl) eg).trans rfl, ?_⟩
            obtain ⟨x0, (q0 : x0 = .slice (some ⟨ob, off, none⟩) 2 ac), e0⟩ := hdep 13 118 (by kernel_rfl)
            subst q0
            clear hB hdep
            refine goes_value (v := .pointer (some ⟨ob, off + 2, none⟩)) ?_ hC rfl
            simp only [execOp, Act.eval, e0]
            go_simp
          refine AllOps.cons ?_ ?_
          · intro ab W hC hB hdep
            obtain ⟨xg, (qg : xg = .bool true), eg⟩ := hdep 8 113 (by kernel_rfl)
            subst qg
            refine .inl ⟨(wanted_is (g := 8) (t := 113) (b := true) (c := true) rfl rfl (by rw [hB.size, SZ.out]; exact Nat.le_of_ble_eq_true rfl) eg).trans rfl, ?_⟩
            obtain ⟨x0, (q0 : x0 = .pointer (some ⟨ob, off + 2, none⟩)), e0⟩ := hdep 14 119 (by kernel_rfl)
            subst q0
            obtain ⟨c0, c1, c2, c3⟩ := HXR.out W hC
            clear hB hdep
            refine goes_value (v := .agg #[.int .i64 7, .int .i64 (rb : Int)]) ?_ hC rfl
            simp only [execOp, Act.eval, e0]
            go_simp
          refine AllOps.cons ?_ ?_
          · intro ab W hC hB hdep
            obtain ⟨xg, (qg : xg = .bool true), eg⟩ := hdep 8 113 (by kernel_rfl)
            subst qg
            refine .inl ⟨(wanted_is (g := 8) (t := 113) (b := true) (c := true) rfl rfl (by rw [hB.size, SZ.out]; exact Nat.le_of_ble_eq_true rfl) eg).trans rfl, ?_⟩
            obtain ⟨x0, (q0 : x0 = .pointer (some ⟨g, 0, none⟩)), e0⟩ := hdep 9 114 (by kernel_rfl)
            subst q0
            obtain ⟨x1, (q1 : x1 = .agg #[.int .i64 7, .int .i64 (ra : Int)]), e1⟩ := hdep 12 117 (by kernel_rfl)
            subst q1
            obtain ⟨x2, (q2 : x2 = .agg #[.int .i64 7, .int .i64 (rb : Int)]), e2⟩ := hdep 15 120 (by kernel_rfl)
            subst q2
            clear hB hdep
            refine goes_call (f := 32) (args := #[.pointer (some ⟨g, 0, none⟩), .agg #[.int .i64 7, .int .i64 (ra : Int)], .agg #[.int .i64 7, .int .i64 (rb : Int)]]) ?_ ?_
            · simp only [execOp]
              go_simp
            · exact (qeqv (a := (7, (ra : Int))) (b := (7, (rb : Int))) (HQ6.out.below hC) HNE.out).mono fun e w7 ⟨he, hb⟩ => ⟨_, he, hC.trans (hb.mono hC.size), hb, rfl⟩
          refine AllOps.cons ?_ ?_
          · intro ab W hC hB hdep
            obtain ⟨xg, (qg : xg = .bool true), eg⟩ := hdep 8 113 (by kernel_rfl)
            subst qg
            refine .inl ⟨(wanted_is (g := 8) (t := 113) (b := true) (c := true) rfl rfl (by rw [hB.size, SZ.out]; exact Nat.le_of_ble_eq_true rfl) eg).trans rfl, ?_⟩
            obtain ⟨x0, (q0 : x0 = .bool false), e0⟩ := hdep 16 121 (by kernel_rfl)
            subst q0
            clear hB hdep
            refine goes_value (v := .bool true) ?_ hC rfl
            simp only [execOp, Act.eval, e0]
            go_simp
          refine AllOps.cons ?_ ?_
          · intro ab W hC hB hdep
            refine .inl ⟨rfl, ?_⟩
            obtain ⟨x0, (q0 : x0 = .bool true), e0⟩ := hdep 8 113 (by kernel_rfl)
            subst q0
            obtain ⟨x1, (q1 : x1 = .bool true), e1⟩ := hdep 17 122 (by kernel_rfl)
            subst q1
            clear hB hdep
            refine goes_value (v := .bool true) ?_ hC rfl
            simp only [execOp, Act.eval, e0, e1]
            go_simp
          refine AllOps.cons ?_ ?_
          · intro ab W hC hB hdep
            refine .inl ⟨rfl, ?_⟩
            obtain ⟨x0, (q0 : x0 = .bool true), e0⟩ := hdep 18 123 (by kernel_rfl)
            subst q0
            clear hB hdep
            refine goes_value (v := .bool true) ?_ hC rfl
            simp only [execOp, Act.eval, e0]
            go_simp
          exact trivial
        · intro aa w8 hC hB hall
          obtain ⟨_, (k19 : _ = _), e19⟩ := hall 19 _ rfl
          have s6 : aa.tmps.getD 6 undef = .bool true := (e19 _ rfl).trans k19
          have hdf : aa.defers = [] := hB.defers.trans DF.out
          clear hall hB
          refine (‹∀ (a : Act) (w : World), Code.wp Try.prog _ _ a w → _›) _ w8 ?_
          have HQ7 := Lib.hid (HQ6.out.below hC)
          clear hC
          go_wp2_with fail
          refine bodyPost_ret (v := .bool true) ?_ hdf ⟨rfl, HQ7.out.bel⟩
          rw [results_tmp (t := 6) rfl, s6]
end Go.Proofs.Ytimnhbndokfgnaa
