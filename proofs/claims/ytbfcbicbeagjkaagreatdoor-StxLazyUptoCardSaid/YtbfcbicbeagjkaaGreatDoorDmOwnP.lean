/- A mark's wrap, a rib's; how wraps meet. | Are two rows of ints the same: the document's SameInts, slices.Equal; wrap.Same, law09's same. | ref09's Exact: are two pieces the same in all, but for where they stand? | What own answers, and a row of datums that grows: no walk. -/
import Derived.Test.YtbfcbicbeagjkaaGreatDoorWpSnd
import Derived.Test.YtbfcbicbeagjkaaGreatDoorSxP
import Derived.StillTailTactics
import Derived.Lib.Strings
import Derived.Test.YtbfcbicbeagjkaaGreatDoorRdMath
namespace Go.Proofs.YtbfcbicbeagjkaaGreatDoor
open Go.RowKit

theorem iz_one (w : World) (n : Int) : Iz (w.alloc (.cells #[.int .i64 n] 3)) (.slice (some ⟨w.heap.size, 0, none⟩) 1 1) [n] :=
  Iz.mk rfl (by unfold maxLen; simp) (Nat.le_refl _) (by simp) fun j hj => by
    have : j = 0 := by omega
    subst this
    rw [cell_of_row _ w.heap.size (0 + 0) _ _ (0, 0) (heap_alloc_new w _)]
    simp [gz]
theorem iz_one0 (w : World) (o : Obj) (n : Int) : Iz ((w.alloc o).alloc (.cells #[.int .i64 n] 3)) (.slice (some ⟨w.heap.size + 1, 0, none⟩) 1 1) [n] := by
  have := iz_one (w.alloc o) n
  simpa using this
theorem iz_one1 (w : World) (o c : Obj) (n : Int) : Iz (((w.alloc o).alloc (.cells #[.int .i64 n] 3)).alloc c) (.slice (some ⟨w.heap.size + 1, 0, none⟩) 1 1) [n] := (iz_one0 w o n).below (below1 _ c)
theorem iz_one2 (w : World) (o c : Obj) (n : Int) : Iz (((w.alloc o).alloc c).alloc (.cells #[.int .i64 n] 3)) (.slice (some ⟨w.heap.size + 1 + 1, 0, none⟩) 1 1) [n] := by
  have := iz_one0 (w.alloc o) c n
  simpa using this
/-- What a mark alone, and a rib alone, are. -/
def mrkA (n : Int) : List Int × List Int := if markB n 0 then ([n], [0]) else ([], [])
set_option maxRecDepth 100000 in
theorem mark_any (n : Int) (w : World) : Calls Tryz.prog 33 #[.int .i64 n] w fun e w' => (∃ x, e = .returned x ∧ Wr w' x (mrkA n).1 (mrkA n).2) ∧ Below w.heap.size w w' := by
  have HV1 := Lib.hid iz_one
  have HB0 := Lib.hid (below1 w (.cells #[.slice none 0 0, .slice none 0 0] 30))
  cases hmk : markB n 0 with
  | false =>
    have HM : Hid (mrkA n = ([], [])) := Lib.hid (by unfold mrkA; rw [hmk]; rfl)
    go_enter Tryz.func33, Tryz.ntmps33
    go_wp2_with fail
    refine (markmay_any n 0 _).mono ?_
    rintro e w2 ⟨rfl, rfl⟩
    rw [hmk]
    clear hmk
    go_wp2_with fail
    refine bodyPost_ret (v := .agg #[.slice none 0 0, .slice none 0 0]) (by simp [results, Tryz.results33, go_sem]) rfl ?_
    rw [HM.out]
    exact ⟨⟨_, rfl, ⟨_, _, rfl, Iz.nil _, Iz.nil _⟩⟩, HB0.out⟩
  | true =>
    have HM : Hid (mrkA n = ([n], [0])) := Lib.hid (by unfold mrkA; rw [hmk]; rfl)
    go_enter Tryz.func33, Tryz.ntmps33
    go_wp2_with fail
    refine (markmay_any n 0 _).mono ?_
    rintro e w2 ⟨rfl, rfl⟩
    rw [hmk]
    clear hmk
    go_wp2_with fail
    refine bodyPost_ret (v := .agg #[.slice (some ⟨w.heap.size + 1, 0, none⟩) 1 1, .slice (some ⟨w.heap.size + 1 + 1, 0, none⟩) 1 1]) (by simp [results, Tryz.results33, go_sem]) rfl ?_
    rw [HM.out]
    exact ⟨⟨_, rfl, ⟨_, _, rfl, iz_one1 _ _ _ _, iz_one2 _ _ _ _⟩⟩, below3 _ _ _ _⟩

set_option maxRecDepth 100000 in
theorem begins_any (x : Value) (n t : List Int) (w : World) (hx : Wr w x n t) (hl : n.length ≤ t.length) :
    Calls Tryz.prog 77 #[x] w fun e w' => e = .returned (.bool (begB n t)) ∧ Below w.heap.size w w' := by
  obtain ⟨mv, sv, rfl, hm, hs⟩ := hx.cells
  obtain ⟨hml, ao, ac, rfl, hac, hmr⟩ := hm.cases
  obtain ⟨hsl, bo, bc, rfl, hbc, hsr⟩ := hs.cases
  unfold maxLen at hml hsl
  obtain ⟨i, hi⟩ : ∃ i, i = n.length := ⟨_, rfl⟩
  obtain ⟨j, hj⟩ : ∃ j, j = t.length := ⟨_, rfl⟩
  rw [← hi, ← hj] at hl
  rw [← hi] at hml hac
  rw [← hj] at hsl hbc
  rw [← hi, ← hj]
  have HI := Lib.hid hi
  clear hm hs hx
  rcases hmr with ⟨h0, _⟩ | ⟨b, off, rfl, hb, hcell⟩
  · have hi0 : i = 0 := by rw [hi, h0]; rfl
    have HV : Hid (begB n t = false) := Lib.hid (by unfold begB; rw [h0]; rfl)
    clear hi hj hsr h0
    subst hi0
    go_enter Tryz.func77, Tryz.ntmps77
    go_wp2_with fail
    go_ret
    exact ⟨ret_bl HV.out.symm, below1 _ _⟩
  · by_cases hi0 : i = 0
    · have HV : Hid (begB n t = false) := Lib.hid (by unfold begB; rw [← hi, hi0]; rfl)
      clear hi hj hsr hcell
      subst hi0
      go_enter Tryz.func77, Tryz.ntmps77
      go_wp2_with fail
      go_ret
      exact ⟨ret_bl HV.out.symm, below1 _ _⟩
    · rcases hsr with ⟨h0, _⟩ | ⟨c, coff, rfl, hc, hcell2⟩
      · rw [h0] at hj; simp at hj; omega
      · have HV : Hid (begB n t = (decide (gz n 0 = -1) && decide (gz t 0 = 0))) := Lib.hid (by unfold begB; rw [← hi, decide_eq_true (by omega), Bool.true_and])
        have c0 : (w.alloc (.cells #[.slice (some ⟨b, off, none⟩) i ac, .slice (some ⟨c, coff, none⟩) j bc] 30)).cell? ⟨b, off, none⟩ = some (.int .i64 (gz n 0)) := by
          rw [(below1 w _).cell (p := ⟨b, off, none⟩) hb]; exact hcell 0 (by omega)
        have c1 : (w.alloc (.cells #[.slice (some ⟨b, off, none⟩) i ac, .slice (some ⟨c, coff, none⟩) j bc] 30)).cell? ⟨c, coff, none⟩ = some (.int .i64 (gz t 0)) := by
          rw [(below1 w _).cell (p := ⟨c, coff, none⟩) hc]; exact hcell2 0 (by omega)
        have hip : 0 < i := by omega
        have hjp : 0 < j := by omega
        have HB := Lib.hid hb
        have HC := Lib.hid hc
        clear hi hj hcell hcell2 hi0 hb hc
        generalize gz n 0 = g0 at *
        generalize gz t 0 = g1 at *
        go_enter Tryz.func77, Tryz.ntmps77
        go_wp2
        all_goals
          go_ret
          refine ⟨ret_bl ?_, below1 _ _⟩
          rw [HV.out, Bool.eq_iff_iff]; simp; try omega
end Go.Proofs.YtbfcbicbeagjkaaGreatDoor
namespace Go.Proofs.YtbfcbicbeagjkaaGreatDoor
open Go.RowKit

def sameZ (xs ys : List Int) : Bool := decide (xs = ys)
theorem sameZ_true {xs ys : List Int} (h : xs = ys) : sameZ xs ys = true := by unfold sameZ; simp [h]
theorem sameZ_false {xs ys : List Int} (h : xs ≠ ys) : sameZ xs ys = false := by unfold sameZ; exact decide_eq_false h
theorem below_drewZ {B : Nat} {w w1 : World} (h : Below B w w1) (n : Nat) : Below B w (w1.drewN n) := by
  induction n with
  | zero => exact h
  | succ n ih => exact ih.drew
theorem newsw2 {w : World} {a b : Obj} : ((w.alloc a).alloc b).heap[w.heap.size]? = some a ∧ ((w.alloc a).alloc b).heap[w.heap.size + 1]? = some b := by
  refine ⟨?_, ?_⟩
  · rw [Below.heap_alloc _ _ _ (by simp)]; exact heap_alloc_new w _
  · have := heap_alloc_new (w.alloc a) b
    simpa using this

set_option maxRecDepth 100000 in
set_option maxHeartbeats 1000000 in
theorem equalz_any (s1 s2 : Value) (xs ys : List Int) (w : World) (hs1 : Iz w s1 xs) (hs2 : Iz w s2 ys) :
    Calls Tryz.prog 141 #[s1, s2] w fun e w' => e = .returned (.bool (sameZ xs ys)) ∧ Below w.heap.size w w' := by
  obtain ⟨hm1, ao1, cap1, rfl, hcap1, h1⟩ := hs1.cases
  obtain ⟨hm2, ao2, cap2, rfl, hcap2, h2⟩ := hs2.cases
  clear hs1 hs2
  unfold maxLen at hm1 hm2
  by_cases hl : xs.length = ys.length
  · have hlb : ((xs.length : Int) != (ys.length : Int)) = false := by rw [hl]; simp
    have hle1 : xs.length ≤ ys.length := by omega
    have hle2 : ys.length ≤ xs.length := by omega
    have HE := Lib.hid hl; clear hl
    rcases Nat.eq_zero_or_pos xs.length with h0 | hp
    · have h0' : xs.length ≤ 0 := by omega
      clear h0
      have HV := Lib.hid (sameZ_true (gz_eq HE.out fun i hi => by omega))
      clear h1 h2
      go_enter Tryz.func141, Tryz.ntmps141
      go_wp2
      refine wp_loop_rounds 1 ?_
      rw [rounds_succ]
      go_wp2
      go_ret
      exact ⟨ret_bl HV.out.symm, Below.refl _ _⟩
    · rcases h1 with ⟨h, _⟩ | ⟨b1, o1, rfl, hlt1, hc1⟩
      · rw [h] at hp; exact absurd hp (by simp)
      rcases h2 with ⟨h, _⟩ | ⟨b2, o2, rfl, hlt2, hc2⟩
      · rw [h] at hle1; exact absurd hle1 (by rw [List.length_nil]; omega)
      have HC1 := Lib.hid hc1
      have HC2 := Lib.hid hc2
      clear hc1 hc2
      go_enter Tryz.func141, Tryz.ntmps141
      go_wp2
      go_loopw [13] (fun i wr => ∃ k q : Nat, k ≤ xs.length ∧ i = .int .i64 k ∧ wr = w.drewN q ∧ ∀ j, j < k → gz xs j = gz ys j) (fun i _ => xs.length - (intOf i).toNat)
      case atStart => exact ⟨0, 0, by omega, rfl, rfl, fun j hj => by omega⟩
      case round =>
        obtain ⟨k, q, hk, rfl, rfl, hall⟩ := hrel
        have HL := Lib.hid hall; clear hall
        by_cases hkl : k < xs.length
        · have c1 := HC1.out k hkl
          have c2 := HC2.out k (by omega)
          by_cases he : gz xs k = gz ys k
          · have hd : (gz xs k != gz ys k) = false := by rw [he]; simp
            have HQ := Lib.hid he; clear he
            go_wp2
            go_quiet (fail)
            go_wp2
            go_roundw
            case rel => exact ⟨k + 1, _, by omega, by go_num, rfl, fun j hj => by
              by_cases e : j = k
              · subst e; exact HQ.out
              · exact HL.out j (by omega)⟩
            case measure => simp only [intOf]; omega
          · have hd : (gz xs k != gz ys k) = true := by rw [bne_iff_ne]; first | exact he | omega
            have HV := Lib.hid (sameZ_false (xs := xs) (ys := ys) fun h => he (by rw [h]))
            clear he
            go_wp2
            go_quiet (fail)
            go_wp2
            go_ret
            exact ⟨ret_bl HV.out.symm, below_drewZ (below_drewZ (Below.refl _ _) _) _⟩
        · have HV := Lib.hid (sameZ_true (gz_eq HE.out fun i hi => HL.out i (by omega)))
          go_wp2
          go_ret
          exact ⟨ret_bl HV.out.symm, below_drewZ (Below.refl _ _) _⟩
  · have hlb : ((xs.length : Int) != (ys.length : Int)) = true := by rw [bne_iff_ne]; first | exact he | omega
    have HV := Lib.hid (sameZ_false (xs := xs) (ys := ys) fun h => hl (by rw [h]))
    clear h1 h2 hl
    go_enter Tryz.func141, Tryz.ntmps141
    go_wp2
    go_ret
    exact ⟨ret_bl HV.out.symm, Below.refl _ _⟩

set_option maxRecDepth 100000 in
set_option maxHeartbeats 2000000 in
theorem wsame_any (x y : Value) (m s n t : List Int) (w : World) (hx : Wr w x m s) (hy : Wr w y n t) :
    Calls Tryz.prog 109 #[x, y] w fun e w' => e = .returned (.bool (sameZ m n && sameZ s t)) ∧ Below w.heap.size w w' := by
  obtain ⟨mv, sv, rfl, hm, hs⟩ := hx.cells
  obtain ⟨nv, tv, rfl, hn, ht⟩ := hy.cells
  obtain ⟨_, ma, mc, hmv, _, _⟩ := hm.cases
  obtain ⟨_, sa, sc, hsv, _, _⟩ := hs.cases
  obtain ⟨_, na, nc, hnv, _, _⟩ := hn.cases
  obtain ⟨_, ta, tc, htv, _, _⟩ := ht.cases
  generalize m.length = ml at hmv
  generalize s.length = sl at hsv
  generalize n.length = nl at hnv
  generalize t.length = tl at htv
  subst hmv hsv hnv htv
  have HM := Lib.hid hm
  have HS := Lib.hid hs
  have HN := Lib.hid hn
  have HT := Lib.hid ht
  clear hx hy hm hs hn ht
  have HB1 := Lib.hid (below2 w (.cells #[.slice ma ml mc, .slice sa sl sc] 30) (.cells #[.slice na nl nc, .slice ta tl tc] 30))
  have HN1 := Lib.hid (@newsw2 w (.cells #[.slice ma ml mc, .slice sa sl sc] 30) (.cells #[.slice na nl nc, .slice ta tl tc] 30))
  go_enter Tryz.func109, Tryz.ntmps109
  go_upto_region 1 with fail
  generalize (w.alloc (.cells #[.slice ma ml mc, .slice sa sl sc] 30)).alloc (.cells #[.slice na nl nc, .slice ta tl tc] 30) = w1 at *
  have R0 := Lib.hid HN1.out.1
  have R1 := Lib.hid HN1.out.2
  have c0 := cell_heap R0.out 0
  have c1 := cell_heap R0.out 1
  have d0 := cell_heap R1.out 0
  have d1 := cell_heap R1.out 1
  simp at c0 c1 d0 d1
  go_wp2_with fail
  refine (equalz_any _ _ m n w1 (HM.out.below HB1.out) (HN.out.below HB1.out)).mono ?_
  rintro e w2 ⟨rfl, hb2⟩
  have HB2 := Lib.hid (HB1.out.trans (hb2.mono HB1.out.size))
  have S0 := Lib.hid ((hb2.block _ (Array.getElem?_eq_some_iff.1 R0.out).1).trans R0.out)
  have S1 := Lib.hid ((hb2.block _ (Array.getElem?_eq_some_iff.1 R1.out).1).trans R1.out)
  clear hb2 c0 c1 d0 d1
  have c0 := cell_heap S0.out 0
  have c1 := cell_heap S0.out 1
  have d0 := cell_heap S1.out 0
  have d1 := cell_heap S1.out 1
  simp at c0 c1 d0 d1
  cases h1 : sameZ m n with
  | false =>
    go_wp2_with fail
    go_ret
    exact ⟨ret_bl (by rw [h1]; rfl), HB2.out⟩
  | true =>
    go_wp2_with fail
    refine (equalz_any _ _ s t w2 (HS.out.below HB2.out) (HT.out.below HB2.out)).mono ?_
    rintro e w3 ⟨rfl, hb3⟩
    have HB3 := Lib.hid (HB2.out.trans (hb3.mono HB2.out.size))
    clear hb3
    go_wp2_with fail
    go_ret
    exact ⟨ret_bl (by rw [h1]; rfl), HB3.out⟩
end Go.Proofs.YtbfcbicbeagjkaaGreatDoor
namespace Go.Proofs.YtbfcbicbeagjkaaGreatDoor
open Go.RowKit

/-- The same in all, but for where they stand. -/
def sameS : Nat → Sx → Sx → Bool
  | 0, _, _ => false
  | f + 1, x, y => decide (x.k = y.k ∧ x.t = y.t ∧ (x.n = y.n ∧ x.r = y.r) ∧ x.m = y.m ∧ x.s = y.s ∧ x.l.length = y.l.length) && (List.range x.l.length).all fun i => match x.l[i]?, y.l[i]? with
    | some a, some b => sameS f a b
    | _, _ => false
theorem sameS_iff {f : Nat} {k k' : Int} {t t' : ByteArray} {n n' : Bool} {r r' : List Nat} {l l' : List Sx} {a a' : Int} {m m' s s' : List Int} : sameS (f + 1) (.mk k t n r l a m s) (.mk k' t' n' r' l' a' m' s') = true ↔ (k = k' ∧ t = t' ∧ (n = n' ∧ r = r') ∧ m = m' ∧ s = s' ∧ l.length = l'.length ∧ ∀ (j : Nat) (h : j < l.length) (h' : j < l'.length), sameS f (l[j]'h) (l'[j]'h') = true) := by
  rw [sameS, Bool.and_eq_true, List.all_eq_true]
  constructor
  · rintro ⟨h0, h7⟩
    obtain ⟨h1, h2, h3, h4, h5, h6⟩ := of_decide_eq_true h0
    refine ⟨h1, h2, h3, h4, h5, h6, fun j h h' => ?_⟩
    have := h7 j (List.mem_range.2 h)
    simp only [Sx.l] at this
    rwa [List.getElem?_eq_getElem h, List.getElem?_eq_getElem h'] at this
  · rintro ⟨h1, h2, h3, h4, h5, h6, h7⟩
    refine ⟨decide_eq_true ⟨h1, h2, h3, h4, h5, h6⟩, fun j hj => ?_⟩
    have h : j < l.length := List.mem_range.1 hj
    have h' : j < l'.length := h6 ▸ h
    simp only [Sx.l]
    rw [List.getElem?_eq_getElem h, List.getElem?_eq_getElem h']
    exact h7 j h h'
/-- A row of limbs as the numbers' laws have it. -/
theorem RowV.slu {w : World} {v : Value} {r : List Nat} (h : RowV w v r.length 1 (ucs r)) : Sl .u32 w v r := by
  obtain ⟨_, hm, ao, cap, rfl, hc, h5⟩ := h
  refine ⟨hm, ao, cap, rfl, hc, ?_⟩
  rcases h5 with ⟨h0, h1⟩ | ⟨b, off, e, hb, hcell⟩
  · exact .inl ⟨List.eq_nil_of_length_eq_zero h0, h1⟩
  · refine .inr ⟨b, off, e, hb, fun j hj => ?_⟩
    refine hcell j _ ?_
    unfold ucs limb
    rw [List.getElem?_map, List.getElem?_eq_getElem hj]
    simp [List.getD_eq_getElem?_getD, List.getElem?_eq_getElem hj]

end Go.Proofs.YtbfcbicbeagjkaaGreatDoor
namespace Go.Proofs.YtbfcbicbeagjkaaGreatDoor
open Go.RowKit

theorem infoDat : (Tryz.prog.info? 27).map (fun i => (i.zero, i.size, i.bytes)) = some (some (.agg #[.int .i64 0, .string ⟨#[]⟩, .bool false, .slice none 0 0, .slice none 0 0, .int .i64 0]), 6, 88) := by kernel_rfl
/-- A row of datums, and one more behind it. -/
theorem DmRow.appended {P : Nat → Prop} {w w' : World} {v v' : Value} {l : List Dm} {us : List Value} {d : Dm} {cs : List Value} (h : DmRow (fun b => P b ∧ v.ownBlock ≠ some b) w l us) (hd : LayP (fun b => P b ∧ v.ownBlock ≠ some b) w d cs) (hg : w.grownBy w' v.ownBlock) (hm : MovedTo w v v') :
    DmRow (fun b => P b ∧ v'.ownBlock ≠ some b) w' (l ++ [d]) (us ++ cs) := by
  have hk : Keeps (fun b => P b ∧ v.ownBlock ≠ some b) w w' := (Keeps.of_grown (P := fun b => v.ownBlock ≠ some b) hg fun g e hn => hn e).mono fun b _ h => h.2
  have hs := hg.size
  have hq : ∀ b, b < w.heap.size → (P b ∧ v.ownBlock ≠ some b) → (P b ∧ v.ownBlock ≠ some b) ∧ v'.ownBlock ≠ some b := fun b hb hp => ⟨hp, fun e => by
    rcases hm with e2 | ⟨b2, e2, hge⟩
    · rw [e2] at e; exact hp.2 e
    · rw [e2] at e; injection e with e; omega⟩
  have hk2 : Keeps (fun b => (P b ∧ v.ownBlock ≠ some b) ∧ v'.ownBlock ≠ some b) w w' := hk.mono fun b _ h => h.1
  have h2 := ((h.mono hq).move hk2).snoc ((hd.mono hq).move hk2)
  exact h2.mono fun b _ hp => ⟨hp.1.1, hp.2⟩
theorem one_cells {w : World} {P : Nat → Prop} {d : Dm} {us : List Value} (h : LayP P w d us) : ∀ u ∈ us, u.oneCell' = true := by
  obtain ⟨k, t, n, r, l, a⟩ := d
  obtain ⟨lv, av, vs, rfl, _, _, _, ⟨_, _, _, rfl, _⟩, _, ⟨_, _, _, _, rfl, _⟩, _⟩ := h.row
  intro u hu
  simp at hu
  rcases hu with rfl | rfl | rfl | rfl | rfl | rfl <;> rfl
theorem dm_cells6 {w : World} {P : Nat → Prop} {d : Dm} {us : List Value} (h : LayP P w d us) : ∃ u0 u1 u2 u3 u4 u5, us = [u0, u1, u2, u3, u4, u5] := by
  have := h.len
  match us, this with
  | [u0, u1, u2, u3, u4, u5], _ => exact ⟨u0, u1, u2, u3, u4, u5, rfl⟩

/-- What own answers. -/
def OwnPost (D : Dm) (w : World) (e : Ending) (w' : World) : Prop := ∃ us, e = .returned (.agg us.toArray) ∧ LayP (fun b => w.heap.size ≤ b) w' D us ∧ Below w.heap.size w w'
/-- Its box, and the other one. -/
structure OwB (w : World) (g : Nat) (k : Int) (t : List Nat) (n : Bool) (lv av : Value) (a : Int) : Prop where
  r0 : w.heap[g]? = some (.cells #[.int .i64 k, .string (mkB t), .bool n, lv, av, .int .i64 a] 27 (0, 0))
  r1 : w.heap[g + 1]? = some (.cells #[.int .i64 0, .string ⟨#[]⟩, .bool false, .slice none 0 0, .slice none 0 0, .int .i64 0] 27 (0, 0))
theorem OwB.setL {w : World} {g : Nat} {k : Int} {t : List Nat} {n : Bool} {lv av : Value} {a : Int} (h : OwB w g k t n lv av a) (u : Value) : OwB (w.setCell ⟨g, 3, none⟩ u) g k t n u av a := by
  refine ⟨?_, (Below.heap_setCell _ _ _ _ (by simp)).trans h.r1⟩
  simp only [World.setCell, Array.getElem?_modify, if_true, h.r0]
  rfl
theorem OwB.setA {w : World} {g : Nat} {k : Int} {t : List Nat} {n : Bool} {lv av : Value} {a : Int} (h : OwB w g k t n lv av a) (u : Value) : OwB (w.setCell ⟨g, 4, none⟩ u) g k t n lv u a := by
  refine ⟨?_, (Below.heap_setCell _ _ _ _ (by simp)).trans h.r1⟩
  simp only [World.setCell, Array.getElem?_modify, if_true, h.r0]
  rfl
/-- One datum, laid as a row. -/
theorem row1 (w : World) (cs : List Value) (h : cs.length = 6) : RowV (w.alloc (.cells cs.toArray 27)) (.slice (some ⟨w.heap.size, 0, none⟩) 1 1) 1 6 cs := by
  refine ⟨by omega, by unfold maxLen; omega, some ⟨w.heap.size, 0, none⟩, 1, rfl, Nat.le_refl _, .inr ⟨w.heap.size, 0, rfl, by simp, fun j u hu => ?_⟩⟩
  rw [cell_of_row _ w.heap.size (0 + j) _ _ (0, 0) (heap_alloc_new w _), Nat.zero_add]
  simpa using hu
theorem OwB.below {w w' : World} {g : Nat} {k : Int} {t : List Nat} {n : Bool} {lv av : Value} {a : Int} (h : OwB w g k t n lv av a) (hb : Below (g + 2) w w') : OwB w' g k t n lv av a := ⟨(hb.block g (by omega)).trans h.r0, (hb.block (g + 1) (by omega)).trans h.r1⟩

end Go.Proofs.YtbfcbicbeagjkaaGreatDoor
