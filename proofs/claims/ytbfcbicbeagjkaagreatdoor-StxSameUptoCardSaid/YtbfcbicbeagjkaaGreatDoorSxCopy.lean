/- x -/
import Derived.Test.YtbfcbicbeagjkaaGreatDoorSxTree
import Derived.Test.YtbfcbicbeagjkaaGreatDoorSxOf
import Derived.Test.YtbfcbicbeagjkaaGreatDoorOrdS
namespace Go.Proofs.YtbfcbicbeagjkaaGreatDoor
open Go.RowKit
theorem one_each {P : Nat → Prop} {w : World} : ∀ (l : List Sx) (us : List Value), us.length = l.length * 8 → (∀ (i : Nat) (h : i < l.length), SLayP P w (l[i]'h) ((us.drop (i * 8)).take 8)) → ∀ u ∈ us, u.oneCell' = true := by
 intro l us hlen h u hu
 obtain ⟨j, hj, rfl⟩ := List.mem_iff_getElem.1 hu
 have hi : j / 8 < l.length := by omega
 refine one_cellsS (h (j / 8) hi) _ ?_
 refine List.mem_iff_getElem.2 ⟨j % 8, ?_, ?_⟩
 . rw [List.length_take, List.length_drop]; omega
 . rw [List.getElem_take, List.getElem_drop]
   congr 1
   omega
theorem emp_row8 (w : World) (e : TypeId) : (w.alloc (.cells #[] e)).ownsRow w.heap.size e 8 (.slice (some ⟨w.heap.size, 0, none⟩) 0 0) 0 [] := ⟨rfl, .inr ⟨w.heap.size, 0, #[], rfl, Nat.le_refl _, heap_alloc_new w _, Nat.le_refl _, Nat.zero_le _, rfl, rfl⟩⟩
set_option maxRecDepth 100000 in
set_option maxHeartbeats 1000000 in
theorem sclS_any (lv : Value) (n : Nat) (us : List Value) (w : World) (hr : RowV w lv n 8 us) (h1 : ∀ u ∈ us, u.oneCell' = true) (hl : n ≤ 2000000) :
 Calls Tryz.prog 103 #[lv] w fun e w' => ∃ v', e = .returned v' ∧ w'.ownsRow w.heap.size 35 8 v' n us ∧ Below w.heap.size w w' := by
 obtain ⟨i0, hi, hz0, hz1, hz2⟩ := info_parts infoSx
 have q22 : ∀ (w : World) (a : Option Addr) (n c n' c' : Nat), (binOp .eql 33 (.slice a n c) (.slice none n' c')).run Tryz.prog w = .ok (.bool a.isNone) w := fun w a n c n' c' => Lib.run_eql_slice_nil w _ _ a n c n' c' Tryz.underlying33
 have HR := Lib.hid hr
 obtain ⟨hlen, _, ao, cap, rfl, _, hcase⟩ := hr
 cases ao with
 | none =>
  obtain ⟨rfl, rfl⟩ : n = 0 ∧ cap = 0 := by
   rcases hcase with ⟨h2, h3⟩ | ⟨_, _, h2, _⟩
   . exact ⟨h2, h3 rfl⟩
   . cases h2
  obtain rfl : us = [] := List.eq_nil_of_length_eq_zero (by simpa using hlen)
  clear hcase hlen
  go_enter Tryz.func103, Tryz.ntmps103
  go_wp2_with fail
  go_ret
  exact ⟨_, rfl, World.ownsRow_nil _ _ _ _, Below.refl _ _⟩
 | some ad =>
  clear hcase hlen
  go_enter Tryz.func103, Tryz.ntmps103
  go_wp2_with (at_builtin; (refine wpList_append_row _ rfl _ _ 33 rfl w.heap.size 35 i0 _ 8 136 Tryz.underlying33 hi hz0 hz1 hz2 rfl (by decide) _ 0 [] rfl (emp_row8 w 35) _ n us rfl (HR.out.below (below1 w _)) h1 (by unfold maxLen; omega) (by omega) (by simp) ?_); intro v' w1 hown1 hgrow hmv; rw [Nat.zero_add, List.nil_append] at hown1; have HO := Lib.hid hown1; have HG := Lib.hid hgrow; clear hown1 hgrow hmv)
  go_ret
  exact ⟨_, rfl, HO.out, (below1 w _).grown HG.out (by simp) (fun q hq => by cases hq; exact Nat.le_refl _)⟩
def CpPost (D : Sx) (w : World) (e : Ending) (w' : World) : Prop := ∃ us, e = .returned (.agg us.toArray) ∧ SOwn w' (fun b => w.heap.size ≤ b ∧ b < w'.heap.size) D us ∧ Below w.heap.size w w'
def setNum (W : World) (g : Nat) (v : Value) : World := match v with
 | .agg #[a, b] => (W.setCell ⟨g, 2, none⟩ a).setCell ⟨g, 3, none⟩ b
 | _ => W
theorem setNum_eq (W : World) (g : Nat) (a b : Value) : setNum W g (.agg #[a, b]) = (W.setCell ⟨g, 2, none⟩ a).setCell ⟨g, 3, none⟩ b := rfl
theorem own_setT {w : World} {base n size : Nat} {e e2 : TypeId} {v : Value} {xs : List Value} (h : w.ownsRow base e size v n xs) {g : Nat} {cs : Array Value} (hg : w.heap[g]? = some (.cells cs e2 (0, 0))) (hne : e ≠ e2) (o : Nat) (x : Value) : (w.setCell ⟨g, o, none⟩ x).ownsRow base e size v n xs :=
 ownsRow_keep h ((Keeps.refl (fun b => b ≠ g) w).set (p := ⟨g, o, none⟩) (fun h => h rfl) x) fun b hb => own_farT h hg hne b hb
structure CpI (w w5 : World) (xs zs : Array Value) (lv mv sv : Value) (r : List Nat) (m s : List Int) (wr : World) : Prop where
 x : wr.heap[w.heap.size]? = some (.cells xs 35 (0, 0))
 z : wr.heap[w.heap.size + 1]? = some (.cells zs 35 (0, 0))
 lr : wr.ownsRow 0 140 1 lv r.length (ucs r)
 mr : wr.ownsRow 0 3 1 mv m.length (ics .i64 m)
 sr : wr.ownsRow 0 3 1 sv s.length (ics .i64 s)
 bel : Below w.heap.size w wr
 ge : w5.heap.size ≤ wr.heap.size
theorem CpI.step {w w5 wr wr' : World} {xs zs : Array Value} {lv mv sv : Value} {r : List Nat} {m s : List Int} (h : CpI w w5 xs zs lv mv sv r m s wr) {b : Nat} (hp : ∀ g, (lv.ownBlock = some g ∨ mv.ownBlock = some g ∨ sv.ownBlock = some g) → g < w5.heap.size ∧ g ≠ b) (hX : w.heap.size + 1 < w5.heap.size) (hb0 : b ≠ w.heap.size) (hb1 : b ≠ w.heap.size + 1)
 (hk : Keeps (fun c => c < w5.heap.size ∧ c ≠ b) wr wr') (hb : Below w.heap.size w wr') : CpI w w5 xs zs lv mv sv r m s wr' :=
 ⟨(hk.2 _ (Array.getElem?_eq_some_iff.1 h.x).1 ⟨by omega, fun e => hb0 e.symm⟩).trans h.x, (hk.2 _ (Array.getElem?_eq_some_iff.1 h.z).1 ⟨by omega, fun e => hb1 e.symm⟩).trans h.z, ownsRow_keep h.lr hk fun g hg => hp g (.inl hg), ownsRow_keep h.mr hk fun g hg => hp g (.inr (.inl hg)), ownsRow_keep h.sr hk fun g hg => hp g (.inr (.inr hg)), hb, Nat.le_trans h.ge hk.1⟩
def put8at (W : World) (g o : Nat) (b0 b1 b2 b3 b4 b5 b6 b7 : Value) : World := (((((((W.setCell ⟨g, o, none⟩ b0).setCell ⟨g, o + 1, none⟩ b1).setCell ⟨g, o + 2, none⟩ b2).setCell ⟨g, o + 3, none⟩ b3).setCell ⟨g, o + 4, none⟩ b4).setCell ⟨g, o + 5, none⟩ b5).setCell ⟨g, o + 6, none⟩ b6).setCell ⟨g, o + 7, none⟩ b7
theorem put8at_row {W : World} {g o : Nat} {cs : Array Value} {e : TypeId} (h : W.heap[g]? = some (.cells cs e (0, 0))) (b0 b1 b2 b3 b4 b5 b6 b7 : Value) : (put8at W g o b0 b1 b2 b3 b4 b5 b6 b7).heap[g]? = some (.cells (set8 cs o b0 b1 b2 b3 b4 b5 b6 b7) e (0, 0)) :=
 rowSet (rowSet (rowSet (rowSet (rowSet (rowSet (rowSet (rowSet h o b0) (o + 1) b1) (o + 2) b2) (o + 3) b3) (o + 4) b4) (o + 5) b5) (o + 6) b6) (o + 7) b7
theorem put8at_keep (P : Nat → Prop) (W : World) (g o : Nat) (hg : ¬ P g) (b0 b1 b2 b3 b4 b5 b6 b7 : Value) : Keeps P W (put8at W g o b0 b1 b2 b3 b4 b5 b6 b7) :=
 ((((((((Keeps.refl P W).set (p := ⟨g, o, none⟩) hg _).set (p := ⟨g, o + 1, none⟩) hg _).set (p := ⟨g, o + 2, none⟩) hg _).set (p := ⟨g, o + 3, none⟩) hg _).set (p := ⟨g, o + 4, none⟩) hg _).set (p := ⟨g, o + 5, none⟩) hg _).set (p := ⟨g, o + 6, none⟩) hg _).set (p := ⟨g, o + 7, none⟩) hg _
theorem put8at_below {B : Nat} {w W : World} (h : Below B w W) {g : Nat} (hg : B ≤ g) (o : Nat) (b0 b1 b2 b3 b4 b5 b6 b7 : Value) : Below B w (put8at W g o b0 b1 b2 b3 b4 b5 b6 b7) :=
 (((((((h.setCell (p := ⟨g, o, none⟩) hg _).setCell (p := ⟨g, o + 1, none⟩) hg _).setCell (p := ⟨g, o + 2, none⟩) hg _).setCell (p := ⟨g, o + 3, none⟩) hg _).setCell (p := ⟨g, o + 4, none⟩) hg _).setCell (p := ⟨g, o + 5, none⟩) hg _).setCell (p := ⟨g, o + 6, none⟩) hg _).setCell (p := ⟨g, o + 7, none⟩) hg _
def isCp (B : Nat) (D : Sx) : Value → World → Prop := fun v W => ∃ us, ∃ S : Nat → Prop, v = .agg us.toArray ∧ SOwn W S D us ∧ ∀ c, S c → B ≤ c ∧ c < W.heap.size
theorem isCp_stays (B : Nat) (D : Sx) : Stays (isCp B D) := fun _ _ _ hb ⟨us, S, h1, h2, h3⟩ => ⟨us, S, h1, h2.under hb, fun c hc => ⟨(h3 c hc).1, Nat.lt_of_lt_of_le (h3 c hc).2 hb.size⟩⟩
theorem cur_take {cur : Array Value} {xs : List Value} {n i : Nat} (h : cur.toList.take n = xs) (hi : i < n) : cur[i]? = xs[i]? := by
 rw [← h, List.getElem?_take, if_pos hi, Array.getElem?_toList]
theorem row_eight {w : World} {l : List Sx} {xs : List Value} (hin : ∀ (i : Nat) (h : i < l.length), SLay w (l[i]'h) ((xs.drop (i * 8)).take 8)) {j : Nat} (hj : j < l.length) : ∃ v0 v1 v2 v3 v4 v5 v6 v7, (xs.drop (j * 8)).take 8 = [v0, v1, v2, v3, v4, v5, v6, v7] ∧ SLay w (l[j]'hj) [v0, v1, v2, v3, v4, v5, v6, v7] := by
 have h := hin j hj
 obtain ⟨v0, v1, v2, v3, v4, v5, v6, v7, e⟩ := sx_cells8 h.layP
 exact ⟨v0, v1, v2, v3, v4, v5, v6, v7, e, e ▸ h⟩
set_option maxRecDepth 100000 in
set_option maxHeartbeats 8000000 in
theorem copied_any : ∀ (kk : Nat) (D : Sx), D.sz ≤ kk → SmS 1100000 D → ∀ (us : List Value) (w : World), SLay w D us → Calls Tryz.prog 64 #[.agg us.toArray] w (CpPost D w) := by
 intro kk
 induction kk with
 | zero => intro D h; have := D.sz_pos; omega
 | succ kk ih =>
  intro D hsz hsm us w h1
  have HIH := Lib.hid ih
  clear ih
  obtain ⟨k, t, n, r, l, a, mm, s⟩ := D
  have HSZ : Hid (∀ (j : Nat) (h : j < l.length), (l[j]'h).sz ≤ kk) := Lib.hid fun j h => by
   have := Sx.sz_mem (d := .mk k t n r l a mm s) (x := l[j]) (List.getElem_mem h)
   omega
  obtain ⟨hs1, hs2, hs3, hs4, hs5, hs6⟩ := hsm.open'
  obtain ⟨lv, av, mv, sv, xs, rfl, hts, hlim, hrr, hrow1, hrm, hrs, hin1⟩ := h1.open'
  simp only [Sx.k, Sx.t, Sx.n, Sx.r, Sx.l, Sx.a, Sx.m, Sx.s] at hs1 hs2 hs3 hs4 hs5 hs6 hts hlim hrr hrow1 hrm hrs hin1 ⊢
  have HTS : Hid (t.size ≤ 100000000) := Lib.hid (by omega)
  have HTL := Lib.hid (And.intro hts hlim)
  have HSM := Lib.hid hs6
  have HLL := Lib.hid hs3
  have HLN : Hid (r.length ≤ 2000000 ∧ l.length ≤ 2000000 ∧ mm.length ≤ 2000000 ∧ s.length ≤ 2000000) := Lib.hid (by omega)
  have HI1 := Lib.hid hin1
  have HW1 := Lib.hid hrow1
  have HRR := Lib.hid hrr
  have HMM := Lib.hid hrm
  have HSS := Lib.hid hrs
  have hmx : l.length ≤ 9223372036854775807 := by omega
  have HMX := Lib.hid hmx
  obtain ⟨ao, cv0, rfl⟩ : ∃ o c, av = .slice o l.length c := by obtain ⟨_, _, o, c, h, _⟩ := hrow1; exact ⟨o, c, h⟩
  obtain ⟨lo, lc, rfl⟩ : ∃ o c, lv = .slice o r.length c := by obtain ⟨_, _, o, c, h, _⟩ := hrr; exact ⟨o, c, h⟩
  obtain ⟨mo, mc, rfl⟩ : ∃ o c, mv = .slice o mm.length c := by obtain ⟨_, _, o, c, h, _⟩ := hrm; exact ⟨o, c, h⟩
  obtain ⟨so, sc, rfl⟩ : ∃ o c, sv = .slice o s.length c := by obtain ⟨_, _, o, c, h, _⟩ := hrs; exact ⟨o, c, h⟩
  clear h1 hsz hsm hs1 hs2 hs3 hs4 hs5 hs6 hts hlim hrr hrow1 hrm hrs hin1 hmx
  show Calls Tryz.prog 64 #[.agg #[.int .i64 k, .string t, .bool n, .slice lo r.length lc, .slice ao l.length cv0, .int .i64 a, .slice mo mm.length mc, .slice so s.length sc]] w _
  have hb1 := below2 w (.cells #[.int .i64 k, .string t, .bool n, .slice lo r.length lc, .slice ao l.length cv0, .int .i64 a, .slice mo mm.length mc, .slice so s.length sc] 35) (.cells #[.int .i64 0, .string ⟨#[]⟩, .bool false, .slice none 0 0, .slice none 0 0, .int .i64 0, .slice none 0 0, .slice none 0 0] 35)
  have hn1 := @newsd2 w (.cells #[.int .i64 k, .string t, .bool n, .slice lo r.length lc, .slice ao l.length cv0, .int .i64 a, .slice mo mm.length mc, .slice so s.length sc] 35) (.cells #[.int .i64 0, .string ⟨#[]⟩, .bool false, .slice none 0 0, .slice none 0 0, .int .i64 0, .slice none 0 0, .slice none 0 0] 35)
  have hsz1 : ((w.alloc (.cells #[.int .i64 k, .string t, .bool n, .slice lo r.length lc, .slice ao l.length cv0, .int .i64 a, .slice mo mm.length mc, .slice so s.length sc] 35)).alloc (.cells #[.int .i64 0, .string ⟨#[]⟩, .bool false, .slice none 0 0, .slice none 0 0, .int .i64 0, .slice none 0 0, .slice none 0 0] 35)).heap.size = w.heap.size + 2 := by simp
  go_enter Tryz.func64, Tryz.ntmps64
  go_upto_region 1 with fail
  generalize (w.alloc (.cells #[.int .i64 k, .string t, .bool n, .slice lo r.length lc, .slice ao l.length cv0, .int .i64 a, .slice mo mm.length mc, .slice so s.length sc] 35)).alloc (.cells #[.int .i64 0, .string ⟨#[]⟩, .bool false, .slice none 0 0, .slice none 0 0, .int .i64 0, .slice none 0 0, .slice none 0 0] 35) = w1 at *
  have HB1 := Lib.hid hb1
  have HX := Lib.hid hn1.1
  have HZ := Lib.hid hn1.2
  have HS1 := Lib.hid hsz1
  have HLT := Lib.hid (Array.getElem?_eq_some_iff.1 hn1.1).1
  clear hb1 hn1 hsz1
  refine wp_region_seq ([(7, 2, fun v W => W.setCell ⟨w.heap.size, 1, none⟩ v), (9, 5, fun v W => setNum W w.heap.size v)] : List WrT) 7 (psi [isV (.pointer (some ⟨w.heap.size, 1, none⟩)), isV (.string t), isV (.string t), isV (.pointer (some ⟨w.heap.size, 2, none⟩)), isV (.agg #[.bool n, .slice lo r.length lc]), isNum n w1.heap.size r.length (ucs r), isV (.pointer (some ⟨w.heap.size, 1, none⟩)), nothing, isV (.pointer (some ⟨w.heap.size, 2, none⟩)), nothing]) (fun W => Below w1.heap.size w1 W) (by kernel_rfl) (Below.refl _ _).drew (psi_mono ?_) (by kernel_rfl) (by kernel_rfl) rfl (by kernel_rfl) (by simp) (by intro y hy; simp only [List.mem_cons, List.not_mem_nil, or_false] at hy; rcases hy with rfl | rfl <;> rfl) (by intro y hy; simp only [List.mem_cons, List.not_mem_nil, or_false] at hy; rcases hy with rfl | rfl <;> rfl) ?_ ?_
  . intro pq hp
    simp only [List.mem_cons, List.not_mem_nil, or_false] at hp
    (repeat' rcases hp with rfl | hp) <;> first | exact isV_stays _ | exact nothing_stays | (subst hp; first | exact isV_stays _ | exact nothing_stays) | exact isNum_stays _ _ _ _ | (subst hp; exact isNum_stays _ _ _ _)
  . refine AllOps.cons ?_ ?_
    . refine .inr (.inl ⟨rfl, by kernel_rfl, fun ab W hC hB hdep => .inl ⟨rfl, ?_⟩⟩)
      have b0 : ab.tmps.getD 1 undef = .pointer (some ⟨w.heap.size, 0, none⟩) := hB.off 1 (by kernel_rfl)
      clear hB hdep
      refine goes_value (v := .pointer (some ⟨w.heap.size, 1, none⟩)) ?_ hC rfl
      simp only [execOp, Act.eval, b0]
      go_simp
    refine AllOps.cons ?_ ?_
    . refine .inr (.inl ⟨rfl, by kernel_rfl, fun ab W hC hB hdep => .inl ⟨rfl, ?_⟩⟩)
      obtain ⟨x0, (q0 : (isV (.pointer (some ⟨w.heap.size, 1, none⟩))) x0 W), e0⟩ := hdep 0 5 (by kernel_rfl)
      obtain rfl : x0 = .pointer (some ⟨w.heap.size, 1, none⟩) := q0
      obtain ⟨c0, c1, c2, c3, c4, c5, c6, c7⟩ := rowS8 ((hC.block _ HLT.out).trans HX.out)
      clear hB hdep
      refine goes_value (v := .string t) ?_ hC rfl
      simp only [execOp, Act.eval, e0]
      go_simp
    refine AllOps.cons ?_ ?_
    . refine .inr (.inl ⟨rfl, by kernel_rfl, fun ab W hC hB hdep => .inl ⟨rfl, ?_⟩⟩)
      obtain ⟨x0, (q0 : (isV (.string t)) x0 W), e0⟩ := hdep 1 6 (by kernel_rfl)
      obtain rfl : x0 = .string t := q0
      clear hB hdep
      refine goes_call (f := 96) (args := #[.string t]) ?_ ?_
      . simp only [execOp]
        go_simp
      . exact (sclone_any t W HTS.out).mono fun e w7 ⟨he, hb⟩ => ⟨_, he, hC.trans (hb.mono hC.size), hb, rfl⟩
    refine AllOps.cons ?_ ?_
    . refine .inr (.inl ⟨rfl, by kernel_rfl, fun ab W hC hB hdep => .inl ⟨rfl, ?_⟩⟩)
      have b0 : ab.tmps.getD 1 undef = .pointer (some ⟨w.heap.size, 0, none⟩) := hB.off 1 (by kernel_rfl)
      clear hB hdep
      refine goes_value (v := .pointer (some ⟨w.heap.size, 2, none⟩)) ?_ hC rfl
      simp only [execOp, Act.eval, b0]
      go_simp
    refine AllOps.cons ?_ ?_
    . refine .inr (.inl ⟨rfl, by kernel_rfl, fun ab W hC hB hdep => .inl ⟨rfl, ?_⟩⟩)
      obtain ⟨x0, (q0 : (isV (.pointer (some ⟨w.heap.size, 2, none⟩))) x0 W), e0⟩ := hdep 3 8 (by kernel_rfl)
      obtain rfl : x0 = .pointer (some ⟨w.heap.size, 2, none⟩) := q0
      obtain ⟨c0, c1, c2, c3, c4, c5, c6, c7⟩ := rowS8 ((hC.block _ HLT.out).trans HX.out)
      clear hB hdep
      refine goes_value (v := .agg #[.bool n, .slice lo r.length lc]) ?_ hC rfl
      simp only [execOp, Act.eval, e0]
      go_simp
    refine AllOps.cons ?_ ?_
    . refine .inr (.inl ⟨rfl, by kernel_rfl, fun ab W hC hB hdep => .inl ⟨rfl, ?_⟩⟩)
      obtain ⟨x0, (q0 : (isV (.agg #[.bool n, .slice lo r.length lc])) x0 W), e0⟩ := hdep 4 9 (by kernel_rfl)
      obtain rfl : x0 = .agg #[.bool n, .slice lo r.length lc] := q0
      clear hB hdep
      refine goes_call (f := 97) (args := #[.agg #[.bool n, .slice lo r.length lc]]) ?_ ?_
      . simp only [execOp]
        go_simp
      . exact (number_any n _ r W (HRR.out.below (HB1.out.trans (hC.mono HB1.out.size))) HLN.out.1).mono fun e w7 ⟨o7, c7, he, ho, hb⟩ => ⟨_, he, hC.trans (hb.mono hC.size), hb, o7, c7, rfl, ownsRow_base ho hC.size⟩
    refine AllOps.cons ?_ ?_
    . refine .inr (.inr ⟨rfl, fun ab W W1 hC hB hdep => .inl ⟨rfl, ?_⟩⟩)
      have b0 : ab.tmps.getD 1 undef = .pointer (some ⟨w.heap.size, 0, none⟩) := hB.off 1 (by kernel_rfl)
      clear hB hdep
      refine ⟨.pointer (some ⟨w.heap.size, 1, none⟩), ?_, rfl⟩
      simp only [execOp, Act.eval, b0]
      go_simp
    refine AllOps.cons ?_ ?_
    . refine .inl ⟨[], _, _, rfl, rfl, ⟨7, by kernel_rfl⟩, fun vals ab W hC hB hdep => ⟨rfl, ?_⟩⟩
      obtain ⟨(q0 : (isV (.pointer (some ⟨w.heap.size, 1, none⟩))) (vals 6) W), e0⟩ := hdep 6 11 (by kernel_rfl)
      obtain ⟨(q1 : (isV (.string t)) (vals 2) W), e1⟩ := hdep 2 7 (by kernel_rfl)
      clear hB hdep
      have q0 : vals 6 = .pointer (some ⟨w.heap.size, 1, none⟩) := q0
      have q1 : vals 2 = .string t := q1
      have hz := frozen_heap ((hC.block _ HLT.out).trans HX.out) 1
      obtain ⟨c0, c1, c2, c3, c4, c5, c6, c7⟩ := rowS8 ((hC.block _ HLT.out).trans HX.out)
      rw [q0] at e0
      rw [q1] at e1 ⊢
      simp only [runAll, List.foldl]
      simp only [execOp, Act.eval, e0, e1]
      go_simp
    refine AllOps.cons ?_ ?_
    . refine .inr (.inr ⟨rfl, fun ab W W1 hC hB hdep => .inl ⟨rfl, ?_⟩⟩)
      have b0 : ab.tmps.getD 1 undef = .pointer (some ⟨w.heap.size, 0, none⟩) := hB.off 1 (by kernel_rfl)
      clear hB hdep
      refine ⟨.pointer (some ⟨w.heap.size, 2, none⟩), ?_, rfl⟩
      simp only [execOp, Act.eval, b0]
      go_simp
    refine AllOps.cons ?_ ?_
    . refine .inl ⟨[(7, 2, fun v W => W.setCell ⟨w.heap.size, 1, none⟩ v)], _, _, rfl, rfl, ⟨10, by kernel_rfl⟩, fun vals ab W hC hB hdep => ⟨rfl, ?_⟩⟩
      obtain ⟨(q0 : (isV (.pointer (some ⟨w.heap.size, 2, none⟩))) (vals 8) W), e0⟩ := hdep 8 12 (by kernel_rfl)
      obtain ⟨(q1 : (isNum n w1.heap.size r.length (ucs r)) (vals 5) W), e1⟩ := hdep 5 10 (by kernel_rfl)
      clear hB hdep
      have q0 : vals 8 = .pointer (some ⟨w.heap.size, 2, none⟩) := q0
      obtain ⟨uo, uc, hxv, _⟩ := q1
      have hz2 := frozen_heap (rowSet ((hC.block _ HLT.out).trans HX.out) 1 (vals 2)) 2
      have hz3 := frozen_heap (rowSet ((hC.block _ HLT.out).trans HX.out) 1 (vals 2)) 3
      have hc2 := cell_heap (rowSet ((hC.block _ HLT.out).trans HX.out) 1 (vals 2)) 2
      have hc3 := cell_heap (rowSet ((hC.block _ HLT.out).trans HX.out) 1 (vals 2)) 3
      simp at hc2 hc3
      rw [q0] at e0
      rw [hxv] at e1 ⊢
      simp only [runAll, List.foldl, setNum_eq]
      simp only [execOp, Act.eval, e0, e1]
      go_simp
    exact trivial
  . intro vals aa W0 hC hB hall
    obtain ⟨(k0 : (isV (.pointer (some ⟨w.heap.size, 1, none⟩))) (vals 0) W0), e0⟩ := hall 0 _ rfl rfl
    obtain ⟨(k1 : (isV (.string t)) (vals 1) W0), e1⟩ := hall 1 _ rfl rfl
    obtain ⟨(k2 : (isV (.string t)) (vals 2) W0), e2⟩ := hall 2 _ rfl rfl
    obtain ⟨(k3 : (isV (.pointer (some ⟨w.heap.size, 2, none⟩))) (vals 3) W0), e3⟩ := hall 3 _ rfl rfl
    obtain ⟨(k4 : (isV (.agg #[.bool n, .slice lo r.length lc])) (vals 4) W0), e4⟩ := hall 4 _ rfl rfl
    obtain ⟨(k5 : (isNum n w1.heap.size r.length (ucs r)) (vals 5) W0), e5⟩ := hall 5 _ rfl rfl
    obtain ⟨(k6 : (isV (.pointer (some ⟨w.heap.size, 1, none⟩))) (vals 6) W0), e6⟩ := hall 6 _ rfl rfl
    obtain ⟨(k8 : (isV (.pointer (some ⟨w.heap.size, 2, none⟩))) (vals 8) W0), e8⟩ := hall 8 _ rfl rfl
    have hv : ∀ pq ∈ [((5 : Nat), (.pointer (some ⟨w.heap.size, 1, none⟩) : Value)), ((6 : Nat), (.string t : Value)), ((7 : Nat), (.string t : Value)), ((8 : Nat), (.pointer (some ⟨w.heap.size, 2, none⟩) : Value)), ((9 : Nat), (.agg #[.bool n, .slice lo r.length lc] : Value)), ((10 : Nat), (vals 5 : Value)), ((11 : Nat), (.pointer (some ⟨w.heap.size, 1, none⟩) : Value)), ((12 : Nat), (.pointer (some ⟨w.heap.size, 2, none⟩) : Value))], aa.tmps.getD pq.1 undef = pq.2 := by
     intro pq hp
     simp only [List.mem_cons, List.not_mem_nil, or_false] at hp
     rcases hp with rfl | rfl | rfl | rfl | rfl | rfl | rfl | rfl
     . exact (e0 _ rfl).trans k0
     . exact (e1 _ rfl).trans k1
     . exact (e2 _ rfl).trans k2
     . exact (e3 _ rfl).trans k3
     . exact (e4 _ rfl).trans k4
     . exact e5 _ rfl
     . exact (e6 _ rfl).trans k6
     . exact (e8 _ rfl).trans k8
    have hact := act_fold _ hB hv (by kernel_rfl)
    subst hact
    have u1 := (hC.block _ HLT.out).trans HX.out
    have u2 := (hC.block _ (Array.getElem?_eq_some_iff.1 HZ.out).1).trans HZ.out
    have hk2 : vals 2 = .string t := k2
    obtain ⟨uo, uc, hk5, ho5⟩ : isNum n w1.heap.size r.length (ucs r) (vals 5) W0 := k5
    have hbW := HB1.out.trans (hC.mono HB1.out.size)
    have hszW : w.heap.size + 2 ≤ W0.heap.size := by have := HS1.out; have := hC.size; omega
    have ho6 := own_low ho5 (show w.heap.size + 2 ≤ w1.heap.size by have := HS1.out; omega)
    clear hv hall hB hC k0 k1 k2 k3 k4 k6 k8 e0 e1 e2 e3 e4 e5 e6 e8 ho5
    refine (‹∀ (a : Act) (w : World), Code.wp Tryz.prog _ _ a w → _›) _ _ ?_
    simp only [runAll, List.foldl, List.setIfInBounds_toArray, List.set_cons_succ, List.set_cons_zero, hk2, hk5, setNum_eq]
    have r1 : (W0.setCell ⟨w.heap.size, 1, none⟩ (.string t)).heap[w.heap.size]? = some (.cells #[.int .i64 k, .string t, .bool n, .slice lo r.length lc, .slice ao l.length cv0, .int .i64 a, .slice mo mm.length mc, .slice so s.length sc] 35 (0, 0)) := (rowSet u1 1 _).trans (by simp)
    have r2 : ((W0.setCell ⟨w.heap.size, 1, none⟩ (.string t)).setCell ⟨w.heap.size, 2, none⟩ (.bool n)).heap[w.heap.size]? = some (.cells #[.int .i64 k, .string t, .bool n, .slice lo r.length lc, .slice ao l.length cv0, .int .i64 a, .slice mo mm.length mc, .slice so s.length sc] 35 (0, 0)) := (rowSet r1 2 _).trans (by simp)
    have r3 : (((W0.setCell ⟨w.heap.size, 1, none⟩ (.string t)).setCell ⟨w.heap.size, 2, none⟩ (.bool n)).setCell ⟨w.heap.size, 3, none⟩ (.slice uo r.length uc)).heap[w.heap.size]? = some (.cells #[.int .i64 k, .string t, .bool n, .slice uo r.length uc, .slice ao l.length cv0, .int .i64 a, .slice mo mm.length mc, .slice so s.length sc] 35 (0, 0)) := (rowSet r2 3 _).trans (by simp)
    have HO2 : Hid ((((W0.setCell ⟨w.heap.size, 1, none⟩ (.string t)).setCell ⟨w.heap.size, 2, none⟩ (.bool n)).setCell ⟨w.heap.size, 3, none⟩ (.slice uo r.length uc)).ownsRow (w.heap.size + 2) 140 1 (.slice uo r.length uc) r.length (ucs r)) := Lib.hid (own_setT (own_setT (own_setT ho6 u1 (by decide) 1 _) r1 (by decide) 2 _) r2 (by decide) 3 _)
    have HZ2 : Hid ((((W0.setCell ⟨w.heap.size, 1, none⟩ (.string t)).setCell ⟨w.heap.size, 2, none⟩ (.bool n)).setCell ⟨w.heap.size, 3, none⟩ (.slice uo r.length uc)).heap[w.heap.size + 1]? = some (.cells #[.int .i64 0, .string ⟨#[]⟩, .bool false, .slice none 0 0, .slice none 0 0, .int .i64 0, .slice none 0 0, .slice none 0 0] 35 (0, 0))) := Lib.hid ((Below.heap_setCell _ _ _ _ (by simp)).trans ((Below.heap_setCell _ _ _ _ (by simp)).trans ((Below.heap_setCell _ _ _ _ (by simp)).trans u2)))
    have HX2 := Lib.hid r3
    have HB2 : Hid (Below w.heap.size w (((W0.setCell ⟨w.heap.size, 1, none⟩ (.string t)).setCell ⟨w.heap.size, 2, none⟩ (.bool n)).setCell ⟨w.heap.size, 3, none⟩ (.slice uo r.length uc))) := Lib.hid (((hbW.setCell (p := ⟨w.heap.size, 1, none⟩) (Nat.le_refl _) _).setCell (p := ⟨w.heap.size, 2, none⟩) (Nat.le_refl _) _).setCell (p := ⟨w.heap.size, 3, none⟩) (Nat.le_refl _) _)
    have HS2 : Hid (w.heap.size + 2 ≤ (((W0.setCell ⟨w.heap.size, 1, none⟩ (.string t)).setCell ⟨w.heap.size, 2, none⟩ (.bool n)).setCell ⟨w.heap.size, 3, none⟩ (.slice uo r.length uc)).heap.size) := Lib.hid (by simpa using hszW)
    clear r1 r2 r3 u1 u2 ho6 hbW hszW HB1 HX HZ HS1 HLT hk2 hk5
    generalize (((W0.setCell ⟨w.heap.size, 1, none⟩ (.string t)).setCell ⟨w.heap.size, 2, none⟩ (.bool n)).setCell ⟨w.heap.size, 3, none⟩ (.slice uo r.length uc)) = w2 at *
    go_upto_region 2 with fail
    have HLT := Lib.hid (Array.getElem?_eq_some_iff.1 HX2.out).1
    refine wp_region_seq ([(7, 2, fun v W => W.setCell ⟨w.heap.size, 6, none⟩ v), (9, 5, fun v W => W.setCell ⟨w.heap.size, 7, none⟩ v)] : List WrT) 7 (psi [isV (.pointer (some ⟨w.heap.size, 6, none⟩)), isV (.slice mo mm.length mc), isOwn1 w2.heap.size 3 mm.length (ics .i64 mm), isV (.pointer (some ⟨w.heap.size, 7, none⟩)), isV (.slice so s.length sc), isOwn1 w2.heap.size 3 s.length (ics .i64 s), isV (.pointer (some ⟨w.heap.size, 6, none⟩)), nothing, isV (.pointer (some ⟨w.heap.size, 7, none⟩)), nothing]) (fun W => Below w2.heap.size w2 W) (by kernel_rfl) (Below.refl _ _).drew (psi_mono ?_) (by kernel_rfl) (by kernel_rfl) rfl (by kernel_rfl) (by simp) (by intro y hy; simp only [List.mem_cons, List.not_mem_nil, or_false] at hy; rcases hy with rfl | rfl <;> rfl) (by intro y hy; simp only [List.mem_cons, List.not_mem_nil, or_false] at hy; rcases hy with rfl | rfl <;> rfl) ?_ ?_
    . intro pq hp
      simp only [List.mem_cons, List.not_mem_nil, or_false] at hp
      (repeat' rcases hp with rfl | hp) <;> first | exact isV_stays _ | exact nothing_stays | (subst hp; first | exact isV_stays _ | exact nothing_stays) | exact isOwn1_stays _ _ _ _ | (subst hp; exact isOwn1_stays _ _ _ _)
    . refine AllOps.cons ?_ ?_
      . refine .inr (.inl ⟨rfl, by kernel_rfl, fun ab W hC hB hdep => .inl ⟨rfl, ?_⟩⟩)
        have b0 : ab.tmps.getD 1 undef = .pointer (some ⟨w.heap.size, 0, none⟩) := hB.off 1 (by kernel_rfl)
        clear hB hdep
        refine goes_value (v := .pointer (some ⟨w.heap.size, 6, none⟩)) ?_ hC rfl
        simp only [execOp, Act.eval, b0]
        go_simp
      refine AllOps.cons ?_ ?_
      . refine .inr (.inl ⟨rfl, by kernel_rfl, fun ab W hC hB hdep => .inl ⟨rfl, ?_⟩⟩)
        obtain ⟨x0, (q0 : (isV (.pointer (some ⟨w.heap.size, 6, none⟩))) x0 W), e0⟩ := hdep 0 13 (by kernel_rfl)
        obtain rfl : x0 = .pointer (some ⟨w.heap.size, 6, none⟩) := q0
        obtain ⟨c0, c1, c2, c3, c4, c5, c6, c7⟩ := rowS8 ((hC.block _ HLT.out).trans HX2.out)
        clear hB hdep
        refine goes_value (v := .slice mo mm.length mc) ?_ hC rfl
        simp only [execOp, Act.eval, e0]
        go_simp
      refine AllOps.cons ?_ ?_
      . refine .inr (.inl ⟨rfl, by kernel_rfl, fun ab W hC hB hdep => .inl ⟨rfl, ?_⟩⟩)
        obtain ⟨x0, (q0 : (isV (.slice mo mm.length mc)) x0 W), e0⟩ := hdep 1 14 (by kernel_rfl)
        obtain rfl : x0 = .slice mo mm.length mc := q0
        clear hB hdep
        refine goes_call (f := 57) (args := #[.slice mo mm.length mc]) ?_ ?_
        . simp only [execOp]
          go_simp
        . exact (scli_any _ mm.length (ics .i64 mm) W (HMM.out.below (HB2.out.trans (hC.mono HB2.out.size))) (icsone _) HLN.out.2.2.1).mono fun e w7 ⟨v7, he, ho, hb⟩ => ⟨v7, he, hC.trans (hb.mono hC.size), hb, ownsRow_base ho hC.size⟩
      refine AllOps.cons ?_ ?_
      . refine .inr (.inl ⟨rfl, by kernel_rfl, fun ab W hC hB hdep => .inl ⟨rfl, ?_⟩⟩)
        have b0 : ab.tmps.getD 1 undef = .pointer (some ⟨w.heap.size, 0, none⟩) := hB.off 1 (by kernel_rfl)
        clear hB hdep
        refine goes_value (v := .pointer (some ⟨w.heap.size, 7, none⟩)) ?_ hC rfl
        simp only [execOp, Act.eval, b0]
        go_simp
      refine AllOps.cons ?_ ?_
      . refine .inr (.inl ⟨rfl, by kernel_rfl, fun ab W hC hB hdep => .inl ⟨rfl, ?_⟩⟩)
        obtain ⟨x0, (q0 : (isV (.pointer (some ⟨w.heap.size, 7, none⟩))) x0 W), e0⟩ := hdep 3 16 (by kernel_rfl)
        obtain rfl : x0 = .pointer (some ⟨w.heap.size, 7, none⟩) := q0
        obtain ⟨c0, c1, c2, c3, c4, c5, c6, c7⟩ := rowS8 ((hC.block _ HLT.out).trans HX2.out)
        clear hB hdep
        refine goes_value (v := .slice so s.length sc) ?_ hC rfl
        simp only [execOp, Act.eval, e0]
        go_simp
      refine AllOps.cons ?_ ?_
      . refine .inr (.inl ⟨rfl, by kernel_rfl, fun ab W hC hB hdep => .inl ⟨rfl, ?_⟩⟩)
        obtain ⟨x0, (q0 : (isV (.slice so s.length sc)) x0 W), e0⟩ := hdep 4 17 (by kernel_rfl)
        obtain rfl : x0 = .slice so s.length sc := q0
        clear hB hdep
        refine goes_call (f := 57) (args := #[.slice so s.length sc]) ?_ ?_
        . simp only [execOp]
          go_simp
        . exact (scli_any _ s.length (ics .i64 s) W (HSS.out.below (HB2.out.trans (hC.mono HB2.out.size))) (icsone _) HLN.out.2.2.2).mono fun e w7 ⟨v7, he, ho, hb⟩ => ⟨v7, he, hC.trans (hb.mono hC.size), hb, ownsRow_base ho hC.size⟩
      refine AllOps.cons ?_ ?_
      . refine .inr (.inr ⟨rfl, fun ab W W1 hC hB hdep => .inl ⟨rfl, ?_⟩⟩)
        have b0 : ab.tmps.getD 1 undef = .pointer (some ⟨w.heap.size, 0, none⟩) := hB.off 1 (by kernel_rfl)
        clear hB hdep
        refine ⟨.pointer (some ⟨w.heap.size, 6, none⟩), ?_, rfl⟩
        simp only [execOp, Act.eval, b0]
        go_simp
      refine AllOps.cons ?_ ?_
      . refine .inl ⟨[], _, _, rfl, rfl, ⟨15, by kernel_rfl⟩, fun vals ab W hC hB hdep => ⟨rfl, ?_⟩⟩
        obtain ⟨(q0 : (isV (.pointer (some ⟨w.heap.size, 6, none⟩))) (vals 6) W), e0⟩ := hdep 6 19 (by kernel_rfl)
        obtain ⟨(q1 : (isOwn1 w2.heap.size 3 mm.length (ics .i64 mm)) (vals 2) W), e1⟩ := hdep 2 15 (by kernel_rfl)
        clear hB hdep
        have q0 : vals 6 = .pointer (some ⟨w.heap.size, 6, none⟩) := q0
        obtain ⟨xo, xc, hxv⟩ := own_dslice q1
        have hz := frozen_heap ((hC.block _ HLT.out).trans HX2.out) 6
        obtain ⟨c0, c1, c2, c3, c4, c5, c6, c7⟩ := rowS8 ((hC.block _ HLT.out).trans HX2.out)
        rw [q0] at e0
        rw [hxv] at e1 ⊢
        simp only [runAll, List.foldl]
        simp only [execOp, Act.eval, e0, e1]
        go_simp
      refine AllOps.cons ?_ ?_
      . refine .inr (.inr ⟨rfl, fun ab W W1 hC hB hdep => .inl ⟨rfl, ?_⟩⟩)
        have b0 : ab.tmps.getD 1 undef = .pointer (some ⟨w.heap.size, 0, none⟩) := hB.off 1 (by kernel_rfl)
        clear hB hdep
        refine ⟨.pointer (some ⟨w.heap.size, 7, none⟩), ?_, rfl⟩
        simp only [execOp, Act.eval, b0]
        go_simp
      refine AllOps.cons ?_ ?_
      . refine .inl ⟨[(7, 2, fun v W => W.setCell ⟨w.heap.size, 6, none⟩ v)], _, _, rfl, rfl, ⟨18, by kernel_rfl⟩, fun vals ab W hC hB hdep => ⟨rfl, ?_⟩⟩
        obtain ⟨(q0 : (isV (.pointer (some ⟨w.heap.size, 7, none⟩))) (vals 8) W), e0⟩ := hdep 8 20 (by kernel_rfl)
        obtain ⟨(q1 : (isOwn1 w2.heap.size 3 s.length (ics .i64 s)) (vals 5) W), e1⟩ := hdep 5 18 (by kernel_rfl)
        clear hB hdep
        have q0 : vals 8 = .pointer (some ⟨w.heap.size, 7, none⟩) := q0
        obtain ⟨xo, xc, hxv⟩ := own_dslice q1
        have hz := frozen_heap (rowSet ((hC.block _ HLT.out).trans HX2.out) 6 (vals 2)) 7
        obtain ⟨c0, c1, c2, c3, c4, c5, c6, c7⟩ := rowS8 ((hC.block _ HLT.out).trans HX2.out)
        rw [q0] at e0
        rw [hxv] at e1 ⊢
        simp only [runAll, List.foldl]
        simp only [execOp, Act.eval, e0, e1]
        go_simp
      exact trivial
    . intro vals aa W0 hC hB hall
      obtain ⟨(k0 : (isV (.pointer (some ⟨w.heap.size, 6, none⟩))) (vals 0) W0), e0⟩ := hall 0 _ rfl rfl
      obtain ⟨(k1 : (isV (.slice mo mm.length mc)) (vals 1) W0), e1⟩ := hall 1 _ rfl rfl
      obtain ⟨(k2 : (isOwn1 w2.heap.size 3 mm.length (ics .i64 mm)) (vals 2) W0), e2⟩ := hall 2 _ rfl rfl
      obtain ⟨(k3 : (isV (.pointer (some ⟨w.heap.size, 7, none⟩))) (vals 3) W0), e3⟩ := hall 3 _ rfl rfl
      obtain ⟨(k4 : (isV (.slice so s.length sc)) (vals 4) W0), e4⟩ := hall 4 _ rfl rfl
      obtain ⟨(k5 : (isOwn1 w2.heap.size 3 s.length (ics .i64 s)) (vals 5) W0), e5⟩ := hall 5 _ rfl rfl
      obtain ⟨(k6 : (isV (.pointer (some ⟨w.heap.size, 6, none⟩))) (vals 6) W0), e6⟩ := hall 6 _ rfl rfl
      obtain ⟨(k8 : (isV (.pointer (some ⟨w.heap.size, 7, none⟩))) (vals 8) W0), e8⟩ := hall 8 _ rfl rfl
      have hv : ∀ pq ∈ [((13 : Nat), (.pointer (some ⟨w.heap.size, 6, none⟩) : Value)), ((14 : Nat), (.slice mo mm.length mc : Value)), ((15 : Nat), (vals 2 : Value)), ((16 : Nat), (.pointer (some ⟨w.heap.size, 7, none⟩) : Value)), ((17 : Nat), (.slice so s.length sc : Value)), ((18 : Nat), (vals 5 : Value)), ((19 : Nat), (.pointer (some ⟨w.heap.size, 6, none⟩) : Value)), ((20 : Nat), (.pointer (some ⟨w.heap.size, 7, none⟩) : Value))], aa.tmps.getD pq.1 undef = pq.2 := by
       intro pq hp
       simp only [List.mem_cons, List.not_mem_nil, or_false] at hp
       rcases hp with rfl | rfl | rfl | rfl | rfl | rfl | rfl | rfl
       . exact (e0 _ rfl).trans k0
       . exact (e1 _ rfl).trans k1
       . exact e2 _ rfl
       . exact (e3 _ rfl).trans k3
       . exact (e4 _ rfl).trans k4
       . exact e5 _ rfl
       . exact (e6 _ rfl).trans k6
       . exact (e8 _ rfl).trans k8
      have hact := act_fold _ hB hv (by kernel_rfl)
      subst hact
      have u1 := (hC.block _ HLT.out).trans HX2.out
      have u2 := (hC.block _ (Array.getElem?_eq_some_iff.1 HZ2.out).1).trans HZ2.out
      have KM : W0.ownsRow w2.heap.size 3 1 (vals 2) mm.length (ics .i64 mm) := k2
      have KS : W0.ownsRow w2.heap.size 3 1 (vals 5) s.length (ics .i64 s) := k5
      have KL := ownsRow_keep HO2.out (Keeps.of_below (P := fun _ => True) hC) fun _ _ => trivial
      obtain ⟨mo2, mc2, hk2⟩ := own_dslice KM
      obtain ⟨so2, sc2, hk5⟩ := own_dslice KS
      rw [hk2] at KM
      rw [hk5] at KS
      have KM := own_low KM HS2.out
      have KS := own_low KS HS2.out
      have hbW := HB2.out.trans (hC.mono HB2.out.size)
      have hszW : w.heap.size + 2 ≤ W0.heap.size := Nat.le_trans HS2.out hC.size
      clear hv hall hB hC k0 k1 k2 k3 k4 k5 k6 k8 e0 e1 e2 e3 e4 e5 e6 e8
      refine (‹∀ (a : Act) (w : World), Code.wp Tryz.prog _ _ a w → _›) _ _ ?_
      simp only [runAll, List.foldl, List.setIfInBounds_toArray, List.set_cons_succ, List.set_cons_zero, hk2, hk5]
      have r1 : (W0.setCell ⟨w.heap.size, 6, none⟩ (.slice mo2 mm.length mc2)).heap[w.heap.size]? = some (.cells #[.int .i64 k, .string t, .bool n, .slice uo r.length uc, .slice ao l.length cv0, .int .i64 a, .slice mo2 mm.length mc2, .slice so s.length sc] 35 (0, 0)) := (rowSet u1 6 _).trans (by simp)
      have r2 : ((W0.setCell ⟨w.heap.size, 6, none⟩ (.slice mo2 mm.length mc2)).setCell ⟨w.heap.size, 7, none⟩ (.slice so2 s.length sc2)).heap[w.heap.size]? = some (.cells #[.int .i64 k, .string t, .bool n, .slice uo r.length uc, .slice ao l.length cv0, .int .i64 a, .slice mo2 mm.length mc2, .slice so2 s.length sc2] 35 (0, 0)) := (rowSet r1 7 _).trans (by simp)
      have HO3 : Hid (((W0.setCell ⟨w.heap.size, 6, none⟩ (.slice mo2 mm.length mc2)).setCell ⟨w.heap.size, 7, none⟩ (.slice so2 s.length sc2)).ownsRow (w.heap.size + 2) 140 1 (.slice uo r.length uc) r.length (ucs r)) := Lib.hid (own_setT (own_setT KL u1 (by decide) 6 _) r1 (by decide) 7 _)
      have HM3 : Hid (((W0.setCell ⟨w.heap.size, 6, none⟩ (.slice mo2 mm.length mc2)).setCell ⟨w.heap.size, 7, none⟩ (.slice so2 s.length sc2)).ownsRow (w.heap.size + 2) 3 1 (.slice mo2 mm.length mc2) mm.length (ics .i64 mm)) := Lib.hid (own_setT (own_setT KM u1 (by decide) 6 _) r1 (by decide) 7 _)
      have HS3 : Hid (((W0.setCell ⟨w.heap.size, 6, none⟩ (.slice mo2 mm.length mc2)).setCell ⟨w.heap.size, 7, none⟩ (.slice so2 s.length sc2)).ownsRow (w.heap.size + 2) 3 1 (.slice so2 s.length sc2) s.length (ics .i64 s)) := Lib.hid (own_setT (own_setT KS u1 (by decide) 6 _) r1 (by decide) 7 _)
      have HZ3 : Hid (((W0.setCell ⟨w.heap.size, 6, none⟩ (.slice mo2 mm.length mc2)).setCell ⟨w.heap.size, 7, none⟩ (.slice so2 s.length sc2)).heap[w.heap.size + 1]? = some (.cells #[.int .i64 0, .string ⟨#[]⟩, .bool false, .slice none 0 0, .slice none 0 0, .int .i64 0, .slice none 0 0, .slice none 0 0] 35 (0, 0))) := Lib.hid ((Below.heap_setCell _ _ _ _ (by simp)).trans ((Below.heap_setCell _ _ _ _ (by simp)).trans u2))
      have HX3 := Lib.hid r2
      have HB3 : Hid (Below w.heap.size w ((W0.setCell ⟨w.heap.size, 6, none⟩ (.slice mo2 mm.length mc2)).setCell ⟨w.heap.size, 7, none⟩ (.slice so2 s.length sc2))) := Lib.hid ((hbW.setCell (p := ⟨w.heap.size, 6, none⟩) (Nat.le_refl _) _).setCell (p := ⟨w.heap.size, 7, none⟩) (Nat.le_refl _) _)
      have HG3 : Hid (w.heap.size + 2 ≤ ((W0.setCell ⟨w.heap.size, 6, none⟩ (.slice mo2 mm.length mc2)).setCell ⟨w.heap.size, 7, none⟩ (.slice so2 s.length sc2)).heap.size) := Lib.hid (by simpa using hszW)
      clear r1 r2 u1 u2 KL KM KS hbW hszW HB2 HX2 HZ2 HS2 HLT HO2 hk2 hk5
      generalize ((W0.setCell ⟨w.heap.size, 6, none⟩ (.slice mo2 mm.length mc2)).setCell ⟨w.heap.size, 7, none⟩ (.slice so2 s.length sc2)) = w3 at *
      obtain ⟨c0, c1, c2, c3, c4, c5, c6, c7⟩ := rowS8 HX3.out
      go_wp2_with fail
      refine (sclS_any _ l.length xs w3 (HW1.out.below HB3.out) (one_each l xs HW1.out.1 fun i h => (HI1.out i h).layP) HLN.out.2.1).mono ?_
      rintro e w4 ⟨v4, rfl, hown, hb4⟩
      have HB4 := Lib.hid (HB3.out.trans (hb4.mono HB3.out.size))
      have X4 := Lib.hid ((hb4.block _ (Array.getElem?_eq_some_iff.1 HX3.out).1).trans HX3.out)
      have Z4 := Lib.hid ((hb4.block _ (Array.getElem?_eq_some_iff.1 HZ3.out).1).trans HZ3.out)
      have O4 := Lib.hid (ownsRow_keep HO3.out (Keeps.of_below (P := fun _ => True) hb4) fun _ _ => trivial)
      have M4 := Lib.hid (ownsRow_keep HM3.out (Keeps.of_below (P := fun _ => True) hb4) fun _ _ => trivial)
      have S4 := Lib.hid (ownsRow_keep HS3.out (Keeps.of_below (P := fun _ => True) hb4) fun _ _ => trivial)
      have HOW := Lib.hid hown
      have HF : Hid (∀ g, ((Value.slice uo r.length uc).ownBlock = some g ∨ (Value.slice mo2 mm.length mc2).ownBlock = some g ∨ (Value.slice so2 s.length sc2).ownBlock = some g) → w.heap.size + 2 ≤ g ∧ g < w3.heap.size) := Lib.hid fun g hg => by
       rcases hg with hg | hg | hg
       . exact HO3.out.lt g hg
       . exact HM3.out.lt g hg
       . exact HS3.out.lt g hg
      have HG4 : Hid (w3.heap.size ≤ w4.heap.size) := Lib.hid hb4.size
      clear hb4 c0 c1 c2 c3 c4 c5 c6 c7 HX3 HZ3 HO3 HM3 HS3 HB3 hown
      rcases HOW.out.2 with ⟨hv, hn0⟩ | ⟨b, cap, cur, hv, hge, hblk, hnc, hcm, hcs, htk⟩
      . subst hv
        obtain rfl : l = [] := List.eq_nil_of_length_eq_zero hn0
        have z4 := frozen_heap X4.out 4
        obtain ⟨c0, c1, c2, c3, c4, c5, c6, c7⟩ := rowS8 X4.out
        go_upto_region 4 with fail
        have hX5 : (w4.setCell ⟨w.heap.size, 4, none⟩ (.slice none 0 0)).heap[w.heap.size]? = some (.cells #[.int .i64 k, .string t, .bool n, .slice uo r.length uc, .slice none 0 0, .int .i64 a, .slice mo2 mm.length mc2, .slice so2 s.length sc2] 35 (0, 0)) := (rowSet X4.out 4 _).trans (by simp)
        have HCI : Hid (CpI w w4 #[.int .i64 k, .string t, .bool n, .slice uo r.length uc, .slice none 0 0, .int .i64 a, .slice mo2 mm.length mc2, .slice so2 s.length sc2] #[.int .i64 0, .string ⟨#[]⟩, .bool false, .slice none 0 0, .slice none 0 0, .int .i64 0, .slice none 0 0, .slice none 0 0] (.slice uo r.length uc) (.slice mo2 mm.length mc2) (.slice so2 s.length sc2) r mm s (w4.setCell ⟨w.heap.size, 4, none⟩ (.slice none 0 0))) := Lib.hid ⟨hX5, (Below.heap_setCell _ _ _ _ (by simp)).trans Z4.out, own_low (own_setT O4.out X4.out (by decide) 4 _) (Nat.zero_le _), own_low (own_setT M4.out X4.out (by decide) 4 _) (Nat.zero_le _), own_low (own_setT S4.out X4.out (by decide) 4 _) (Nat.zero_le _), HB4.out.setCell (p := ⟨w.heap.size, 4, none⟩) (Nat.le_refl _) _, by simp⟩
        clear c0 c1 c2 c3 c4 c5 c6 c7 z4 hX5
        generalize (w4.setCell ⟨w.heap.size, 4, none⟩ (.slice none 0 0)) = w5 at *
        obtain ⟨c0, c1, c2, c3, c4, c5, c6, c7⟩ := rowS8 HCI.out.x
        go_wp2_with fail
        go_loopw [28] (fun v wr => v = .int .i64 0 ∧ wr = w5) (fun _ _ => 0)
        case atStart => exact ⟨rfl, rfl⟩
        case round =>
         obtain ⟨rfl, hwr⟩ := hrel
         subst hwr
         clear c0 c1 c2 c3 c4 c5 c6 c7
         obtain ⟨e0, e1, e2, e3, e4, e5, e6, e7⟩ := rowS8 HCI.out.x
         have hz := HCI.out.z
         obtain ⟨d0, d1, d2, d3, d4, d5, d6, d7⟩ := rowS8 hz
         have z0 := frozen_heap hz 0
         have z1 := frozen_heap hz 1
         have z2 := frozen_heap hz 2
         have z3 := frozen_heap hz 3
         have z4 := frozen_heap hz 4
         have z5 := frozen_heap hz 5
         have z6 := frozen_heap hz 6
         have z7 := frozen_heap hz 7
         have hrow := put8w_row hz (.int .i64 k) (.string t) (.bool n) (.slice uo r.length uc) (.slice none 0 0) (.int .i64 a) (.slice mo2 mm.length mc2) (.slice so2 s.length sc2)
         have hkf := put8w_keep (fun b => b ≠ w.heap.size + 1) wr (w.heap.size + 1) (by simp) (.int .i64 k) (.string t) (.bool n) (.slice uo r.length uc) (.slice none 0 0) (.int .i64 a) (.slice mo2 mm.length mc2) (.slice so2 s.length sc2)
         have hbf := put8w_below HCI.out.bel (show w.heap.size ≤ w.heap.size + 1 by omega) (.int .i64 k) (.string t) (.bool n) (.slice uo r.length uc) (.slice none 0 0) (.int .i64 a) (.slice mo2 mm.length mc2) (.slice so2 s.length sc2)
         have HF9 := Lib.hid (And.intro hrow (And.intro hkf hbf))
         clear hrow hkf hbf hz
         go_wp2_with fail
         clear e0 e1 e2 e3 e4 e5 e6 e7 d0 d1 d2 d3 d4 d5 d6 d7 z0 z1 z2 z3 z4 z5 z6 z7
         unfold put8w at HF9
         generalize World.setCell _ ⟨w.heap.size + 1, 7, none⟩ (.slice so2 s.length sc2) = W9 at *
         obtain ⟨g0, g1, g2, g3, g4, g5, g6, g7⟩ := rowS8 HF9.out.1
         have hL := ownsRow_keep HCI.out.lr HF9.out.2.1 fun g hg => by have := (HF.out g (.inl hg)).1; omega
         have hM := ownsRow_keep HCI.out.mr HF9.out.2.1 fun g hg => by have := (HF.out g (.inr (.inl hg))).1; omega
         have hS := ownsRow_keep HCI.out.sr HF9.out.2.1 fun g hg => by have := (HF.out g (.inr (.inr hg))).1; omega
         refine bodyPost_ret (v := .agg #[.int .i64 k, .string t, .bool n, .slice uo r.length uc, .slice none 0 0, .int .i64 a, .slice mo2 mm.length mc2, .slice so2 s.length sc2]) (by simp [results, Tryz.results64, go_sem, g0, g1, g2, g3, g4, g5, g6, g7]) rfl ?_
         refine ⟨_, rfl, .mk (Fc := fun _ _ => False) HTL.out.1 HTL.out.2 hL (World.ownsRow_nil _ _ _ _) hM hS (fun g hg => ⟨⟨by have := (HF.out g (.inl hg)).1; omega, (hL.lt g hg).2⟩, fun _ h => h⟩) (fun g hg => ⟨⟨by have := (HF.out g (.inr (.inl hg))).1; omega, (hM.lt g hg).2⟩, fun _ h => h⟩) (fun g hg => ⟨⟨by have := (HF.out g (.inr (.inr hg))).1; omega, (hS.lt g hg).2⟩, fun _ h => h⟩) (fun g hg => by cases hg) (fun _ _ h => h.elim) (fun _ _ _ _ h => h.elim) (fun i hi => by cases hi), HF9.out.2.2⟩
      . subst hv
        have HBK := Lib.hid (And.intro hge (And.intro hblk (And.intro hnc (And.intro hcm (And.intro hcs htk)))))
        have z4 := frozen_heap X4.out 4
        obtain ⟨c0, c1, c2, c3, c4, c5, c6, c7⟩ := rowS8 X4.out
        clear hge hblk hnc hcm hcs htk
        go_upto_region 4 with fail
        have hX5 : (w4.setCell ⟨w.heap.size, 4, none⟩ (.slice (some ⟨b, 0, none⟩) l.length cap)).heap[w.heap.size]? = some (.cells #[.int .i64 k, .string t, .bool n, .slice uo r.length uc, .slice (some ⟨b, 0, none⟩) l.length cap, .int .i64 a, .slice mo2 mm.length mc2, .slice so2 s.length sc2] 35 (0, 0)) := (rowSet X4.out 4 _).trans (by simp)
        have HCI : Hid (CpI w w4 #[.int .i64 k, .string t, .bool n, .slice uo r.length uc, .slice (some ⟨b, 0, none⟩) l.length cap, .int .i64 a, .slice mo2 mm.length mc2, .slice so2 s.length sc2] #[.int .i64 0, .string ⟨#[]⟩, .bool false, .slice none 0 0, .slice none 0 0, .int .i64 0, .slice none 0 0, .slice none 0 0] (.slice uo r.length uc) (.slice mo2 mm.length mc2) (.slice so2 s.length sc2) r mm s (w4.setCell ⟨w.heap.size, 4, none⟩ (.slice (some ⟨b, 0, none⟩) l.length cap))) := Lib.hid ⟨hX5, (Below.heap_setCell _ _ _ _ (by simp)).trans Z4.out, own_low (own_setT O4.out X4.out (by decide) 4 _) (Nat.zero_le _), own_low (own_setT M4.out X4.out (by decide) 4 _) (Nat.zero_le _), own_low (own_setT S4.out X4.out (by decide) 4 _) (Nat.zero_le _), HB4.out.setCell (p := ⟨w.heap.size, 4, none⟩) (Nat.le_refl _) _, by simp⟩
        have HRO : Hid (RowO (w4.setCell ⟨w.heap.size, 4, none⟩ (.slice (some ⟨b, 0, none⟩) l.length cap)) b cur (fun _ => .mk k t n r l a mm s) 0 (fun _ _ => False)) := Lib.hid ⟨(Below.heap_setCell _ _ _ _ (by have := HBK.out.1; have := HG3.out; simp; omega)).trans HBK.out.2.1, by omega, fun i hi => by omega, fun _ _ _ _ h => h.elim, fun _ h => h, fun _ _ h => h.elim⟩
        clear c0 c1 c2 c3 c4 c5 c6 c7 z4 hX5
        generalize (w4.setCell ⟨w.heap.size, 4, none⟩ (.slice (some ⟨b, 0, none⟩) l.length cap)) = w5 at *
        have HBL : Hid (w3.heap.size ≤ b ∧ b < w4.heap.size) := Lib.hid ⟨HBK.out.1, (Array.getElem?_eq_some_iff.1 HBK.out.2.1).1⟩
        obtain ⟨c0, c1, c2, c3, c4, c5, c6, c7⟩ := rowS8 HCI.out.x
        go_wp2_with fail
        clear c0 c1 c2 c3 c4 c5 c6 c7
        go_loopw [28] (fun v wr => ∃ (j : Nat) (cs : Array Value) (T : Nat → Sx) (Fc : Nat → Nat → Prop), v = .int .i64 (j : Nat) ∧ j ≤ l.length ∧ cs.size = cap * 8 ∧ (∀ i, j * 8 ≤ i → cs[i]? = cur[i]?) ∧ (∀ (i : Nat) (h : i < l.length), i < j → T i = l[i]'h) ∧ (∀ i c, Fc i c → w4.heap.size ≤ c ∧ i < j) ∧ RowO wr b cs T j Fc ∧ CpI w w4 #[.int .i64 k, .string t, .bool n, .slice uo r.length uc, .slice (some ⟨b, 0, none⟩) l.length cap, .int .i64 a, .slice mo2 mm.length mc2, .slice so2 s.length sc2] #[.int .i64 0, .string ⟨#[]⟩, .bool false, .slice none 0 0, .slice none 0 0, .int .i64 0, .slice none 0 0, .slice none 0 0] (.slice uo r.length uc) (.slice mo2 mm.length mc2) (.slice so2 s.length sc2) r mm s wr) (fun v _ => l.length - (intOf v).toNat)
        case atStart => exact ⟨0, cur, _, _, rfl, Nat.zero_le _, HBK.out.2.2.2.2.1, fun _ _ => rfl, fun _ _ h => by omega, fun _ _ h => h.elim, HRO.out, HCI.out⟩
        case round =>
         obtain ⟨j, cs, T, Fc, rfl, hj, hcz, hsame, hT, hFc, hro, hci⟩ := hrel
         have hmx := HMX.out
         have HCI := Lib.hid hci
         have HRO := Lib.hid hro
         have HST := Lib.hid (And.intro hcz (And.intro hsame (And.intro hT hFc)))
         clear hcz hsame hT hFc hro hci
         obtain ⟨c0, c1, c2, c3, c4, c5, c6, c7⟩ := rowS8 HCI.out.x
         by_cases hjl : j < l.length
         . have hii : ((j : Nat) : Int) < ((l.length : Nat) : Int) := by omega
           obtain ⟨v0, v1, v2, v3, v4, v5, v6, v7, hv8, hly⟩ := row_eight HI1.out hjl
           obtain ⟨kx, tx, nx, xo, xn, xc, yo, yn, yc, ax, po, pn, pc, qo, qn, qc, hsh⟩ := sx_shapes hly
           simp only [List.cons.injEq, and_true] at hsh
           obtain ⟨rfl, rfl, rfl, rfl, rfl, rfl, rfl, rfl⟩ := hsh
           have hat := cells8_at hv8
           have hcell : ∀ q u, q < 8 → xs[j * 8 + q]? = some u → wr.cell? ⟨b, j * 8 + q, none⟩ = some u := fun q u hq hu => by
            rw [cell_heap HRO.out.blk, HST.out.2.1 _ (by omega), cur_take HBK.out.2.2.2.2.2 (by omega)]
            exact hu
           have p0 := hcell 0 _ (by omega) hat.1
           have p1 := hcell 1 _ (by omega) hat.2.1
           have p2 := hcell 2 _ (by omega) hat.2.2.1
           have p3 := hcell 3 _ (by omega) hat.2.2.2.1
           have p4 := hcell 4 _ (by omega) hat.2.2.2.2.1
           have p5 := hcell 5 _ (by omega) hat.2.2.2.2.2.1
           have p6 := hcell 6 _ (by omega) hat.2.2.2.2.2.2.1
           have p7 := hcell 7 _ (by omega) hat.2.2.2.2.2.2.2
           simp only [Nat.add_zero] at p0
           have hcs8 : cs[j * 8]? = some (.int .i64 kx) ∧ cs[j * 8 + 1]? = some (.string tx) ∧ cs[j * 8 + 2]? = some (.bool nx) ∧ cs[j * 8 + 3]? = some (.slice xo xn xc) ∧ cs[j * 8 + 4]? = some (.slice yo yn yc) ∧ cs[j * 8 + 5]? = some (.int .i64 ax) ∧ cs[j * 8 + 6]? = some (.slice po pn pc) ∧ cs[j * 8 + 7]? = some (.slice qo qn qc) := by
            have hq : ∀ q u, q < 8 → xs[j * 8 + q]? = some u → cs[j * 8 + q]? = some u := fun q u hq hu => by
             rw [HST.out.2.1 _ (by omega), cur_take HBK.out.2.2.2.2.2 (by omega)]; exact hu
            exact ⟨hq 0 _ (by omega) hat.1, hq 1 _ (by omega) hat.2.1, hq 2 _ (by omega) hat.2.2.1, hq 3 _ (by omega) hat.2.2.2.1, hq 4 _ (by omega) hat.2.2.2.2.1, hq 5 _ (by omega) hat.2.2.2.2.2.1, hq 6 _ (by omega) hat.2.2.2.2.2.2.1, hq 7 _ (by omega) hat.2.2.2.2.2.2.2⟩
           have HY := Lib.hid hly
           clear hly hat hcell hv8
           go_upto_region 7 with fail
           clear p0 p1 p2 p3 p4 p5 p6 p7 c0 c1 c2 c3 c4 c5 c6 c7
           have hbE := below1 wr (.cells #[.int .i64 kx, .string tx, .bool nx, .slice xo xn xc, .slice yo yn yc, .int .i64 ax, .slice po pn pc, .slice qo qn qc] 35)
           have hxE := heap_alloc_new wr (.cells #[.int .i64 kx, .string tx, .bool nx, .slice xo xn xc, .slice yo yn yc, .int .i64 ax, .slice po pn pc, .slice qo qn qc] 35)
           have hxl : (wr.alloc (.cells #[.int .i64 kx, .string tx, .bool nx, .slice xo xn xc, .slice yo yn yc, .int .i64 ax, .slice po pn pc, .slice qo qn qc] 35)).heap.size = wr.heap.size + 1 := by simp
           have HAT : Hid (cs[j * 8]? = some (.int .i64 kx) ∧ cs[j * 8 + 1]? = some (.string tx) ∧ cs[j * 8 + 2]? = some (.bool nx) ∧ cs[j * 8 + 3]? = some (.slice xo xn xc) ∧ cs[j * 8 + 4]? = some (.slice yo yn yc) ∧ cs[j * 8 + 5]? = some (.int .i64 ax) ∧ cs[j * 8 + 6]? = some (.slice po pn pc) ∧ cs[j * 8 + 7]? = some (.slice qo qn qc)) := Lib.hid hcs8
           clear hcs8
           generalize wr.alloc (.cells #[.int .i64 kx, .string tx, .bool nx, .slice xo xn xc, .slice yo yn yc, .int .i64 ax, .slice po pn pc, .slice qo qn qc] 35) = we at *
           have HBE := Lib.hid hbE
           have HXE := Lib.hid hxE
           have HWE : Hid (wr.heap.size < we.heap.size) := Lib.hid (by omega)
           have HXX := Lib.hid ((hbE.block _ (Array.getElem?_eq_some_iff.1 HCI.out.x).1).trans HCI.out.x)
           have HBB := Lib.hid ((hbE.block _ (Array.getElem?_eq_some_iff.1 HRO.out.blk).1).trans HRO.out.blk)
           have HLT := Lib.hid (And.intro (Array.getElem?_eq_some_iff.1 HXX.out).1 (Array.getElem?_eq_some_iff.1 HBB.out).1)
           clear hbE hxE hxl
           refine wp_region_late 6 5 4 38 37 (psi [isV (.pointer (some ⟨w.heap.size, 4, none⟩)), isV (.slice (some ⟨b, 0, none⟩) l.length cap), isV (.int .i64 (j : Nat)), isV (.agg #[.int .i64 kx, .string tx, .bool nx, .slice xo xn xc, .slice yo yn yc, .int .i64 ax, .slice po pn pc, .slice qo qn qc]), isCp we.heap.size (l[j]'hjl), isV (.pointer (some ⟨b, j * 8, none⟩)), nothing]) (fun W => Below we.heap.size we W) (fun _ v W0 W' => ∃ u0 u1 u2 u3 u4 u5 u6 u7, v = .agg #[u0, u1, u2, u3, u4, u5, u6, u7] ∧ W' = put8at W0 b (j * 8) u0 u1 u2 u3 u4 u5 u6 u7) (by kernel_rfl) (Below.refl _ _).drew (psi_mono ?_) (by kernel_rfl) (by kernel_rfl) (by kernel_rfl) ?_ ?_
           . intro pq hp
             simp only [List.mem_cons, List.not_mem_nil, or_false] at hp
             (repeat' rcases hp with rfl | hp) <;> first | exact isV_stays _ | exact nothing_stays | (subst hp; first | exact isV_stays _ | exact nothing_stays) | exact isCp_stays _ _ | (subst hp; exact isCp_stays _ _)
           . refine AllOps.cons ?_ ?_
             . refine OpL.early (by kernel_rfl) (by kernel_rfl) fun ab W hC hB hdep => ?_
               refine .inl ⟨rfl, ?_⟩
               have b0 : ab.tmps.getD 1 undef = .pointer (some ⟨w.heap.size, 0, none⟩) := hB.off 1 (by kernel_rfl)
               clear hB hdep
               refine goes_value (v := .pointer (some ⟨w.heap.size, 4, none⟩)) ?_ hC rfl
               simp only [execOp, Act.eval, b0]
               go_simp
             refine AllOps.cons ?_ ?_
             . refine OpL.early (by kernel_rfl) (by kernel_rfl) fun ab W hC hB hdep => ?_
               refine .inl ⟨rfl, ?_⟩
               obtain ⟨x0, (q0 : (isV (.pointer (some ⟨w.heap.size, 4, none⟩))) x0 W), e0⟩ := hdep 0 33 (by kernel_rfl)
               obtain rfl : x0 = .pointer (some ⟨w.heap.size, 4, none⟩) := q0
               obtain ⟨c0, c1, c2, c3, c4, c5, c6, c7⟩ := rowS8 ((hC.block _ HLT.out.1).trans HXX.out)
               clear hB hdep
               refine goes_value (v := .slice (some ⟨b, 0, none⟩) l.length cap) ?_ hC rfl
               simp only [execOp, Act.eval, e0]
               go_simp
             refine AllOps.cons ?_ ?_
             . refine OpL.early (by kernel_rfl) (by kernel_rfl) fun ab W hC hB hdep => ?_
               refine .inl ⟨rfl, ?_⟩
               have b0 : ab.tmps.getD 3 undef = .int .i64 (j : Nat) := hB.off 3 (by kernel_rfl)
               clear hB hdep
               refine goes_value (v := .int .i64 (j : Nat)) ?_ hC rfl
               simp only [execOp, Act.eval, b0]
               go_simp
             refine AllOps.cons ?_ ?_
             . refine OpL.early (by kernel_rfl) (by kernel_rfl) fun ab W hC hB hdep => ?_
               refine .inl ⟨rfl, ?_⟩
               have b0 : ab.tmps.getD 4 undef = .pointer (some ⟨wr.heap.size, 0, none⟩) := hB.off 4 (by kernel_rfl)
               obtain ⟨c0, c1, c2, c3, c4, c5, c6, c7⟩ := rowS8 ((hC.block _ HWE.out).trans HXE.out)
               clear hB hdep
               refine goes_value (v := .agg #[.int .i64 kx, .string tx, .bool nx, .slice xo xn xc, .slice yo yn yc, .int .i64 ax, .slice po pn pc, .slice qo qn qc]) ?_ hC rfl
               simp only [execOp, Act.eval, b0]
               go_simp
             refine AllOps.cons ?_ ?_
             . refine OpL.early (by kernel_rfl) (by kernel_rfl) fun ab W hC hB hdep => ?_
               refine .inl ⟨rfl, ?_⟩
               obtain ⟨x0, (q0 : (isV (.agg #[.int .i64 kx, .string tx, .bool nx, .slice xo xn xc, .slice yo yn yc, .int .i64 ax, .slice po pn pc, .slice qo qn qc])) x0 W), e0⟩ := hdep 3 36 (by kernel_rfl)
               obtain rfl : x0 = .agg #[.int .i64 kx, .string tx, .bool nx, .slice xo xn xc, .slice yo yn yc, .int .i64 ax, .slice po pn pc, .slice qo qn qc] := q0
               clear hB hdep
               refine goes_call (f := 64) (args := #[.agg #[.int .i64 kx, .string tx, .bool nx, .slice xo xn xc, .slice yo yn yc, .int .i64 ax, .slice po pn pc, .slice qo qn qc]]) ?_ ?_
               . simp only [execOp]
                 go_simp
               . exact (HIH.out (l[j]'hjl) (HSZ.out j hjl) (HSM.out j hjl) _ W ((HY.out.keep HCI.out.bel).keep (HBE.out.trans (hC.mono (Nat.le_of_lt HWE.out))))).mono fun e w7 ⟨us7, he, hl, hb⟩ => ⟨_, he, hC.trans (hb.mono hC.size), hb, us7, _, rfl, hl, fun c hc => ⟨Nat.le_trans hC.size hc.1, hc.2⟩⟩
             refine AllOps.cons ?_ ?_
             . refine OpL.early (by kernel_rfl) (by kernel_rfl) fun ab W hC hB hdep => ?_
               refine .inl ⟨rfl, ?_⟩
               obtain ⟨x0, (q0 : (isV (.slice (some ⟨b, 0, none⟩) l.length cap)) x0 W), e0⟩ := hdep 1 34 (by kernel_rfl)
               obtain rfl : x0 = .slice (some ⟨b, 0, none⟩) l.length cap := q0
               obtain ⟨x1, (q1 : (isV (.int .i64 (j : Nat))) x1 W), e1⟩ := hdep 2 35 (by kernel_rfl)
               obtain rfl : x1 = .int .i64 (j : Nat) := q1
               clear hB hdep
               refine goes_value (v := .pointer (some ⟨b, j * 8, none⟩)) ?_ hC rfl
               simp only [execOp, Act.eval, e0, e1]
               go_simp
             refine AllOps.cons ?_ ?_
             . refine OpL.write (by kernel_rfl) fun vals ab W hC hB hdep => ⟨rfl, ?_⟩
               obtain ⟨(q0 : (isV (.pointer (some ⟨b, j * 8, none⟩))) (vals 5) W), e0⟩ := hdep 5 38 (by kernel_rfl)
               generalize vals 5 = x0 at *
               obtain rfl : x0 = .pointer (some ⟨b, j * 8, none⟩) := q0
               obtain ⟨(q1 : (isCp we.heap.size (l[j]'hjl)) (vals 4) W), e1⟩ := hdep 4 37 (by kernel_rfl)
               generalize vals 4 = x1 at *
               obtain ⟨us1, S1, rfl, hso1, hS1⟩ := q1
               obtain ⟨ka, ta, na, xoa, xna, xca, yoa, yna, yca, aa, poa, pna, pca, qoa, qna, qca, rfl⟩ := sx_shapes hso1.lay
               clear hB hdep
               have hbk := (hC.block _ HLT.out.2).trans HBB.out
               have z0 := frozen_heap hbk (j * 8)
               have z1 := frozen_heap hbk (j * 8 + 1)
               have z2 := frozen_heap hbk (j * 8 + 2)
               have z3 := frozen_heap hbk (j * 8 + 3)
               have z4 := frozen_heap hbk (j * 8 + 4)
               have z5 := frozen_heap hbk (j * 8 + 5)
               have z6 := frozen_heap hbk (j * 8 + 6)
               have z7 := frozen_heap hbk (j * 8 + 7)
               have c0 := (cell_heap hbk (j * 8)).trans HAT.out.1
               have c1 := (cell_heap hbk (j * 8 + 1)).trans HAT.out.2.1
               have c2 := (cell_heap hbk (j * 8 + 2)).trans HAT.out.2.2.1
               have c3 := (cell_heap hbk (j * 8 + 3)).trans HAT.out.2.2.2.1
               have c4 := (cell_heap hbk (j * 8 + 4)).trans HAT.out.2.2.2.2.1
               have c5 := (cell_heap hbk (j * 8 + 5)).trans HAT.out.2.2.2.2.2.1
               have c6 := (cell_heap hbk (j * 8 + 6)).trans HAT.out.2.2.2.2.2.2.1
               have c7 := (cell_heap hbk (j * 8 + 7)).trans HAT.out.2.2.2.2.2.2.2
               refine writes_skip (w1 := put8at W b (j * 8) (.int .i64 ka) (.string ta) (.bool na) (.slice xoa xna xca) (.slice yoa yna yca) (.int .i64 aa) (.slice poa pna pca) (.slice qoa qna qca)) ?_ ⟨_, _, _, _, _, _, _, _, rfl, rfl⟩
               unfold put8at
               simp only [execOp, Act.eval, e0, e1]
               go_simp
             exact trivial
           . intro vals aa W0 w8 hC hFin hB hall
             obtain ⟨(k0 : (isV (.pointer (some ⟨w.heap.size, 4, none⟩))) (vals 0) W0), e0⟩ := hall 0 _ rfl (by decide)
             obtain ⟨(k1 : (isV (.slice (some ⟨b, 0, none⟩) l.length cap)) (vals 1) W0), e1⟩ := hall 1 _ rfl (by decide)
             obtain ⟨(k2 : (isV (.int .i64 (j : Nat))) (vals 2) W0), e2⟩ := hall 2 _ rfl (by decide)
             obtain ⟨(k3 : (isV (.agg #[.int .i64 kx, .string tx, .bool nx, .slice xo xn xc, .slice yo yn yc, .int .i64 ax, .slice po pn pc, .slice qo qn qc])) (vals 3) W0), e3⟩ := hall 3 _ rfl (by decide)
             obtain ⟨(k4 : (isCp we.heap.size (l[j]'hjl)) (vals 4) W0), e4⟩ := hall 4 _ rfl (by decide)
             obtain ⟨(k5 : (isV (.pointer (some ⟨b, j * 8, none⟩))) (vals 5) W0), e5⟩ := hall 5 _ rfl (by decide)
             have hv : ∀ pq ∈ [((33 : Nat), (.pointer (some ⟨w.heap.size, 4, none⟩) : Value)), ((34 : Nat), (.slice (some ⟨b, 0, none⟩) l.length cap : Value)), ((35 : Nat), (.int .i64 (j : Nat) : Value)), ((36 : Nat), (.agg #[.int .i64 kx, .string tx, .bool nx, .slice xo xn xc, .slice yo yn yc, .int .i64 ax, .slice po pn pc, .slice qo qn qc] : Value)), ((37 : Nat), (vals 4 : Value)), ((38 : Nat), (.pointer (some ⟨b, j * 8, none⟩) : Value))], aa.tmps.getD pq.1 undef = pq.2 := by
              intro pq hp
              simp only [List.mem_cons, List.not_mem_nil, or_false] at hp
              rcases hp with rfl | rfl | rfl | rfl | rfl | rfl
              . exact (e0 _ rfl).trans k0
              . exact (e1 _ rfl).trans k1
              . exact (e2 _ rfl).trans k2
              . exact (e3 _ rfl).trans k3
              . exact e4 _ rfl
              . exact (e5 _ rfl).trans k5
             have hact := act_fold _ hB hv (by kernel_rfl)
             subst hact
             clear hv hall hB e0 e1 e2 e3 e4 e5
             refine (‹∀ (a : Act) (w : World), Code.wp Tryz.prog _ _ a w → _›) _ _ ?_
             simp only [List.foldl, List.setIfInBounds_toArray, List.set_cons_succ, List.set_cons_zero]
             obtain ⟨us, S, hus, hso, hS⟩ : isCp we.heap.size (l[j]'hjl) (vals 4) W0 := k4
             obtain ⟨u0, u1, u2, u3, u4, u5, u6, u7, hu, rfl⟩ := hFin
             rw [hus] at hu
             injection hu with hu
             obtain rfl : us = [u0, u1, u2, u3, u4, u5, u6, u7] := by simpa using congrArg Array.toList hu
             have hw4 := HCI.out.ge
             have hwe := HWE.out
             have hw0 := hC.size
             have hbl := HBL.out
             have hg3 := HG3.out
             have hg4 := HG4.out
             have hblk0 := (hC.block _ HLT.out.2).trans HBB.out
             have hrow := put8at_row hblk0 u0 u1 u2 u3 u4 u5 u6 u7 (o := j * 8)
             have hkp := put8at_keep (fun c => c ≠ b) W0 b (j * 8) (by simp) u0 u1 u2 u3 u4 u5 u6 u7
             have hbelow := put8at_below ((HCI.out.bel.trans (HBE.out.mono HCI.out.bel.size)).trans (hC.mono (by have := HCI.out.bel.size; omega))) (show w.heap.size ≤ b by omega) (j * 8) u0 u1 u2 u3 u4 u5 u6 u7
             have hfit : (j + 1) * 8 ≤ (set8 cs (j * 8) u0 u1 u2 u3 u4 u5 u6 u7).size := by rw [set8_size, HST.out.1]; have := HBK.out.2.2.1; omega
             have hf8 : j * 8 + 8 ≤ cs.size := by rw [HST.out.1]; have := HBK.out.2.2.1; omega
             have HRO2 := Lib.hid (HRO.out.step (n' := j + 1) (j := j) (d := l[j]'hjl) (Q := S) hrow hfit (fun i hi hne => by omega) (fun i hi hne => drop8_eq fun q h1 h2 => set8_out (by omega)) (by rw [set8_in hf8]; exact hso.move (hkp.mono fun c _ hc => by have := (hS c hc).1; omega)) (fun c hc => ⟨.inr (by have := (hS c hc).1; omega), by have := (hS c hc).2; have := hkp.1; omega⟩) (((Keeps.of_below HBE.out).trans (Keeps.of_below hC)).trans (hkp.mono fun c _ hc => hc.2)))
             have HCI2 := Lib.hid (HCI.out.step (b := b) (fun g hg => by have := HF.out g hg; omega) (by omega) (by omega) (by omega) (((Keeps.of_below HBE.out).trans (Keeps.of_below hC)).trans (hkp.mono fun c _ hc => hc.2)) hbelow)
             have HSS2 : Hid (∀ c, S c → w4.heap.size ≤ c) := Lib.hid fun c hc => by have := (hS c hc).1; omega
             clear hus hu hso hS hblk0 hrow hkp hbelow hfit hf8 hC hw4 hwe hw0 hbl hg3 hg4
             generalize put8at W0 b (j * 8) u0 u1 u2 u3 u4 u5 u6 u7 = W8 at *
             go_wp2_with fail
             go_roundw
             case measure => simp only [intOf]; omega
             case rel =>
              refine ⟨j + 1, _, _, _, by go_num, by omega, by rw [set8_size]; exact HST.out.1, fun i hi => (set8_out (.inr (by omega))).trans (HST.out.2.1 i (by omega)), fun i h hi => ?_, fun i c hc => ?_, HRO2.out, HCI2.out⟩
              . by_cases hij : i = j
                . subst hij; exact updT_self _ _ _
                . exact (updT_ne hij).trans (HST.out.2.2.1 i h (by omega))
              . by_cases hij : i = j
                . subst hij
                  rw [updP_self] at hc
                  exact ⟨HSS2.out c hc, by omega⟩
                . rw [updP_ne hij] at hc
                  have := HST.out.2.2.2 i c hc
                  exact ⟨this.1, by omega⟩
         . obtain rfl : j = l.length := by omega
           clear c0 c1 c2 c3 c4 c5 c6 c7
           obtain ⟨e0, e1, e2, e3, e4, e5, e6, e7⟩ := rowS8 HCI.out.x
           have hz := HCI.out.z
           obtain ⟨d0, d1, d2, d3, d4, d5, d6, d7⟩ := rowS8 hz
           have z0 := frozen_heap hz 0
           have z1 := frozen_heap hz 1
           have z2 := frozen_heap hz 2
           have z3 := frozen_heap hz 3
           have z4 := frozen_heap hz 4
           have z5 := frozen_heap hz 5
           have z6 := frozen_heap hz 6
           have z7 := frozen_heap hz 7
           have hrow := put8w_row hz (.int .i64 k) (.string t) (.bool n) (.slice uo r.length uc) (.slice (some ⟨b, 0, none⟩) l.length cap) (.int .i64 a) (.slice mo2 mm.length mc2) (.slice so2 s.length sc2)
           have hkf := put8w_keep (fun b => b ≠ w.heap.size + 1) wr (w.heap.size + 1) (by simp) (.int .i64 k) (.string t) (.bool n) (.slice uo r.length uc) (.slice (some ⟨b, 0, none⟩) l.length cap) (.int .i64 a) (.slice mo2 mm.length mc2) (.slice so2 s.length sc2)
           have hbf := put8w_below HCI.out.bel (show w.heap.size ≤ w.heap.size + 1 by omega) (.int .i64 k) (.string t) (.bool n) (.slice uo r.length uc) (.slice (some ⟨b, 0, none⟩) l.length cap) (.int .i64 a) (.slice mo2 mm.length mc2) (.slice so2 s.length sc2)
           have HF9 := Lib.hid (And.intro hrow (And.intro hkf hbf))
           clear hrow hkf hbf hz
           go_wp2_with fail
           clear e0 e1 e2 e3 e4 e5 e6 e7 d0 d1 d2 d3 d4 d5 d6 d7 z0 z1 z2 z3 z4 z5 z6 z7
           unfold put8w at HF9
           generalize World.setCell _ ⟨w.heap.size + 1, 7, none⟩ (.slice so2 s.length sc2) = W9 at *
           obtain ⟨g0, g1, g2, g3, g4, g5, g6, g7⟩ := rowS8 HF9.out.1
           have hL := ownsRow_keep HCI.out.lr HF9.out.2.1 fun g hg => by have := (HF.out g (.inl hg)).1; omega
           have hM := ownsRow_keep HCI.out.mr HF9.out.2.1 fun g hg => by have := (HF.out g (.inr (.inl hg))).1; omega
           have hS := ownsRow_keep HCI.out.sr HF9.out.2.1 fun g hg => by have := (HF.out g (.inr (.inr hg))).1; omega
           refine bodyPost_ret (v := .agg #[.int .i64 k, .string t, .bool n, .slice uo r.length uc, .slice (some ⟨b, 0, none⟩) l.length cap, .int .i64 a, .slice mo2 mm.length mc2, .slice so2 s.length sc2]) (by simp [results, Tryz.results64, go_sem, g0, g1, g2, g3, g4, g5, g6, g7]) rfl ?_
           have hbl := HBL.out
           have hg3 := HG3.out
           have hro := HRO.out.move (HF9.out.2.1.mono fun c _ hc => by
            rcases hc with rfl | ⟨i, hi⟩
            . omega
            . have := (HST.out.2.2.2 i c hi).1; have := HG4.out; omega)
           have hown := hro.owns HBK.out.2.2.1 HBK.out.2.2.2.1 HST.out.1
           have hge := HCI.out.ge
           have hsz := HF9.out.2.1.1
           have hg4 := HG4.out
           refine ⟨_, rfl, .mk (Fc := Fc) HTL.out.1 HTL.out.2 hL hown hM hS (fun g hg => ⟨⟨by have := (HF.out g (.inl hg)).1; omega, (hL.lt g hg).2⟩, fun i hi => by have := (HST.out.2.2.2 i g hi).1; have := (HF.out g (.inl hg)).2; omega⟩) (fun g hg => ⟨⟨by have := (HF.out g (.inr (.inl hg))).1; omega, (hM.lt g hg).2⟩, fun i hi => by have := (HST.out.2.2.2 i g hi).1; have := (HF.out g (.inr (.inl hg))).2; omega⟩) (fun g hg => ⟨⟨by have := (HF.out g (.inr (.inr hg))).1; omega, (hS.lt g hg).2⟩, fun i hi => by have := (HST.out.2.2.2 i g hi).1; have := (HF.out g (.inr (.inr hg))).2; omega⟩) (fun g hg => ?_) (fun i c hc => ⟨by have := (HST.out.2.2.2 i c hc).1; omega, hro.lt i c hc⟩) hro.dis (fun i hi => ?_), HF9.out.2.2⟩
           . simp only [Value.ownBlock, Option.some.injEq] at hg
             subst hg
             exact ⟨⟨by omega, by omega⟩, hro.off⟩
           . rw [take_drop8 hi, ← HST.out.2.2.1 i hi hi]
             exact hro.each i hi
end Go.Proofs.YtbfcbicbeagjkaaGreatDoor
