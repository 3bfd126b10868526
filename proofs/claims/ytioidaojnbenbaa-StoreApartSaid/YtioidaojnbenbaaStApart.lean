/- The law StoreApart. -/
import Derived.Test.YtioidaojnbenbaaStNil
import Derived.Test.YtioidaojnbenbaaStCopy
import Derived.Test.YtioidaojnbenbaaStWrap
import Derived.Test.YtioidaojnbenbaaSxOpen
namespace Go.Proofs.Ytioidaojnbenbaa
open Go.RowKit

/-- A block of the law's own. -/
structure Kb (w : World) (R : Nat → Nat) (b : Nat) (o : Obj) : Prop where
  cells : w.heap[b]? = some o
  free : R b = 0
theorem Kb.lt {w : World} {R : Nat → Nat} {b : Nat} {o : Obj} (h : Kb w R b o) : b < w.heap.size := (Array.getElem?_eq_some_iff.1 h.cells).1
theorem Kb.keep {w w' : World} {R R' : Nat → Nat} {b : Nat} {o : Obj} (h : Kb w R b o) (hf : Fr R w w') (hr : ∀ b, b < w.heap.size → (R' b = 0 ↔ R b = 0)) : Kb w' R' b o :=
  ⟨(hf.blk b h.lt h.free).trans h.cells, (hr b h.lt).2 h.free⟩
theorem Kb.below {w w' : World} {R : Nat → Nat} {b : Nat} {o : Obj} (h : Kb w R b o) (hb : Below w.heap.size w w') : Kb w' R b o := ⟨(hb.block b h.lt).trans h.cells, h.free⟩
theorem Kb.set {w : World} {R : Nat → Nat} {b : Nat} {o : Obj} (h : Kb w R b o) {p : Addr} (hp : b ≠ p.block) (u : Value) : Kb (w.setCell p u) R b o := ⟨(Below.heap_setCell _ _ _ _ hp).trans h.cells, h.free⟩
theorem Kb.only {w w' : World} {R : Nat → Nat} {b : Nat} {o : Obj} {v : Value} (h : Kb w R b o) (hf : Fr (only v) w w') (hv : v.ownBlock ≠ some b) : Kb w' R b o :=
  ⟨(hf.blk b h.lt (Classical.byContradiction fun hn => hv (only_ne.1 hn))).trans h.cells, h.free⟩
theorem StQ.only {w0 w w' : World} {g : Nat} {R : Nat → Nat} {s : St} {v : Value} (h : StQ w0 w g R s) (hf : Fr (only v) w w') (hv : ∀ b, v.ownBlock = some b → w0.heap.size ≤ b ∧ R b = 0) : StQ w0 w' g R s :=
  ⟨h.st.keep (hf.keeps.mono fun b _ hb => Classical.byContradiction fun hn => hb (hv b (only_ne.1 hn)).2), h.bel.trans (hf.below h.bel.size fun b hb => (hv b (only_ne.1 hb)).1), h.lo⟩
theorem StQ.step' {w0 w w' : World} {g : Nat} {R : Nat → Nat} {s s' : St} (h : StQ w0 w g R s) (hp : StP w g R s' w') : QPost w0 w g R s' w' := h.step hp
theorem StQ.free_new {w0 w : World} {g : Nat} {R : Nat → Nat} {s : St} (h : StQ w0 w g R s) (o : Obj) : Kb (w.alloc o) R w.heap.size o := ⟨heap_alloc_new w o, h.new_zero (Nat.le_refl _)⟩

theorem run_bs0 (W : World) : (Instr.buildSlice 48 0 #[]).run Try.prog W = .ok (.slice (some ⟨W.heap.size, 0, none⟩) 0 0) (W.alloc (.cells #[] 3)) := by kernel_rfl
/-- A row of ints of the law's own. -/
def IzRow (w : World) (B mb n mk : Nat) : Prop := ∃ zs : List Int, zs.length = n ∧ w.ownsRow B 3 1 (.slice (some ⟨mb, 0, none⟩) n mk) n (ics .i64 zs)
theorem IzRow.set {w : World} {B mb n mk : Nat} (h : IzRow w B mb n mk) {i : Nat} (hi : i < n) (x : Int) : IzRow (w.setCell ⟨mb, i, none⟩ (.int .i64 x)) B mb n mk := by
  obtain ⟨zs, h1, h2⟩ := h
  refine ⟨zs.set i x, by simpa using h1, ?_⟩
  have h3 := ownsRow_set h2 (j := i) (by unfold ics; simp; omega) (.int .i64 x)
  unfold ics at h3 ⊢
  rw [List.map_set]
  exact h3
theorem IzRow.at {w : World} {B mb n mk : Nat} (h : IzRow w B mb n mk) {i : Nat} (hi : i < n) : ∃ z, w.cell? ⟨mb, i, none⟩ = some (.int .i64 z) ∧ w.frozen? ⟨mb, i, none⟩ = false := by
  obtain ⟨zs, h1, h2⟩ := h
  have hz : i < zs.length := by omega
  have hc := h2.cells (g := mb) rfl i (.int .i64 (zs[i]'hz)) (by unfold ics; simp [hz])
  rcases h2.2 with ⟨e, _⟩ | ⟨b, cap, cur, e, _, hh, _⟩
  · cases e
  · injection e with e1 e2 e3
    injection e1 with e1
    injection e1 with e1
    subst e1
    exact ⟨_, by rwa [Addr.add_mid, Nat.zero_add] at hc, frozen_heap hh _⟩
/-- What the law keeps behind the first Unwrap. -/
structure ApL (w wr : World) (R R2 : Nat → Nat) (g2 : Nat) (S : St) (bv bw ba bY : Nat) (n : Int) (XO YO : Obj) : Prop where
  bel : Below w.heap.size w wr
  kx : Kb wr R w.heap.size XO
  kv : Kb wr R bv (.cells #[.int .i64 7, .int .i64 0] 35 (0, 0))
  kw : Kb wr R bw (.cells #[.int .i64 7, .int .i64 1] 35 (0, 0))
  ka : Kb wr (fun _ => 0) ba (.cells #[.int .i64 4, .int .i64 n] 35 (0, 0))
  ky : wr.heap[bY]? = some YO
  st : StW wr g2 R2 S
theorem ApL.below {w wr w' : World} {R R2 : Nat → Nat} {g2 : Nat} {S : St} {bv bw ba bY : Nat} {n : Int} {XO YO : Obj} (h : ApL w wr R R2 g2 S bv bw ba bY n XO YO) (hb : Below wr.heap.size wr w') : ApL w w' R R2 g2 S bv bw ba bY n XO YO :=
  ⟨h.bel.trans (hb.mono h.bel.size), h.kx.below hb, h.kv.below hb, h.kw.below hb, h.ka.below hb, (hb.block _ (Array.getElem?_eq_some_iff.1 h.ky).1).trans h.ky, h.st.below hb⟩
theorem ApL.set {w wr : World} {R R2 : Nat → Nat} {g2 : Nat} {S : St} {bv bw ba bY : Nat} {n : Int} {XO YO : Obj} (h : ApL w wr R R2 g2 S bv bw ba bY n XO YO) {yb : Nat} (hf : w.heap.size ≤ yb ∧ w.heap.size ≠ yb ∧ bv ≠ yb ∧ bw ≠ yb ∧ ba ≠ yb ∧ R2 yb = 0 ∧ bY ≠ yb) (i : Nat) (u : Value) : ApL w (wr.setCell ⟨yb, i, none⟩ u) R R2 g2 S bv bw ba bY n XO YO :=
  ⟨h.bel.setCell hf.1 u, h.kx.set (p := ⟨yb, i, none⟩) hf.2.1 u, h.kv.set (p := ⟨yb, i, none⟩) hf.2.2.1 u, h.kw.set (p := ⟨yb, i, none⟩) hf.2.2.2.1 u, h.ka.set (p := ⟨yb, i, none⟩) hf.2.2.2.2.1 u, (Below.heap_setCell _ _ _ _ hf.2.2.2.2.2.2).trans h.ky,
    h.st.keep ((Keeps.refl (fun b => R2 b ≠ 0) wr).set (p := ⟨yb, i, none⟩) (fun hn => hn hf.2.2.2.2.2.1) u)⟩
/-- y's marks: what was put so far, then what is still as it was. -/
def YRow (w : World) (B yb mk : Nat) (m : List Int) (i : Nat) : Prop := ∃ zs : List Int, zs.length = m.length ∧ (∀ j, i ≤ j → zs[j]? = m[j]?) ∧ w.ownsRow B 3 1 (.slice (some ⟨yb, 0, none⟩) m.length mk) m.length (ics .i64 zs)
theorem YRow.set {w : World} {B yb mk i : Nat} {m : List Int} (h : YRow w B yb mk m i) (hi : i < m.length) (x : Int) : YRow (w.setCell ⟨yb, i, none⟩ (.int .i64 x)) B yb mk m (i + 1) := by
  obtain ⟨zs, h1, h2, h3⟩ := h
  refine ⟨zs.set i x, by simpa using h1, fun j hj => by rw [List.getElem?_set_ne (by omega)]; exact h2 j (by omega), ?_⟩
  have h4 := ownsRow_set h3 (j := i) (by unfold ics; simp; omega) (.int .i64 x)
  unfold ics at h4 ⊢
  rw [List.map_set]
  exact h4
theorem YRow.below {w w' : World} {B yb mk i : Nat} {m : List Int} (h : YRow w B yb mk m i) (hb : Below w.heap.size w w') : YRow w' B yb mk m i := by
  obtain ⟨zs, h1, h2, h3⟩ := h
  exact ⟨zs, h1, h2, ownsRow_keep h3 (Keeps.of_below (P := fun _ => True) hb) fun _ _ => trivial⟩
theorem YRow.from {w : World} {B yb mk i j : Nat} {m : List Int} (h : YRow w B yb mk m i) (hij : i ≤ j) : YRow w B yb mk m j := by
  obtain ⟨zs, h1, h2, h3⟩ := h
  exact ⟨zs, h1, fun k hk => h2 k (by omega), h3⟩
theorem YRow.at {w : World} {B yb mk i : Nat} {m : List Int} (h : YRow w B yb mk m i) (hi : i < m.length) : w.cell? ⟨yb, i, none⟩ = some (.int .i64 (m[i]'hi)) ∧ w.frozen? ⟨yb, i, none⟩ = false := by
  obtain ⟨zs, h1, h2, h3⟩ := h
  have hz : i < zs.length := by omega
  have e : zs[i]'hz = m[i]'hi := by have := h2 i (Nat.le_refl _); rw [List.getElem?_eq_getElem hz, List.getElem?_eq_getElem hi] at this; exact Option.some.inj this
  have hc := h3.cells (g := yb) rfl i (.int .i64 (zs[i]'hz)) (by unfold ics; simp [hz])
  rw [e] at hc
  rcases h3.2 with ⟨e, _⟩ | ⟨b, cap, cur, e, _, hh, _⟩
  · cases e
  · injection e with e1 e2 e3
    injection e1 with e1
    injection e1 with e1
    subst e1
    exact ⟨by rwa [Addr.add_mid, Nat.zero_add] at hc, frozen_heap hh _⟩
set_option maxRecDepth 100000 in
set_option maxHeartbeats 16000000 in
theorem storeapart_any (n : Int) (D : Sx) (us : List Value) (w : World) (hL : SLay w D us) (hts : D.t.size ≤ 281474976710656) :
    Calls Try.prog 5 #[.int .i64 n, .agg us.toArray] w fun e w' => e = .returned (.bool true) ∧ Below w.heap.size w w' := by
  obtain ⟨lv, av, mv, sv, vs, rfl, _, _, hr, hrow, hm, hs, _⟩ := hL.open'
  obtain ⟨k, t, ng, r, l, a, m, s⟩ := D
  simp only [Sx.k, Sx.t, Sx.n, Sx.r, Sx.l, Sx.a, Sx.m, Sx.s] at *
  obtain ⟨lo, lc, rfl⟩ : ∃ a c, lv = .slice a r.length c := by obtain ⟨_, _, a, c, e, _⟩ := hr; exact ⟨a, c, e⟩
  obtain ⟨ao, ac, rfl⟩ : ∃ a c, av = .slice a l.length c := by obtain ⟨_, _, a, c, e, _⟩ := hrow; exact ⟨a, c, e⟩
  obtain ⟨mo, mc, rfl⟩ : ∃ a c, mv = .slice a m.length c := by obtain ⟨_, _, a, c, e, _⟩ := hm; exact ⟨a, c, e⟩
  obtain ⟨so, sc, rfl⟩ : ∃ a c, sv = .slice a s.length c := by obtain ⟨_, _, a, c, e, _⟩ := hs; exact ⟨a, c, e⟩
  have HT : Hid (t.size ≤ 281474976710656) := Lib.hid hts
  have HR := Lib.hid hr
  have HA := Lib.hid hrow
  have HM := Lib.hid hm
  have HS := Lib.hid hs
  clear hts hr hrow hm hs hL
  show Calls Try.prog 5 #[.int .i64 n, .agg #[.int .i64 k, .string t, .bool ng, .slice lo r.length lc, .slice ao l.length ac, .int .i64 a, .slice mo m.length mc, .slice so s.length sc]] w _
  have HB1 := Lib.hid (below1 w (.cells #[.int .i64 k, .string t, .bool ng, .slice lo r.length lc, .slice ao l.length ac, .int .i64 a, .slice mo m.length mc, .slice so s.length sc] 50))
  have X1 := Lib.hid (heap_alloc_new w (.cells #[.int .i64 k, .string t, .bool ng, .slice lo r.length lc, .slice ao l.length ac, .int .i64 a, .slice mo m.length mc, .slice so s.length sc] 50))
  go_enter Try.func5, Try.ntmps5
  go_upto_region 1 with fail
  generalize w.alloc (.cells #[.int .i64 k, .string t, .bool ng, .slice lo r.length lc, .slice ao l.length ac, .int .i64 a, .slice mo m.length mc, .slice so s.length sc] 50) = w1 at *
  go_wp2_with fail
  refine (qnew 100 w w1 HB1.out (by omega)).mono ?_
  rintro e w2 ⟨g, hg, rfl, hq, hb2⟩
  have hx0 : Kb w2 (Rnew g) w.heap.size (.cells #[.int .i64 k, .string t, .bool ng, .slice lo r.length lc, .slice ao l.length ac, .int .i64 a, .slice mo m.length mc, .slice so s.length sc] 50 (0, 0)) := by
    refine ⟨(hb2.block _ (Array.getElem?_eq_some_iff.1 X1.out).1).trans X1.out, Classical.byContradiction fun hn => ?_⟩
    have h1 := Rnew_ne hn
    have h2 := (Array.getElem?_eq_some_iff.1 X1.out).1
    omega
  have HQ2 := Lib.hid hq
  have KX2 := Lib.hid hx0
  clear hq hb2 hx0 hg X1 HB1
  generalize Rnew g = R0 at *
  go_wp2_with fail
  refine (answers6_any w2).mono ?_
  rintro e w3 ⟨rfl, hb3⟩
  have HQ3 := Lib.hid (HQ2.out.below hb3)
  have KX3 := Lib.hid (KX2.out.below hb3)
  clear hb3 HQ2 KX2
  obtain ⟨c0, c1, c2, c3, c4, c5, c6, c7⟩ := row8 KX3.out.cells
  by_cases hok : m.length ≤ 20 ∧ s.length ≤ 20 ∧ r.length ≤ 20 ∧ l.length = 0
  case neg =>
    rcases (by omega : (20 : Int) < (m.length : Int) ∨ (¬ (20 : Int) < (m.length : Int) ∧ (20 : Int) < (s.length : Int)) ∨ (¬ (20 : Int) < (m.length : Int) ∧ ¬ (20 : Int) < (s.length : Int) ∧ (20 : Int) < (r.length : Int)) ∨ (¬ (20 : Int) < (m.length : Int) ∧ ¬ (20 : Int) < (s.length : Int) ∧ ¬ (20 : Int) < (r.length : Int) ∧ (0 : Int) < (l.length : Int))) with h1 | ⟨h1, h2⟩ | ⟨h1, h2, h3⟩ | ⟨h1, h2, h3, h4⟩
    all_goals
      clear hok
      go_wp2_with fail
      refine (answers6_any w3).mono ?_
      rintro e w4 ⟨rfl, hb4⟩
      have HB4 := Lib.hid (HQ3.out.below hb4).bel
      clear hb4
      go_wp2_with fail
      go_ret
      exact ⟨rfl, HB4.out⟩
  case pos =>
    obtain rfl : l = [] := List.eq_nil_of_length_eq_zero hok.2.2.2
    have HOK : Hid (m.length ≤ 20 ∧ s.length ≤ 20 ∧ r.length ≤ 20) := Lib.hid ⟨hok.1, hok.2.1, hok.2.2.1⟩
    have h1 : ¬ (20 : Int) < (m.length : Int) := by omega
    have h2 : ¬ (20 : Int) < (s.length : Int) := by omega
    have h3 : ¬ (20 : Int) < (r.length : Int) := by omega
    clear hok
    simp only [List.length_nil] at *
    go_upto_region 5 with fail
    clear h1 h2 h3 c0 c1 c2 c3 c4 c5 c6 c7
    have HQ4 := Lib.hid (HQ3.out.alloc (.cells #[.int .i64 4, .int .i64 n] 35))
    have KX4 := Lib.hid (KX3.out.below (below1 w3 (.cells #[.int .i64 4, .int .i64 n] 35)))
    have KI4 := Lib.hid (HQ3.out.free_new (.cells #[.int .i64 4, .int .i64 n] 35))
    have HV4 := Lib.hid (vrow1 w3 (4, n))
    simp only [] at HV4
    have HBI : Hid (w.heap.size ≤ w3.heap.size) := Lib.hid HQ3.out.bel.size
    generalize w3.heap.size = bi at *
    generalize w3.alloc (.cells #[.int .i64 4, .int .i64 n] 35) = w4 at *
    clear HQ3 KX3
    go_wp2_with fail
    refine (qmake (s' := ⟨100, 2, [⟨2, 2, [(4, n)], none⟩], []⟩) (r := ((7, 0), 0)) HQ4.out HV4.out (by simp) rfl).mono ?_
    rintro e w5 ⟨rfl, R5, hq5, hf5, hr5⟩
    have HQ5 := Lib.hid hq5
    have KX5 := Lib.hid (KX4.out.keep hf5 hr5)
    have KI5 := Lib.hid (KI4.out.keep hf5 hr5)
    clear hq5 hf5 hr5 HQ4 KX4 KI4 HV4
    go_upto_region 6 with fail
    -- the box of v, then the copy of the marks
    have HB6 := Lib.hid (below1 w5 (.cells #[.int .i64 7, .int .i64 0] 35))
    have HQ6 := Lib.hid (HQ5.out.below HB6.out)
    have KX6 := Lib.hid (KX5.out.below HB6.out)
    have KI6 := Lib.hid (KI5.out.below HB6.out)
    have KV6 := Lib.hid (HQ5.out.free_new (.cells #[.int .i64 7, .int .i64 0] 35))
    have HNB : Hid (w5.heap.size ≠ bi) := Lib.hid (by have := KI5.out.lt; omega)
    have HSZ6 : Hid (w5.heap.size < (w5.alloc (.cells #[.int .i64 7, .int .i64 0] 35)).heap.size) := Lib.hid (by simp)
    generalize w5.heap.size = bv at *
    generalize w5.alloc (.cells #[.int .i64 7, .int .i64 0] 35) = w6 at *
    clear HQ5 KX5 KI5 HB6
    obtain ⟨i0, hi, hz0, hz1, hz2⟩ := info_parts infoIn
    obtain ⟨c0, c1, c2, c3, c4, c5, c6, c7⟩ := row8 KX6.out.cells
    have hbs := run_bs0 w6
    have hxl := KX6.out.lt
    have HE : Hid ((w6.alloc (.cells #[] 3)).ownsRow w6.heap.size 3 1 (.slice (some ⟨w6.heap.size, 0, none⟩) 0 0) 0 []) := Lib.hid ⟨rfl, .inr ⟨w6.heap.size, 0, #[], rfl, Nat.le_refl _, heap_alloc_new w6 _, Nat.le_refl _, Nat.zero_le _, rfl, rfl⟩⟩
    have HMW : Hid (RowV (w6.alloc (.cells #[] 3)) (.slice mo m.length mc) m.length 1 (ics .i64 m)) := Lib.hid (HM.out.below (HQ6.out.bel.trans ((below1 w6 _).mono HQ6.out.bel.size)))
    go_upto_region 7 with (at_builtin; go_loud (refine wpList_append_row _ rfl _ _ 48 rfl w6.heap.size 3 i0 _ 1 8 Try.underlying48 hi hz0 hz1 hz2 rfl (by decide) (.slice (some ⟨w6.heap.size, 0, none⟩) 0 0) 0 [] rfl HE.out _ m.length (ics .i64 m) rfl HMW.out (ics_one _ _) (by unfold maxLen; have := HOK.out; omega) (by have := HOK.out; omega) (by simp) ?_); go_loud (intro v' w7 hown1 hgrow hmv; rw [Nat.zero_add, List.nil_append] at hown1; have HO7 := Lib.hid hown1; have HG7 := Lib.hid hgrow; have HV7 := Lib.hid hmv; clear hown1 hgrow hmv))
    obtain ⟨mb, mk, rfl⟩ : ∃ mb mk, v' = .slice (some ⟨mb, 0, none⟩) m.length mk := by
      rcases HO7.out.2 with ⟨e, _⟩ | ⟨b, cap, cur, e, _⟩
      · rcases HV7.out with h | ⟨b, h, _⟩ <;> rw [e] at h <;> cases h
      · exact ⟨b, cap, e⟩
    clear HV7
    have HB7 : Hid (Below w6.heap.size w6 w7) := Lib.hid ((below1 w6 _).grown HG7.out (by simp) (fun q hq => by simp [Value.ownBlock] at hq; omega))
    have HQ7 := Lib.hid (HQ6.out.below HB7.out)
    have KX7 := Lib.hid (KX6.out.below HB7.out)
    have KI7 := Lib.hid (KI6.out.below HB7.out)
    have KV7 := Lib.hid (KV6.out.below HB7.out)
    have HMF : Hid (∀ b, (Value.slice (some ⟨mb, 0, none⟩) m.length mk).ownBlock = some b → w.heap.size ≤ b ∧ R5 b = 0 ∧ b ≠ w.heap.size ∧ b ≠ bi ∧ b ≠ bv) := Lib.hid fun b hb => by
      have h1 := (HO7.out.lt b hb).1
      have h2 := KX6.out.lt
      have h3 := KI6.out.lt
      have h4 := KV6.out.lt
      exact ⟨by omega, HQ6.out.new_zero h1, by omega, by omega, by omega⟩
    clear c0 c1 c2 c3 c4 c5 c6 c7 hbs hxl HE HMW HG7 HSZ6 HQ6 KX6 KI6 KV6 hi hz0 hz1 hz2
    obtain ⟨c0, c1, c2, c3, c4, c5, c6, c7⟩ := row8 KX7.out.cells
    have hxl := KX7.out.lt
    have HB8 := Lib.hid (below1 w7 (.cells #[.int .i64 k, .string t, .bool ng, .slice lo r.length lc, .slice ao 0 ac, .int .i64 a, .slice mo m.length mc, .slice so s.length sc] 50))
    have KP8 := Lib.hid (HQ7.out.free_new (.cells #[.int .i64 k, .string t, .bool ng, .slice lo r.length lc, .slice ao 0 ac, .int .i64 a, .slice mo m.length mc, .slice so s.length sc] 50))
    have HO8 := Lib.hid (ownsRow_keep HO7.out (Keeps.of_below (P := fun _ => True) HB8.out) fun _ _ => trivial)
    have HPL : Hid (∀ b, (Value.slice (some ⟨mb, 0, none⟩) m.length mk).ownBlock = some b → b ≠ w7.heap.size) := Lib.hid fun b hb => by have := (HO7.out.lt b hb).2; omega
    have HPX : Hid (w.heap.size < w7.heap.size ∧ bi < w7.heap.size ∧ bv < w7.heap.size) := Lib.hid ⟨KX7.out.lt, KI7.out.lt, KV7.out.lt⟩
    have HQ8 := Lib.hid (HQ7.out.below HB8.out)
    have KX8 := Lib.hid (KX7.out.below HB8.out)
    have KI8 := Lib.hid (KI7.out.below HB8.out)
    have KV8 := Lib.hid (KV7.out.below HB8.out)
    go_upto_region 8 with fail
    clear c0 c1 c2 c3 c4 c5 c6 c7 hxl HO7 HB7 HQ7 KX7 KI7 KV7
    generalize w7.alloc (.cells #[.int .i64 k, .string t, .bool ng, .slice lo r.length lc, .slice ao 0 ac, .int .i64 a, .slice mo m.length mc, .slice so s.length sc] 50) = w8 at *
    generalize w7.heap.size = bp at *
    obtain ⟨c0, c1, c2, c3, c4, c5, c6, c7⟩ := row8 KP8.out.cells
    have z6 := frozen_heap KP8.out.cells 6
    have KP9 : Hid (Kb (w8.setCell ⟨bp, 6, none⟩ (.slice (some ⟨mb, 0, none⟩) m.length mk)) R5 bp (.cells #[.int .i64 k, .string t, .bool ng, .slice lo r.length lc, .slice ao 0 ac, .int .i64 a, .slice (some ⟨mb, 0, none⟩) m.length mk, .slice so s.length sc] 50 (0, 0))) := Lib.hid ⟨(rowSet KP8.out.cells 6 _).trans (by simp), KP8.out.free⟩
    have HQ9 : Hid (StQ w (w8.setCell ⟨bp, 6, none⟩ (.slice (some ⟨mb, 0, none⟩) m.length mk)) g R5 ⟨100, 2, [⟨2, 2, [(4, n)], none⟩], []⟩) := Lib.hid (HQ8.out.set (p := ⟨bp, 6, none⟩) (by have := HQ8.out.bel.size; have := HPX.out; show w.heap.size ≤ bp; omega) KP8.out.free _)
    have KX9 : Hid (Kb (w8.setCell ⟨bp, 6, none⟩ (.slice (some ⟨mb, 0, none⟩) m.length mk)) R5 w.heap.size _) := Lib.hid (KX8.out.set (p := ⟨bp, 6, none⟩) (by have := HPX.out; show w.heap.size ≠ bp; omega) _)
    have KI9 : Hid (Kb (w8.setCell ⟨bp, 6, none⟩ (.slice (some ⟨mb, 0, none⟩) m.length mk)) R5 bi _) := Lib.hid (KI8.out.set (p := ⟨bp, 6, none⟩) (by have := HPX.out; show bi ≠ bp; omega) _)
    have KV9 : Hid (Kb (w8.setCell ⟨bp, 6, none⟩ (.slice (some ⟨mb, 0, none⟩) m.length mk)) R5 bv _) := Lib.hid (KV8.out.set (p := ⟨bp, 6, none⟩) (by have := HPX.out; show bv ≠ bp; omega) _)
    have HO9 : Hid ((w8.setCell ⟨bp, 6, none⟩ (.slice (some ⟨mb, 0, none⟩) m.length mk)).ownsRow w6.heap.size 3 1 (.slice (some ⟨mb, 0, none⟩) m.length mk) m.length (ics .i64 m)) := Lib.hid (own_set HO8.out KP8.out.cells (by decide) 6 _)
    have HB9 : Hid (Below w.heap.size w (w8.setCell ⟨bp, 6, none⟩ (.slice (some ⟨mb, 0, none⟩) m.length mk))) := Lib.hid HQ9.out.bel
    go_upto_region 9 with fail
    clear c0 c1 c2 c3 c4 c5 c6 c7 z6 KP8 HQ8 KX8 KI8 KV8 HO8 HB8
    generalize w8.setCell ⟨bp, 6, none⟩ (.slice (some ⟨mb, 0, none⟩) m.length mk) = w9 at *
    obtain ⟨c0, c1, c2, c3, c4, c5, c6, c7⟩ := row8 KP9.out.cells
    go_wp2_with fail
    have hpw : pxW ⟨k, t, ng, r, a, m, s⟩ ≤ 62 := by unfold pxW; have := HOK.out; simp only; omega
    have hwr : St.wrap ⟨100, 2, [⟨2, 2, [(4, n)], none⟩], []⟩ ⟨k, t, ng, r, a, m, s⟩ = (((7, 1), 0), ⟨100, 2 + pxW ⟨k, t, ng, r, a, m, s⟩, [⟨2, 2, [(4, n)], none⟩, ⟨10, pxW ⟨k, t, ng, r, a, m, s⟩, [], some ⟨k, t, ng, r, a, m, s⟩⟩], []⟩) := by
      unfold St.wrap
      rw [if_neg (by show ¬ 100 < 2 + pxW _; omega)]
      rfl
    have hwc := stwrap_any g R5 ⟨100, 2, [⟨2, 2, [(4, n)], none⟩], []⟩ ⟨k, t, ng, r, a, m, s⟩ (.slice lo r.length lc) (.slice (some ⟨mb, 0, none⟩) m.length mk) (.slice so s.length sc) ao ac w9 HQ9.out.st HT.out (HR.out.below HB9.out) (by have := (HA.out.below HB9.out); obtain ⟨h1, h2, ao', c', e, h4, h5⟩ := this; exact ⟨rfl, Nat.zero_le _, ao', c', e, h4, by rcases h5 with h5 | ⟨b, off, e2, h6, h7⟩; exact .inl h5; exact .inr ⟨b, off, e2, h6, fun j u hu => by simp at hu⟩⟩) (RowV.of_own HO9.out) (HS.out.below HB9.out) (by have := HOK.out; simp only; omega) (by have := HOK.out; simp only; omega) (by have := HOK.out; simp only; omega)
    rw [hwr] at hwc
    refine hwc.mono ?_
    rintro e w10 ⟨rfl, hst⟩
    obtain ⟨R10, hq, hf, hr⟩ := HQ9.out.step' hst
    have HQ10 := Lib.hid hq
    have KX10 := Lib.hid (KX9.out.keep hf hr)
    have KI10 := Lib.hid (KI9.out.keep hf hr)
    have KV10 := Lib.hid (KV9.out.keep hf hr)
    have HPW := Lib.hid hpw
    have HO10 : Hid (w10.ownsRow w6.heap.size 3 1 (.slice (some ⟨mb, 0, none⟩) m.length mk) m.length (ics .i64 m)) := Lib.hid (ownsRow_keep HO9.out hf.keeps fun b hb => (HMF.out b hb).2.1)
    have HMF10 : Hid (∀ b, (Value.slice (some ⟨mb, 0, none⟩) m.length mk).ownBlock = some b → w.heap.size ≤ b ∧ R10 b = 0 ∧ b ≠ w.heap.size ∧ b ≠ bi ∧ b ≠ bv) := Lib.hid fun b hb => by
      have h := HMF.out b hb
      exact ⟨h.1, (hr b (HO9.out.lt b hb).2).2 h.2.1, h.2.2⟩
    clear hq hf hr hst hwc hwr hpw c0 c1 c2 c3 c4 c5 c6 c7 HQ9 KX9 KI9 KV9 HO9 KP9 HB9 HMF HPL HPX
    have HB11 := Lib.hid (below1 w10 (.cells #[.int .i64 7, .int .i64 1] 35))
    have HQ11 := Lib.hid (HQ10.out.below HB11.out)
    have KX11 := Lib.hid (KX10.out.below HB11.out)
    have KI11 := Lib.hid (KI10.out.below HB11.out)
    have KV11 := Lib.hid (KV10.out.below HB11.out)
    have KW11 := Lib.hid (HQ10.out.free_new (.cells #[.int .i64 7, .int .i64 1] 35))
    have HO11 := Lib.hid (ownsRow_keep HO10.out (Keeps.of_below (P := fun _ => True) HB11.out) fun _ _ => trivial)
    have HNW : Hid (bi ≠ w10.heap.size ∧ mb ≠ w10.heap.size) := Lib.hid (by have h1 := KI10.out.lt; have h2 := (HO10.out.lt mb rfl).2; exact ⟨by omega, by omega⟩)
    have HNI : Hid (w.heap.size ≠ bi ∧ bv ≠ bi) := Lib.hid (by
      have h1 := KX10.out.cells
      have h2 := KV10.out.cells
      have h3 := KI10.out.cells
      refine ⟨fun e => ?_, fun e => HNB.out e⟩
      rw [e, h3] at h1
      cases h1)
    have HMF11 := Lib.hid (HMF10.out mb rfl)
    go_upto_region 10 with fail
    generalize w10.heap.size = bw at *
    generalize w10.alloc (.cells #[.int .i64 7, .int .i64 1] 35) = w11 at *
    clear HQ10 KX10 KI10 KV10 HO10 HMF10 HB11
    obtain ⟨d0, d1, y0, y1⟩ := row2 KI11.out.cells
    have HQ12 : Hid (∀ u, StQ w (w11.setCell ⟨bi, 1, none⟩ u) g R10 ⟨100, 2 + pxW ⟨k, t, ng, r, a, m, s⟩, [⟨2, 2, [(4, n)], none⟩, ⟨10, pxW ⟨k, t, ng, r, a, m, s⟩, [], some ⟨k, t, ng, r, a, m, s⟩⟩], []⟩) := Lib.hid fun u => HQ11.out.set (p := ⟨bi, 1, none⟩) HBI.out KI11.out.free u
    have KX12 := Lib.hid (fun u => KX11.out.set (p := ⟨bi, 1, none⟩) HNI.out.1 u)
    have KV12 := Lib.hid (fun u => KV11.out.set (p := ⟨bi, 1, none⟩) HNI.out.2 u)
    have KW12 := Lib.hid (fun u => KW11.out.set (p := ⟨bi, 1, none⟩) (show bw ≠ bi from fun e => HNW.out.1 e.symm) u)
    have HZ12 : Hid (∀ u, IzRow (w11.setCell ⟨bi, 1, none⟩ u) w6.heap.size mb m.length mk) := Lib.hid fun u => ⟨m, rfl, own_set HO11.out KI11.out.cells (by decide) 1 u⟩
    go_upto_region 11 with fail
    clear d0 d1 y0 y1 HQ11 KX11 KI11 KV11 KW11 HO11
    have hm20 : m.length ≤ 20 := HOK.out.1
    go_wp2_with fail
    go_loopw [14] (fun v wr => ∃ i : Nat, i ≤ m.length ∧ v = .int .i64 (i : Nat) ∧ StQ w wr g R10 ⟨100, 2 + pxW ⟨k, t, ng, r, a, m, s⟩, [⟨2, 2, [(4, n)], none⟩, ⟨10, pxW ⟨k, t, ng, r, a, m, s⟩, [], some ⟨k, t, ng, r, a, m, s⟩⟩], []⟩ ∧ Kb wr R10 w.heap.size (.cells #[.int .i64 k, .string t, .bool ng, .slice lo r.length lc, .slice ao 0 ac, .int .i64 a, .slice mo m.length mc, .slice so s.length sc] 50 (0, 0)) ∧ Kb wr R10 bv (.cells #[.int .i64 7, .int .i64 0] 35 (0, 0)) ∧ Kb wr R10 bw (.cells #[.int .i64 7, .int .i64 1] 35 (0, 0)) ∧ IzRow wr w6.heap.size mb m.length mk) (fun v _ => m.length - (intOf v).toNat)
    case atStart => exact ⟨0, Nat.zero_le _, rfl, HQ12.out _, KX12.out _, KV12.out _, KW12.out _, HZ12.out _⟩
    case round =>
      obtain ⟨i, hi, rfl, hq, kx, kv, kw, hz⟩ := hrel
      have HQ13 := Lib.hid hq
      have KX13 := Lib.hid kx
      have KV13 := Lib.hid kv
      have KW13 := Lib.hid kw
      have HZ13 := Lib.hid hz
      clear hq kx kv kw hz HQ12 KX12 KV12 KW12 HZ12
      by_cases hlt : i < m.length
      · have hii : ((i : Nat) : Int) < ((m.length : Nat) : Int) := by omega
        obtain ⟨z, cz, fz⟩ := HZ13.out.at hlt
        go_wp2_with fail
        go_roundw
        case measure => simp only [intOf]; omega
        case rel =>
          exact ⟨i + 1, by omega, by go_num, HQ13.out.set (p := ⟨mb, i, none⟩) HMF11.out.1 HMF11.out.2.1 _, KX13.out.set (p := ⟨mb, i, none⟩) (fun e => HMF11.out.2.2.1 e.symm) _, KV13.out.set (p := ⟨mb, i, none⟩) (fun e => HMF11.out.2.2.2.2 e.symm) _, KW13.out.set (p := ⟨mb, i, none⟩) (fun e => HNW.out.2 e.symm) _, HZ13.out.set hlt _⟩
      · have hii : ¬ ((i : Nat) : Int) < ((m.length : Nat) : Int) := by omega
        clear hlt hi
        go_wp2_with fail
        have hpx : ∀ o ∈ (⟨100, 2 + pxW ⟨k, t, ng, r, a, m, s⟩, [⟨2, 2, [(4, n)], none⟩, ⟨10, pxW ⟨k, t, ng, r, a, m, s⟩, [], some ⟨k, t, ng, r, a, m, s⟩⟩], []⟩ : St).os, PxSm o.x := by
          intro o ho p hp
          simp only [List.mem_cons, List.not_mem_nil, or_false] at ho
          rcases ho with rfl | rfl
          · cases hp
          · injection hp with hp
            subst hp
            have := HOK.out
            exact ⟨HT.out, by simp only; omega, by simp only; omega, by simp only; omega⟩
        refine (stcopy_any g R10 _ wr HQ13.out.st hpx (by simp)).mono ?_
        rintro e w14 ⟨g2, R2, rfl, hst2, hlo2, hb14⟩
        have HQ14 := Lib.hid (HQ13.out.below hb14)
        have KX14 := Lib.hid (KX13.out.below hb14)
        have KV14 := Lib.hid (KV13.out.below hb14)
        have KW14 := Lib.hid (KW13.out.below hb14)
        have HT14 := Lib.hid hst2
        have HD14 : Hid (∀ b, R2 b ≠ 0 → R10 b = 0) := Lib.hid fun b hb => Classical.byContradiction fun hn => by have h1 := hlo2 b hb; have h2 := HQ13.out.st.lt b hn; omega
        clear hpx hst2 hlo2 hb14 HQ13 KX13 KV13 KW13 HZ13 hii
        obtain ⟨p0, p1, _, _⟩ := row2 KV14.out.cells
        go_wp2_with fail
        refine (qset (v := (7, 0)) (x := (0, 0)) (i := 0) (c := 0) (s' := ⟨100, 2 + pxW ⟨k, t, ng, r, a, m, s⟩, [⟨2, 2, [(0, 0)], none⟩, ⟨10, pxW ⟨k, t, ng, r, a, m, s⟩, [], some ⟨k, t, ng, r, a, m, s⟩⟩], []⟩) HQ14.out rfl).mono ?_
        rintro e w15 ⟨rfl, R15, hq, hf, hr⟩
        have HQ15 := Lib.hid hq
        have KX15 := Lib.hid (KX14.out.keep hf hr)
        have KV15 := Lib.hid (KV14.out.keep hf hr)
        have KW15 := Lib.hid (KW14.out.keep hf hr)
        have HT15 := Lib.hid (HT14.out.keep (hf.keeps.mono fun b _ hb => HD14.out b hb))
        have HD15 : Hid (∀ b, R2 b ≠ 0 → R15 b = 0) := Lib.hid fun b hb => (hr b (HT14.out.lt b hb)).2 (HD14.out b hb)
        clear hq hf hr HQ14 KX14 KV14 KW14 HT14 HD14 p0 p1
        go_wp2_with fail
        refine (stsymbol_any g R15 _ _ w15 HQ15.out.st (by simp)).mono ?_
        rintro e w16 ⟨rr, s', rfl, _, hp⟩
        obtain ⟨R16, hq, hf, hr⟩ := HQ15.out.step' hp
        have HB16 := Lib.hid hq.bel
        have KX16 := Lib.hid (KX15.out.keep hf hr)
        have KV16 := Lib.hid (KV15.out.keep hf hr)
        have KW16 := Lib.hid (KW15.out.keep hf hr)
        have HT16 := Lib.hid (HT15.out.keep (hf.keeps.mono fun b _ hb => HD15.out b hb))
        clear hp hq hf hr HQ15 KX15 KV15 KW15 HT15 HD15
        obtain ⟨p0, p1, _, _⟩ := row2 KV16.out.cells
        go_wp2_with fail
        have hg := stget_any g2 R2 _ (7, 0) 0 w16 HT16.out
        rw [show St.get ⟨100, 2 + pxW ⟨k, t, ng, r, a, m, s⟩, [⟨2, 2, [(4, n)], none⟩, ⟨10, pxW ⟨k, t, ng, r, a, m, s⟩, [], some ⟨k, t, ng, r, a, m, s⟩⟩], []⟩ (7, 0) 0 = ((4, n), 0) from rfl] at hg
        simp only [vV] at hg
        refine hg.mono ?_
        rintro e w17 ⟨rfl, hb17⟩
        have HB17 := Lib.hid (HB16.out.trans (hb17.mono HB16.out.size))
        have KX17 := Lib.hid (KX16.out.below hb17)
        have KV17 := Lib.hid (KV16.out.below hb17)
        have KW17 := Lib.hid (KW16.out.below hb17)
        have HT17 := Lib.hid (HT16.out.below hb17)
        clear hg hb17 HB16 KX16 KV16 KW16 HT16 p0 p1
        have HB18' := Lib.hid (below1 w17 (.cells #[.int .i64 4, .int .i64 n] 35))
        have KA18 : Hid (Kb (w17.alloc (.cells #[.int .i64 4, .int .i64 n] 35)) (fun _ => 0) w17.heap.size (.cells #[.int .i64 4, .int .i64 n] 35 (0, 0))) := Lib.hid ⟨heap_alloc_new w17 _, rfl⟩
        have HB18 := Lib.hid (HB17.out.trans (HB18'.out.mono HB17.out.size))
        have KX18 := Lib.hid (KX17.out.below HB18'.out)
        have KV18 := Lib.hid (KV17.out.below HB18'.out)
        have KW18 := Lib.hid (KW17.out.below HB18'.out)
        have HT18 := Lib.hid (HT17.out.below HB18'.out)
        go_upto_region 19 with fail
        clear HB17 KX17 KV17 KW17 HT17 HB18'
        generalize w17.heap.size = ba at *
        generalize w17.alloc (.cells #[.int .i64 4, .int .i64 n] 35) = w18 at *
        go_wp2_with fail
        refine (stname_bad g2 R2 _ w18 HT18.out rfl).mono ?_
        rintro e w19 ⟨rfl, hb19⟩
        have HB19 := Lib.hid (HB18.out.trans (hb19.mono HB18.out.size))
        have KX19 := Lib.hid (KX18.out.below hb19)
        have KA19 := Lib.hid (KA18.out.below hb19)
        have KV19 := Lib.hid (KV18.out.below hb19)
        have KW19 := Lib.hid (KW18.out.below hb19)
        have HT19 := Lib.hid (HT18.out.below hb19)
        clear hb19 HB18 KX18 KA18 KV18 KW18 HT18
        obtain ⟨p0, p1, _, _⟩ := row2 KW19.out.cells
        go_wp2_with fail
        refine (stunwrap_ok g2 R2 _ (7, 1) ⟨10, pxW ⟨k, t, ng, r, a, m, s⟩, [], some ⟨k, t, ng, r, a, m, s⟩⟩ ⟨k, t, ng, r, a, m, s⟩ w19 HT19.out rfl rfl rfl HT.out (by have := HOK.out; simp only; omega) (by have := HOK.out; simp only; omega) (by have := HOK.out; simp only; omega)).mono ?_
        rintro e w20 ⟨⟨lv2, xo, xc, mv2, sv2, rfl, hpo⟩, hb20⟩
        obtain ⟨ho1, _, ho3, ho4⟩ := hpo
        simp only at ho1 ho3 ho4
        obtain ⟨ylo, ylc, rfl⟩ := own_dslice ho1
        obtain ⟨ymo, ymc, rfl⟩ := own_dslice ho3
        obtain ⟨yso, ysc, rfl⟩ := own_dslice ho4
        have HB20 := Lib.hid (HB19.out.trans (hb20.mono HB19.out.size))
        have KX20 := Lib.hid (KX19.out.below hb20)
        have KA20 := Lib.hid (KA19.out.below hb20)
        have KV20 := Lib.hid (KV19.out.below hb20)
        have KW20 := Lib.hid (KW19.out.below hb20)
        have HT20 := Lib.hid (HT19.out.below hb20)
        have HY20 := Lib.hid ho3
        have HF20 : Hid (∀ b, (Value.slice ymo m.length ymc).ownBlock = some b → w.heap.size ≤ b ∧ w.heap.size ≠ b ∧ bv ≠ b ∧ bw ≠ b ∧ ba ≠ b ∧ R2 b = 0 ∧ w20.heap.size ≠ b) := Lib.hid fun b hb => by
          have h1 := ho3.lt b hb
          have h2 := KX19.out.lt
          have h3 := KV19.out.lt
          have h4 := KW19.out.lt
          have h5 := KA19.out.lt
          exact ⟨by omega, by omega, by omega, by omega, by omega, Classical.byContradiction fun hn => by have := HT19.out.lt b hn; omega, by omega⟩
        clear hb20 HB19 KX19 KA19 KV19 KW19 HT19 p0 p1 ho1 ho3 ho4
        have HBn := Lib.hid (below1 w20 (.cells #[.int .i64 k, .string t, .bool ng, .slice ylo r.length ylc, .slice xo 0 xc, .int .i64 a, .slice ymo m.length ymc, .slice yso s.length ysc] 50))
        have HB21 := Lib.hid (HB20.out.trans (HBn.out.mono HB20.out.size))
        have KX21 := Lib.hid (KX20.out.below HBn.out)
        have KA21 := Lib.hid (KA20.out.below HBn.out)
        have KV21 := Lib.hid (KV20.out.below HBn.out)
        have KW21 := Lib.hid (KW20.out.below HBn.out)
        have HT21 := Lib.hid (HT20.out.below HBn.out)
        have HY21 := Lib.hid (ownsRow_keep HY20.out (Keeps.of_below (P := fun _ => True) HBn.out) fun _ _ => trivial)
        have KY21 := Lib.hid (heap_alloc_new w20 (.cells #[.int .i64 k, .string t, .bool ng, .slice ylo r.length ylc, .slice xo 0 xc, .int .i64 a, .slice ymo m.length ymc, .slice yso s.length ysc] 50))
        go_upto_region 21 with fail
        clear HB20 KX20 KA20 KV20 KW20 HT20 HY20 HBn
        generalize w20.heap.size = bY at *
        generalize w20.alloc (.cells #[.int .i64 k, .string t, .bool ng, .slice ylo r.length ylc, .slice xo 0 xc, .int .i64 a, .slice ymo m.length ymc, .slice yso s.length ysc] 50) = w21 at *
        have HL21 : Hid (ApL w w21 R16 R2 g2 ⟨100, 2 + pxW ⟨k, t, ng, r, a, m, s⟩, [⟨2, 2, [(4, n)], none⟩, ⟨10, pxW ⟨k, t, ng, r, a, m, s⟩, [], some ⟨k, t, ng, r, a, m, s⟩⟩], []⟩ bv bw ba bY n _ _) := Lib.hid ⟨HB21.out, KX21.out, KV21.out, KW21.out, KA21.out, KY21.out, HT21.out⟩
        clear HB21 KX21 KV21 KW21 KA21 KY21 HT21
        by_cases hm0 : m.length = 0
        case pos =>
          have h0 : ¬ (0 : Int) < (m.length : Int) := by omega
          clear hm0
          have HL22 := HL21
          have kyc := cell_heap HL22.out.ky 6
          obtain ⟨p0, p1, _, _⟩ := row2 HL22.out.kw.cells
          go_wp2_with fail
          refine wp_loop_rounds 1 ?_
          rw [rounds_succ]
          go_wp2_with fail
          refine (stunwrap_ok g2 R2 _ (7, 1) ⟨10, pxW ⟨k, t, ng, r, a, m, s⟩, [], some ⟨k, t, ng, r, a, m, s⟩⟩ ⟨k, t, ng, r, a, m, s⟩ w21 HL22.out.st rfl rfl rfl HT.out (by have := HOK.out; simp only; omega) (by have := HOK.out; simp only; omega) (by have := HOK.out; simp only; omega)).mono ?_
          rintro e w23 ⟨⟨lv3, xo3, xc3, mv3, sv3, rfl, hpo⟩, hb23⟩
          obtain ⟨ho1, _, ho3, ho4⟩ := hpo
          simp only at ho1 ho3 ho4
          obtain ⟨zlo, zlc, rfl⟩ := own_dslice ho1
          obtain ⟨zmo, zmc, rfl⟩ := own_dslice ho3
          obtain ⟨zso, zsc, rfl⟩ := own_dslice ho4
          have HBn := Lib.hid (below1 w23 (.cells #[.int .i64 k, .string t, .bool ng, .slice zlo r.length zlc, .slice xo3 0 xc3, .int .i64 a, .slice zmo m.length zmc, .slice zso s.length zsc] 50))
          have HL24 := Lib.hid ((HL22.out.below hb23).below HBn.out)
          have KZ24 := Lib.hid (heap_alloc_new w23 (.cells #[.int .i64 k, .string t, .bool ng, .slice zlo r.length zlc, .slice xo3 0 xc3, .int .i64 a, .slice zmo m.length zmc, .slice zso s.length zsc] 50))
          clear kyc p0 p1 ho1 ho3 ho4 hb23 HL22 HBn
          go_upto_region 28 with fail
          generalize w23.heap.size = bZ at *
          generalize w23.alloc (.cells #[.int .i64 k, .string t, .bool ng, .slice zlo r.length zlc, .slice xo3 0 xc3, .int .i64 a, .slice zmo m.length zmc, .slice zso s.length zsc] 50) = w24 at *
          have kzc := cell_heap KZ24.out 6
          go_wp2_with fail
          refine wp_loop_rounds 1 ?_
          rw [rounds_succ]
          go_wp2_with fail
          clear kzc
          refine (nmake_any _).mono ?_
          rintro e w30 ⟨rfl, hb⟩
          have HL30 := Lib.hid (HL24.out.below hb)
          clear hb
          go_wp2_with fail
          refine (nsymbol_any _).mono ?_
          rintro e w31 ⟨rfl, hb⟩
          have HL31 := Lib.hid ((HL30.out.below (below1 _ _)).below hb)
          clear hb
          go_wp2_with fail
          refine (ncollect_any _).mono ?_
          rintro e w32 ⟨rfl, hb⟩
          have HL32 := Lib.hid ((HL31.out.below (below1 _ _)).below hb)
          clear hb
          obtain ⟨p0, p1, _, _⟩ := row2 HL32.out.kv.cells
          go_wp2_with fail
          refine (nget_any (7, 0) _).mono ?_
          rintro e w33 ⟨rfl, hb⟩
          have HL33 := Lib.hid (HL32.out.below hb)
          clear hb
          clear p0 p1
          go_wp2_with fail
          refine (nwrap_any _).mono ?_
          rintro e w34 ⟨rfl, hb⟩
          have HL34 := Lib.hid ((HL33.out.below (below1 _ _)).below hb)
          clear hb
          have HL35 := Lib.hid (HL34.out.below (below1 w34 (.cells #[.int .i64 0, .int .i64 0] 35)))
          go_upto_region 39 with fail
          generalize w34.alloc (.cells #[.int .i64 0, .int .i64 0] 35) = w35 at *
          obtain ⟨p0, p1, _, _⟩ := row2 HL35.out.kv.cells
          obtain ⟨a0, a1, _, _⟩ := row2 HL35.out.ka.cells
          have y6 := cell_heap HL35.out.ky 6
          have c6 := cell_heap HL35.out.kx.cells 6
          go_wp2_with fail
          refine (nset_any (7, 0) (7, 0) _).mono ?_
          rintro e w36 ⟨rfl, hb⟩
          have HL36 := Lib.hid (HL35.out.below hb)
          clear hb
          clear p0 p1 a0 a1 y6 c6
          go_wp2_with fail
          refine (nused_any _).mono ?_
          rintro e w37 ⟨rfl, hb⟩
          have HL37 := Lib.hid (HL36.out.below hb)
          clear hb
          obtain ⟨p0, p1, _, _⟩ := row2 HL37.out.kv.cells
          go_wp2_with fail
          refine (nkind_any (7, 0) rfl _).mono ?_
          rintro e w38 ⟨rfl, hb⟩
          have HL38 := Lib.hid (HL37.out.below hb)
          clear hb
          clear p0 p1
          obtain ⟨p0, p1, _, _⟩ := row2 HL38.out.kv.cells
          go_wp2_with fail
          refine (nlen_any (7, 0) rfl _).mono ?_
          rintro e w39 ⟨rfl, hb⟩
          have HL39 := Lib.hid (HL38.out.below hb)
          clear hb
          clear p0 p1
          go_wp2_with fail
          refine (ncopy_any _).mono ?_
          rintro e w40 ⟨rfl, hb⟩
          have HL40 := Lib.hid (HL39.out.below hb)
          clear hb
          go_wp2_with fail
          go_ret
          exact ⟨rfl, HL40.out.bel⟩
        case neg =>
          obtain ⟨yb, rfl⟩ : ∃ yb, ymo = some ⟨yb, 0, none⟩ := by
            rcases HY21.out.2 with ⟨_, h0⟩ | ⟨b, cap, cur, e, _⟩
            · exact absurd h0 hm0
            · injection e with e1 e2 e3
              exact ⟨b, e1⟩
          obtain ⟨xb, xo2, rfl, HXC⟩ : ∃ xb xo2, mo = some ⟨xb, xo2, none⟩ ∧ Hid (∀ W, Below w.heap.size w W → ∀ i (h : i < m.length), W.cell? ⟨xb, xo2 + i, none⟩ = some (.int .i64 (m[i]'h))) := by
            obtain ⟨_, _, a', c', e, _, h⟩ := HM.out
            injection e with e1 e2 e3
            subst e1 e3
            rcases h with ⟨h0, _⟩ | ⟨b, off, rfl, hb, hc⟩
            · exact absurd h0 hm0
            · exact ⟨b, off, rfl, Lib.hid fun W hW i hi => (hW.cell (p := ⟨b, off + i, none⟩) hb).trans (hc i _ (by unfold ics; simp [hi]))⟩
          have HFY := Lib.hid (HF20.out yb rfl)
          have HYR : Hid (YRow w21 w19.heap.size yb ymc m 0) := Lib.hid ⟨m, rfl, fun _ _ => rfl, HY21.out⟩
          have kyc := cell_heap HL21.out.ky 6
          clear HF20 HY21
          go_wp2_with fail
          clear kyc
          go_loopw [22] (fun v wr => ∃ i : Nat, i ≤ m.length ∧ v = .int .i64 (i : Nat) ∧ ApL w wr R16 R2 g2 ⟨100, 2 + pxW ⟨k, t, ng, r, a, m, s⟩, [⟨2, 2, [(4, n)], none⟩, ⟨10, pxW ⟨k, t, ng, r, a, m, s⟩, [], some ⟨k, t, ng, r, a, m, s⟩⟩], []⟩ bv bw ba bY n (.cells #[.int .i64 k, .string t, .bool ng, .slice lo r.length lc, .slice ao 0 ac, .int .i64 a, .slice (some ⟨xb, xo2, none⟩) m.length mc, .slice so s.length sc] 50 (0, 0)) (.cells #[.int .i64 k, .string t, .bool ng, .slice ylo r.length ylc, .slice xo 0 xc, .int .i64 a, .slice (some ⟨yb, 0, none⟩) m.length ymc, .slice yso s.length ysc] 50 (0, 0)) ∧ YRow wr w19.heap.size yb ymc m i) (fun v _ => m.length - (intOf v).toNat)
          case atStart => exact ⟨0, Nat.zero_le _, rfl, HL21.out, HYR.out⟩
          case round =>
            obtain ⟨i2, hi2, rfl, hl2, hy2⟩ := hrel
            have HL22 := Lib.hid hl2
            have HY22 := Lib.hid hy2
            clear hl2 hy2 HL21 HYR
            obtain ⟨y0, y1, y2, y3, y4, y5, y6, y7⟩ := row8 HL22.out.ky
            obtain ⟨c0, c1, c2, c3, c4, c5, c6, c7⟩ := row8 HL22.out.kx.cells
            by_cases hlt : i2 < m.length
            · have hii : ((i2 : Nat) : Int) < ((m.length : Nat) : Int) := by omega
              obtain ⟨cy, fy⟩ := HY22.out.at hlt
              have cx := HXC.out wr HL22.out.bel i2 hlt
              generalize m[i2]'hlt = mi at *
              go_wp2_with fail
              go_quiet (fail)
              go_wp2_with fail
              go_roundw
              case measure => simp only [intOf]; omega
              case rel => exact ⟨i2 + 1, by omega, by go_num, (HL22.out.below (below_drewN (Below.refl _ _) _)).set HFY.out i2 _, (HY22.out.below (below_drewN (Below.refl _ _) _)).set hlt _⟩
            · have hii : ¬ ((i2 : Nat) : Int) < ((m.length : Nat) : Int) := by omega
              clear hlt hi2
              obtain ⟨p0, p1, _, _⟩ := row2 HL22.out.kw.cells
              go_wp2_with fail
              refine (stunwrap_ok g2 R2 _ (7, 1) ⟨10, pxW ⟨k, t, ng, r, a, m, s⟩, [], some ⟨k, t, ng, r, a, m, s⟩⟩ ⟨k, t, ng, r, a, m, s⟩ wr HL22.out.st rfl rfl rfl HT.out (by have := HOK.out; simp only; omega) (by have := HOK.out; simp only; omega) (by have := HOK.out; simp only; omega)).mono ?_
              rintro e w23 ⟨⟨lv3, xo3, xc3, mv3, sv3, rfl, hpo⟩, hb23⟩
              obtain ⟨ho1, _, ho3, ho4⟩ := hpo
              simp only at ho1 ho3 ho4
              obtain ⟨zlo, zlc, rfl⟩ := own_dslice ho1
              obtain ⟨zmo, zmc, rfl⟩ := own_dslice ho3
              obtain ⟨zso, zsc, rfl⟩ := own_dslice ho4
              obtain ⟨zb, rfl⟩ : ∃ zb, zmo = some ⟨zb, 0, none⟩ := by
                rcases ho3.2 with ⟨_, h0⟩ | ⟨b, cap, cur, e, _⟩
                · exact absurd h0 hm0
                · injection e with e1 e2 e3
                  exact ⟨b, e1⟩
              have HBn := Lib.hid (below1 w23 (.cells #[.int .i64 k, .string t, .bool ng, .slice zlo r.length zlc, .slice xo3 0 xc3, .int .i64 a, .slice (some ⟨zb, 0, none⟩) m.length zmc, .slice zso s.length zsc] 50))
              have HL24 := Lib.hid ((HL22.out.below hb23).below HBn.out)
              have HZ24 : Hid (YRow (w23.alloc (.cells #[.int .i64 k, .string t, .bool ng, .slice zlo r.length zlc, .slice xo3 0 xc3, .int .i64 a, .slice (some ⟨zb, 0, none⟩) m.length zmc, .slice zso s.length zsc] 50)) wr.heap.size zb zmc m 0) := Lib.hid ((show YRow w23 wr.heap.size zb zmc m 0 from ⟨m, rfl, fun _ _ => rfl, ho3⟩).below HBn.out)
              have KZ24 := Lib.hid (heap_alloc_new w23 (.cells #[.int .i64 k, .string t, .bool ng, .slice zlo r.length zlc, .slice xo3 0 xc3, .int .i64 a, .slice (some ⟨zb, 0, none⟩) m.length zmc, .slice zso s.length zsc] 50))
              clear y0 y1 y2 y3 y4 y5 y6 y7 c0 c1 c2 c3 c4 c5 c6 c7 p0 p1 ho1 ho3 ho4 hb23 hii HL22 HY22 HFY HBn
              go_upto_region 28 with fail
              generalize w23.heap.size = bZ at *
              generalize w23.alloc (.cells #[.int .i64 k, .string t, .bool ng, .slice zlo r.length zlc, .slice xo3 0 xc3, .int .i64 a, .slice (some ⟨zb, 0, none⟩) m.length zmc, .slice zso s.length zsc] 50) = w24 at *
              have kzc := cell_heap KZ24.out 6
              go_wp2_with fail
              clear kzc
              generalize wr.heap.size = Bz at *
              go_loopw [25] (fun v wr => ∃ i : Nat, i ≤ m.length ∧ v = .int .i64 (i : Nat) ∧ ApL w wr R16 R2 g2 ⟨100, 2 + pxW ⟨k, t, ng, r, a, m, s⟩, [⟨2, 2, [(4, n)], none⟩, ⟨10, pxW ⟨k, t, ng, r, a, m, s⟩, [], some ⟨k, t, ng, r, a, m, s⟩⟩], []⟩ bv bw ba bY n (.cells #[.int .i64 k, .string t, .bool ng, .slice lo r.length lc, .slice ao 0 ac, .int .i64 a, .slice (some ⟨xb, xo2, none⟩) m.length mc, .slice so s.length sc] 50 (0, 0)) (.cells #[.int .i64 k, .string t, .bool ng, .slice ylo r.length ylc, .slice xo 0 xc, .int .i64 a, .slice (some ⟨yb, 0, none⟩) m.length ymc, .slice yso s.length ysc] 50 (0, 0)) ∧ YRow wr Bz zb zmc m 0 ∧ wr.heap[bZ]? = some (.cells #[.int .i64 k, .string t, .bool ng, .slice zlo r.length zlc, .slice xo3 0 xc3, .int .i64 a, .slice (some ⟨zb, 0, none⟩) m.length zmc, .slice zso s.length zsc] 50 (0, 0))) (fun v _ => m.length - (intOf v).toNat)
              case atStart => exact ⟨0, Nat.zero_le _, rfl, HL24.out, HZ24.out, KZ24.out⟩
              case round =>
                obtain ⟨i3, hi3, rfl, hl3, hz3, kz3⟩ := hrel
                have HL25 := Lib.hid hl3
                have HZ25 := Lib.hid hz3
                have KZ25 := Lib.hid kz3
                clear hl3 hz3 kz3 HL24 HZ24 KZ24
                obtain ⟨y0, y1, y2, y3, y4, y5, y6, y7⟩ := row8 KZ25.out
                obtain ⟨c0, c1, c2, c3, c4, c5, c6, c7⟩ := row8 HL25.out.kx.cells
                by_cases hlt : i3 < m.length
                · have hii : ((i3 : Nat) : Int) < ((m.length : Nat) : Int) := by omega
                  obtain ⟨cy, fy⟩ := (HZ25.out.from (Nat.zero_le i3)).at hlt
                  have cx := HXC.out _ HL25.out.bel i3 hlt
                  generalize m[i3]'hlt = mi at *
                  go_wp2_with fail
                  go_quiet (fail)
                  go_wp2_with fail
                  go_roundw
                  case measure => simp only [intOf]; omega
                  case rel => exact ⟨i3 + 1, by omega, by go_num, HL25.out.below (below_drewN (Below.refl _ _) _), HZ25.out.below (below_drewN (Below.refl _ _) _), KZ25.out⟩
                · have hii : ¬ ((i3 : Nat) : Int) < ((m.length : Nat) : Int) := by omega
                  clear hlt hi3
                  go_wp2_with fail
                  clear y0 y1 y2 y3 y4 y5 y6 y7 c0 c1 c2 c3 c4 c5 c6 c7 hii
                  refine (nmake_any _).mono ?_
                  rintro e w30 ⟨rfl, hb⟩
                  have HL30 := Lib.hid (HL25.out.below hb)
                  clear hb
                  go_wp2_with fail
                  refine (nsymbol_any _).mono ?_
                  rintro e w31 ⟨rfl, hb⟩
                  have HL31 := Lib.hid ((HL30.out.below (below1 _ _)).below hb)
                  clear hb
                  go_wp2_with fail
                  refine (ncollect_any _).mono ?_
                  rintro e w32 ⟨rfl, hb⟩
                  have HL32 := Lib.hid ((HL31.out.below (below1 _ _)).below hb)
                  clear hb
                  obtain ⟨p0, p1, _, _⟩ := row2 HL32.out.kv.cells
                  go_wp2_with fail
                  refine (nget_any (7, 0) _).mono ?_
                  rintro e w33 ⟨rfl, hb⟩
                  have HL33 := Lib.hid (HL32.out.below hb)
                  clear hb
                  clear p0 p1
                  go_wp2_with fail
                  refine (nwrap_any _).mono ?_
                  rintro e w34 ⟨rfl, hb⟩
                  have HL34 := Lib.hid ((HL33.out.below (below1 _ _)).below hb)
                  clear hb
                  have HL35 := Lib.hid (HL34.out.below (below1 w34 (.cells #[.int .i64 0, .int .i64 0] 35)))
                  go_upto_region 39 with fail
                  generalize w34.alloc (.cells #[.int .i64 0, .int .i64 0] 35) = w35 at *
                  obtain ⟨p0, p1, _, _⟩ := row2 HL35.out.kv.cells
                  obtain ⟨a0, a1, _, _⟩ := row2 HL35.out.ka.cells
                  have y6 := cell_heap HL35.out.ky 6
                  have c6 := cell_heap HL35.out.kx.cells 6
                  go_wp2_with fail
                  refine (nset_any (7, 0) (7, 0) _).mono ?_
                  rintro e w36 ⟨rfl, hb⟩
                  have HL36 := Lib.hid (HL35.out.below hb)
                  clear hb
                  clear p0 p1 a0 a1 y6 c6
                  go_wp2_with fail
                  refine (nused_any _).mono ?_
                  rintro e w37 ⟨rfl, hb⟩
                  have HL37 := Lib.hid (HL36.out.below hb)
                  clear hb
                  obtain ⟨p0, p1, _, _⟩ := row2 HL37.out.kv.cells
                  go_wp2_with fail
                  refine (nkind_any (7, 0) rfl _).mono ?_
                  rintro e w38 ⟨rfl, hb⟩
                  have HL38 := Lib.hid (HL37.out.below hb)
                  clear hb
                  clear p0 p1
                  obtain ⟨p0, p1, _, _⟩ := row2 HL38.out.kv.cells
                  go_wp2_with fail
                  refine (nlen_any (7, 0) rfl _).mono ?_
                  rintro e w39 ⟨rfl, hb⟩
                  have HL39 := Lib.hid (HL38.out.below hb)
                  clear hb
                  clear p0 p1
                  go_wp2_with fail
                  refine (ncopy_any _).mono ?_
                  rintro e w40 ⟨rfl, hb⟩
                  have HL40 := Lib.hid (HL39.out.below hb)
                  clear hb
                  go_wp2_with fail
                  go_ret
                  exact ⟨rfl, HL40.out.bel⟩
end Go.Proofs.Ytioidaojnbenbaa
