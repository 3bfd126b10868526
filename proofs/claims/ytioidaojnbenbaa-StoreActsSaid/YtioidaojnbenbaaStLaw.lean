/- What laws over a store need: the store among what the law itself has made; answers of law06. -/
import Derived.Test.YtioidaojnbenbaaStCollect
import Derived.Deep.Cut
namespace Go.Proofs.Ytioidaojnbenbaa
open Go.RowKit

/-- A store that was made since w0, and nothing older has changed. -/
structure StQ (w0 w : World) (g : Nat) (R : Nat → Nat) (s : St) : Prop where
  st : StW w g R s
  bel : Below w0.heap.size w0 w
  lo : ∀ b, R b ≠ 0 → w0.heap.size ≤ b
theorem StQ.step {w0 w w' : World} {g : Nat} {R : Nat → Nat} {s s' : St} (h : StQ w0 w g R s) (hp : StP w g R s' w') : ∃ R', StQ w0 w' g R' s' ∧ Fr R w w' ∧ ∀ b, b < w.heap.size → (R' b = 0 ↔ R b = 0) := by
  obtain ⟨R', h1, h2, h3⟩ := hp
  refine ⟨R', ⟨h1, h.bel.trans (h2.below h.bel.size h.lo), fun b hb => ?_⟩, h2, h3⟩
  rcases Nat.lt_or_ge b w.heap.size with hl | hl
  · exact h.lo b fun h0 => hb ((h3 b hl).2 h0)
  · exact Nat.le_trans h.bel.size hl
theorem StQ.below {w0 w w' : World} {g : Nat} {R : Nat → Nat} {s : St} (h : StQ w0 w g R s) (hb : Below w.heap.size w w') : StQ w0 w' g R s := ⟨h.st.below hb, h.bel.trans (hb.mono h.bel.size), h.lo⟩
theorem StQ.alloc {w0 w : World} {g : Nat} {R : Nat → Nat} {s : St} (h : StQ w0 w g R s) (o : Obj) : StQ w0 (w.alloc o) g R s := h.below (below1 w o)
theorem StQ.set {w0 w : World} {g : Nat} {R : Nat → Nat} {s : St} (h : StQ w0 w g R s) {p : Addr} (hp : w0.heap.size ≤ p.block) (hR : R p.block = 0) (u : Value) : StQ w0 (w.setCell p u) g R s :=
  ⟨h.st.keep ((Keeps.refl (fun b => R b ≠ 0) w).set (fun hn => hn hR) u), h.bel.setCell hp u, h.lo⟩
theorem StQ.new_zero {w0 w : World} {g : Nat} {R : Nat → Nat} {s : St} (h : StQ w0 w g R s) {b : Nat} (hb : w.heap.size ≤ b) : R b = 0 := Classical.byContradiction fun hn => by have := h.st.lt b hn; omega
theorem StQ.mk_new {w w' : World} {L : Nat} (h : StW w' w.heap.size (Rnew w.heap.size) (St.new L)) (hb : Below w.heap.size w w') : StQ w w' w.heap.size (Rnew w.heap.size) (St.new L) := ⟨h, hb, fun b hb => by rw [Rnew_ne hb]; exact Nat.le_refl _⟩
theorem StQ.mk_new' {w0 w w' : World} {L : Nat} (h0 : Below w0.heap.size w0 w) (h : StW w' w.heap.size (Rnew w.heap.size) (St.new L)) (hb : Below w.heap.size w w') : StQ w0 w' w.heap.size (Rnew w.heap.size) (St.new L) := ⟨h, h0.trans (hb.mono h0.size), fun b hb => by rw [Rnew_ne hb]; exact h0.size⟩
/-- A row of one value, and of two, laid now. -/
theorem vrow1 (w : World) (x : Int × Int) : RowV (w.alloc (.cells #[.int .i64 x.1, .int .i64 x.2] 35)) (.slice (some ⟨w.heap.size, 0, none⟩) 1 1) [x].length 2 (vcs [x]) := by
  refine ⟨rfl, by unfold maxLen; simp, some ⟨w.heap.size, 0, none⟩, 1, rfl, Nat.le_refl _, .inr ⟨w.heap.size, 0, rfl, by simp, fun j u hu => ?_⟩⟩
  rw [cell_of_row _ w.heap.size (0 + j) _ _ (0, 0) (heap_alloc_new w _), Nat.zero_add]
  simpa [vcs, vc] using hu
theorem vrow2 (w : World) (x y : Int × Int) : RowV (w.alloc (.cells #[.int .i64 x.1, .int .i64 x.2, .int .i64 y.1, .int .i64 y.2] 35)) (.slice (some ⟨w.heap.size, 0, none⟩) 2 2) [x, y].length 2 (vcs [x, y]) := by
  refine ⟨rfl, by unfold maxLen; simp, some ⟨w.heap.size, 0, none⟩, 2, rfl, Nat.le_refl _, .inr ⟨w.heap.size, 0, rfl, by simp, fun j u hu => ?_⟩⟩
  rw [cell_of_row _ w.heap.size (0 + j) _ _ (0, 0) (heap_alloc_new w _), Nat.zero_add]
  simpa [vcs, vc] using hu
theorem vrow0 (w : World) : RowV w (.slice none 0 0) ([] : List (Int × Int)).length 2 (vcs []) := ⟨rfl, Nat.zero_le _, none, 0, rfl, Nat.le_refl _, .inl ⟨rfl, fun _ => rfl⟩⟩

theorem StQ.ok {w0 w : World} {g : Nat} {R : Nat → Nat} {s : St} (h : StQ w0 w g R s) : s.Ok := h.st.ok
theorem StQ.grown {w0 w w' : World} {g : Nat} {R : Nat → Nat} {s : St} (h : StQ w0 w g R s) {row : Option Nat} (hg : w.grownBy w' row) (hr : ∀ b, row = some b → w0.heap.size ≤ b ∧ R b = 0) : StQ w0 w' g R s :=
  ⟨h.st.keep (Keeps.of_grown hg fun b e hn => hn (hr b e).2), h.bel.grown hg h.bel.size fun b e => (hr b e).1, h.lo⟩
/-- A row that the law has made: it is nobody else's. -/
structure Own (w0 w : World) (R : Nat → Nat) (v : Value) (l : List (Int × Int)) : Prop where
  row : w.ownsRow w0.heap.size 35 2 v l.length (vcs l)
  free : ∀ b, v.ownBlock = some b → R b = 0
theorem Own.keep {w0 w w' : World} {R R' : Nat → Nat} {v : Value} {l : List (Int × Int)} (h : Own w0 w R v l) (hf : Fr R w w') (hr : ∀ b, b < w.heap.size → (R' b = 0 ↔ R b = 0)) : Own w0 w' R' v l :=
  ⟨ownsRow_keep h.row hf.keeps fun b hb => h.free b hb, fun b hb => (hr b (h.row.lt b hb).2).2 (h.free b hb)⟩
theorem Own.below {w0 w w' : World} {R : Nat → Nat} {v : Value} {l : List (Int × Int)} (h : Own w0 w R v l) (hb : Below w.heap.size w w') : Own w0 w' R v l :=
  ⟨ownsRow_keep h.row (Keeps.of_below (P := fun _ => True) hb) fun _ _ => trivial, h.free⟩
theorem Own.set {w0 w : World} {R : Nat → Nat} {v : Value} {l : List (Int × Int)} (h : Own w0 w R v l) {p : Addr} (hp : v.ownBlock ≠ some p.block) (u : Value) : Own w0 (w.setCell p u) R v l :=
  ⟨ownsRow_keep h.row ((Keeps.refl (fun b => v.ownBlock = some b) w).set hp u) fun _ hb => hb, h.free⟩
theorem Own.nil (w0 w : World) (R : Nat → Nat) : Own w0 w R (.slice none 0 0) [] := ⟨World.ownsRow_nil _ _ _ _, fun b hb => by cases hb⟩
theorem Own.rowV {w0 w : World} {R : Nat → Nat} {v : Value} {l : List (Int × Int)} (h : Own w0 w R v l) : RowV w v l.length 2 (vcs l) := RowV.of_own h.row
/-- A box of the law's, of two cells. -/
structure Bx (w : World) (R : Nat → Nat) (b : Nat) (x : Int × Int) : Prop where
  cells : w.heap[b]? = some (.cells #[.int .i64 x.1, .int .i64 x.2] 35 (0, 0))
  free : R b = 0
theorem Bx.lt {w : World} {R : Nat → Nat} {b : Nat} {x : Int × Int} (h : Bx w R b x) : b < w.heap.size := (Array.getElem?_eq_some_iff.1 h.cells).1
theorem Bx.keep {w w' : World} {R R' : Nat → Nat} {b : Nat} {x : Int × Int} (h : Bx w R b x) (hf : Fr R w w') (hr : ∀ b, b < w.heap.size → (R' b = 0 ↔ R b = 0)) : Bx w' R' b x :=
  ⟨(hf.blk b h.lt h.free).trans h.cells, (hr b h.lt).2 h.free⟩
theorem Bx.below {w w' : World} {R : Nat → Nat} {b : Nat} {x : Int × Int} (h : Bx w R b x) (hb : Below w.heap.size w w') : Bx w' R b x := ⟨(hb.block b h.lt).trans h.cells, h.free⟩
theorem Bx.other {w : World} {R : Nat → Nat} {b : Nat} {x : Int × Int} (h : Bx w R b x) {p : Addr} (hp : b ≠ p.block) (u : Value) : Bx (w.setCell p u) R b x := ⟨(Below.heap_setCell _ _ _ _ hp).trans h.cells, h.free⟩
theorem Bx.put {w : World} {R : Nat → Nat} {b : Nat} {x : Int × Int} (h : Bx w R b x) (y : Int × Int) : Bx ((w.setCell ⟨b, 0, none⟩ (.int .i64 y.1)).setCell ⟨b, 1, none⟩ (.int .i64 y.2)) R b y :=
  ⟨(rowSet (rowSet h.cells 0 _) 1 _).trans (by simp), h.free⟩
theorem Bx.grown {w w' : World} {R : Nat → Nat} {b : Nat} {x : Int × Int} (h : Bx w R b x) {row : Option Nat} (hg : w.grownBy w' row) (hr : row ≠ some b) : Bx w' R b x := ⟨(hg.block b h.lt (fun e => hr e.symm)).trans h.cells, h.free⟩
theorem Bx.new {w0 w : World} {g : Nat} {R : Nat → Nat} {s : St} (h : StQ w0 w g R s) (x : Int × Int) : Bx (w.alloc (.cells #[.int .i64 x.1, .int .i64 x.2] 35)) R w.heap.size x := ⟨heap_alloc_new w _, h.new_zero (Nat.le_refl _)⟩
theorem Bx.facts {w : World} {R : Nat → Nat} {b : Nat} {x : Int × Int} (h : Bx w R b x) : w.cell? ⟨b, 0, none⟩ = some (.int .i64 x.1) ∧ w.cell? ⟨b, 1, none⟩ = some (.int .i64 x.2) ∧ w.frozen? ⟨b, 0, none⟩ = false ∧ w.frozen? ⟨b, 1, none⟩ = false := row2 h.cells
/-- What is left when something was done to the store. -/
def QPost (w0 w : World) (g : Nat) (R : Nat → Nat) (s' : St) (w' : World) : Prop := ∃ R', StQ w0 w' g R' s' ∧ Fr R w w' ∧ ∀ b, b < w.heap.size → (R' b = 0 ↔ R b = 0)
theorem qnew (L : Nat) (w0 w : World) (h0 : Below w0.heap.size w0 w) (hL : L ≤ 1048576) : Calls Try.prog 6 #[.int .i64 (L : Nat)] w fun e w' => ∃ g, g = w.heap.size ∧ e = .returned (.tuple #[.pointer (some ⟨g, 0, none⟩), .int .i64 0]) ∧ StQ w0 w' g (Rnew g) (St.new L) ∧ Below w.heap.size w w' :=
  (stnew_any L w hL).mono fun _ _ ⟨h1, h2, h3, _⟩ => ⟨_, rfl, h1, StQ.mk_new' h0 h2 h3, h3⟩
theorem qmake {w0 w : World} {g : Nat} {R : Nat → Nat} {s s' : St} {k : Int} {lv : Value} {l : List (Int × Int)} {r : (Int × Int) × Int} (h : StQ w0 w g R s) (hr : RowV w lv l.length 2 (vcs l)) (hl : l.length ≤ 2000000) (hm : s.make k l = (r, s')) :
    Calls Try.prog 13 #[.pointer (some ⟨g, 0, none⟩), .int .i64 k, lv] w fun e w' => e = .returned (.tuple #[.agg #[.int .i64 r.1.1, .int .i64 r.1.2], .int .i64 r.2]) ∧ QPost w0 w g R s' w' :=
  (stmake_any g R s k lv l w h.st hr hl).mono fun e w' ⟨h1, h2⟩ => by rw [hm] at h1 h2; exact ⟨h1, h.step h2⟩
theorem qget {w0 w : World} {g : Nat} {R : Nat → Nat} {s : St} {v : Int × Int} {i : Int} {r : (Int × Int) × Int} (h : StQ w0 w g R s) (hg : s.get v i = r) :
    Calls Try.prog 17 #[.pointer (some ⟨g, 0, none⟩), .agg #[.int .i64 v.1, .int .i64 v.2], .int .i64 i] w fun e w' => e = .returned (.tuple #[.agg #[.int .i64 r.1.1, .int .i64 r.1.2], .int .i64 r.2]) ∧ Below w.heap.size w w' :=
  (stget_any g R s v i w h.st).mono fun e w' ⟨h1, h2⟩ => by rw [hg] at h1; exact ⟨h1, h2⟩
theorem qset {w0 w : World} {g : Nat} {R : Nat → Nat} {s s' : St} {v x : Int × Int} {i c : Int} (h : StQ w0 w g R s) (hs : s.setA v i x = (c, s')) :
    Calls Try.prog 15 #[.pointer (some ⟨g, 0, none⟩), .agg #[.int .i64 v.1, .int .i64 v.2], .int .i64 i, .agg #[.int .i64 x.1, .int .i64 x.2]] w fun e w' => e = .returned (.int .i64 c) ∧ QPost w0 w g R s' w' :=
  (stset_any g R s v i x w h.st).mono fun e w' ⟨h1, h2⟩ => by rw [hs] at h1 h2; exact ⟨h1, h.step h2⟩
theorem qused {w0 w : World} {g : Nat} {R : Nat → Nat} {s : St} (h : StQ w0 w g R s) : Calls Try.prog 21 #[.pointer (some ⟨g, 0, none⟩)] w fun e w' => e = .returned (.int .i64 (s.U : Nat)) ∧ Below w.heap.size w w' := stused_any g R s w h.st
theorem qcol {w0 w : World} {g : Nat} {R : Nat → Nat} {s : St} {lv : Value} {rs : List (Int × Int)} (h : StQ w0 w g R s) (hr : RowV w lv rs.length 2 (vcs rs)) (hl : rs.length ≤ 2000000) (hrR : InP (fun b => R b = 0) rs.length lv) (hs : rs.all (sdV s.os.length s.ns.length) = true) :
    Calls Try.prog 20 #[.pointer (some ⟨g, 0, none⟩), lv] w fun e w' => ∃ v', e = .returned (.tuple #[v', .int .i64 0]) ∧ w'.ownsRow w.heap.size 35 2 v' rs.length (vcs (rs.map (mvV (rchB s rs)))) ∧ QPost w0 w g R (s.col rs) w' :=
  (stcollect_any g R s lv rs w h.st hr hl hrR).mono fun e w' hp => by
    rcases hp with ⟨h1, _⟩ | ⟨_, v', R', h2, h3, h4, h5, h6⟩
    · rw [hs] at h1; cases h1
    · exact ⟨v', h2, h6, h.step ⟨R', h3, h4, fun b _ => h5 b⟩⟩

set_option maxRecDepth 100000 in
set_option maxHeartbeats 2000000 in
theorem answers6_any (w : World) : Calls Try.prog 7 #[] w fun e w' => e = .returned (.bool true) ∧ Below w.heap.size w w' := by
  have HV1 := Lib.hid vrow1
  go_enter Try.func7, Try.ntmps7
  go_wp2_with fail
  refine (qnew 5 w _ (Below.refl _ _) (by omega)).mono ?_
  rintro e w1 ⟨g, hg, rfl, hq, hb⟩
  have HQ1 := Lib.hid hq
  have HG := Lib.hid hg
  clear hq hb hg
  go_wp2_with fail
  refine (qmake (s' := ⟨5, 2, [⟨3, 2, [(4, 3)], none⟩], []⟩) (r := ((7, 0), 0)) (HQ1.out.alloc _) (HV1.out _ (4, 3)) (by simp) rfl).mono ?_
  rintro e w2 ⟨rfl, R2, hq2, _, _⟩
  have HQ2 := Lib.hid hq2
  clear hq2
  go_wp2_with fail
  refine (qget (v := (7, 0)) (r := ((4, 3), 0)) (HQ2.out.alloc _) rfl).mono ?_
  rintro e w3 ⟨rfl, hb3⟩
  have HQ3 := Lib.hid ((HQ2.out.alloc _).below hb3)
  clear hb3
  go_wp2_with fail
  refine (qused (HQ3.out.alloc _)).mono ?_
  rintro e w4 ⟨rfl, hb4⟩
  have HQ4 := Lib.hid ((HQ3.out.alloc _).below hb4)
  clear hb4
  go_wp2_with fail
  go_ret
  exact ⟨rfl, HQ4.out.bel⟩
end Go.Proofs.Ytioidaojnbenbaa
