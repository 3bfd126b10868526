/- ref02.Others, ref09.bare: is an Other in a datum; the document's datum of a piece. | The document's soundWrap, SoundWrap. | The document's Join. | ref09.flat, Sound, Ident: the document's answer to which pieces may be. | ref09.Sound, Ident. | law11's light; rib.Bound; Own, Put and New by Rz; what the law of binders needs of Put. | RibBound: who binds one binds the other just if both have one name and the same marks. Of any two identifiers. | Fresh; a counter's store. -/
import Derived.Test.YtegengnffdlplaaGreatDoorSxSnd
import Derived.Test.YtegengnffdlplaaGreatDoorWpSnd
import Derived.Test.YtegengnffdlplaaGreatDoorWpCat
import Derived.Test.YtegengnffdlplaaGreatDoorSxJn
import Derived.Test.YtegengnffdlplaaGreatDoorRbFnd
import Derived.Test.YtegengnffdlplaaGreatDoorWpSame
import Derived.Test.YtegengnffdlplaaGreatDoorRbMem
namespace Go.Proofs.YtegengnffdlplaaGreatDoor
open Go.RowKit

end Go.Proofs.YtegengnffdlplaaGreatDoor
namespace Go.Proofs.YtegengnffdlplaaGreatDoor
open Go.RowKit

/-- A slice of ints that is read by index, in any world that keeps what was there. -/
theorem Iz.row {w : World} {v : Value} {zs : List Int} (h : Iz w v zs) : zs.length ≤ maxLen ∧ ∃ ao cap, v = .slice ao zs.length cap ∧ zs.length ≤ cap ∧ (zs = [] ∨ ∃ b off, ao = some ⟨b, off, none⟩ ∧ b < w.heap.size ∧ ∀ j, j < zs.length → w.cell? ⟨b, off + j, none⟩ = some (.int .i64 (gz zs j))) := by
  obtain ⟨hm, ao, cap, hv, hc, hr⟩ := h.cases
  refine ⟨hm, ao, cap, hv, hc, ?_⟩
  rcases hr with ⟨h0, _⟩ | h0
  · exact .inl h0
  · exact .inr h0
/-- In one form for empty ones, too. -/
theorem Iz.read {w : World} {v : Value} {zs : List Int} (h : Iz w v zs) : zs.length ≤ maxLen ∧ ∃ ao cap, v = .slice ao zs.length cap ∧ zs.length ≤ cap ∧ ∀ j, j < zs.length → ∃ b off, ao = some ⟨b, off, none⟩ ∧ b < w.heap.size ∧ w.cell? ⟨b, off + j, none⟩ = some (.int .i64 (gz zs j)) := by
  obtain ⟨hm, ao, cap, hv, hc, hr⟩ := h.row
  refine ⟨hm, ao, cap, hv, hc, fun j hj => ?_⟩
  rcases hr with h0 | ⟨b, off, h1, h2, h3⟩
  · rw [h0] at hj; simp at hj
  · exact ⟨b, off, h1, h2, h3 j hj⟩

end Go.Proofs.YtegengnffdlplaaGreatDoor
namespace Go.Proofs.YtegengnffdlplaaGreatDoor
open Go.RowKit

/-- Not in the old blocks. -/
def Nw (B : Nat) (v : Value) : Prop := ∀ b, v.ownBlock = some b → B ≤ b
theorem Nw.nil (B : Nat) : Nw B (.slice none 0 0) := fun b h => by cases h
end Go.Proofs.YtegengnffdlplaaGreatDoor
namespace Go.Proofs.YtegengnffdlplaaGreatDoor
open Go.RowKit

/-- A piece in the making: its box in block g, so many of its list's pieces behind one another. -/
structure SxS (Q : Nat → Prop) (B0 g : Nat) (w0 : World) (ls : List Sx) (v : Value) (j : Nat) (us : List Value) (W : World) : Prop where
  own : W.ownsRow (g + 1) 29 8 v j us
  row : SxRow (fun b => (Q b ∧ b ≠ g) ∧ v.ownBlock ≠ some b) W (ls.take j) us
  bel : Below B0 w0 W
  lt : g < W.heap.size
  le : B0 ≤ g
theorem SxS.below {Q : Nat → Prop} {B0 g : Nat} {w0 : World} {ls : List Sx} {v : Value} {j : Nat} {us : List Value} {W W' : World} (h : SxS Q B0 g w0 ls v j us W) (hb : Below W.heap.size W W') : SxS Q B0 g w0 ls v j us W' :=
  ⟨ownsRow_keep h.own (Keeps.of_below (P := fun _ => True) hb) fun _ _ => trivial, h.row.move (Keeps.of_below hb), h.bel.trans (hb.mono (by have := h.le; have := h.lt; omega)), Nat.lt_of_lt_of_le h.lt hb.size, h.le⟩
theorem SxS.far {Q : Nat → Prop} {B0 g : Nat} {w0 : World} {ls : List Sx} {v : Value} {j : Nat} {us : List Value} {W : World} (h : SxS Q B0 g w0 ls v j us W) : ∀ b, v.ownBlock = some b → b ≠ g := fun b hb e => by have := (h.own.lt b hb).1; omega
theorem SxS.appended {Q : Nat → Prop} {B0 g : Nat} {w0 : World} {ls : List Sx} {v v' : Value} {j : Nat} {us cs : List Value} {Wr W W' : World} (h : SxS Q B0 g w0 ls v j us Wr) (hb : Below Wr.heap.size Wr W) {d : Sx} (hd : ls[j]? = some d) (hl : SLayP (fun b => (Q b ∧ b ≠ g) ∧ v.ownBlock ≠ some b) W d cs)
    (hown : W'.ownsRow (g + 1) 29 8 v' (j + 1) (us ++ cs)) (hgrow : W.grownBy W' v.ownBlock) (hm : MovedTo W v v') : SxS Q B0 g w0 ls v' (j + 1) (us ++ cs) W' := by
  have h1 := h.below hb
  have hlt := h.lt
  have hle := h.le
  have hr := h1.row.appended hl hgrow hm
  refine ⟨hown, ?_, h1.bel.grown hgrow (by have := h1.lt; omega) (fun q hq => by have := (h1.own.lt q hq).1; omega), Nat.lt_of_lt_of_le h1.lt hgrow.size, hle⟩
  rw [List.take_add_one, hd]; exact hr
theorem SxS.store {Q : Nat → Prop} {B0 g : Nat} {w0 : World} {ls : List Sx} {v : Value} {j : Nat} {us : List Value} {W : World} (h : SxS Q B0 g w0 ls v j us W) (o : Nat) (u : Value) : SxS Q B0 g w0 ls v j us (W.setCell ⟨g, o, none⟩ u) := by
  have hk : Keeps (fun b => (Q b ∧ b ≠ g) ∧ v.ownBlock ≠ some b) W (W.setCell ⟨g, o, none⟩ u) := (Keeps.refl _ W).set (p := ⟨g, o, none⟩) (fun hp => hp.1.2 rfl) u
  exact ⟨ownsRow_keep h.own ((Keeps.refl (fun b => b ≠ g) W).set (p := ⟨g, o, none⟩) (fun hp => hp rfl) u) h.far, h.row.move hk, h.bel.setCell (p := ⟨g, o, none⟩) h.le u, by have := h.lt; simpa using this, h.le⟩
end Go.Proofs.YtegengnffdlplaaGreatDoor
namespace Go.Proofs.YtegengnffdlplaaGreatDoor
open Go.RowKit

end Go.Proofs.YtegengnffdlplaaGreatDoor
namespace Go.Proofs.YtegengnffdlplaaGreatDoor
open Go.RowKit

/-- Is an identifier not too large? -/
def ltB (D : Sx) : Bool := decide (D.l.length < 30) && decide (D.m.length < 600) && decide (D.s.length < 600)
set_option maxRecDepth 100000 in
theorem light11_any (D : Sx) (us : List Value) (w : World) (hd : SLay w D us) :
    Calls Tryz.prog 8 #[.agg us.toArray] w fun e w' => e = .returned (.bool (ltB D)) ∧ Below w.heap.size w w' := by
  obtain ⟨kx, tx, nx, xo, xn, xc, yo, yn, yc, ax, po, pn, pc, qo, qn, qc, rfl⟩ := sx_shapes hd
  obtain ⟨h1, h2, h3⟩ : yn = D.l.length ∧ pn = D.m.length ∧ qn = D.s.length := by
    obtain ⟨_, _, _, _, _, he, _, _, _, hl, hm, hs, _⟩ := hd.open'
    simp only [List.cons.injEq, and_true] at he
    obtain ⟨_, _, _, _, rfl, _, rfl, rfl⟩ := he
    obtain ⟨_, _, _, _, e1, _⟩ := hl
    obtain ⟨_, _, _, _, e2, _⟩ := hm
    obtain ⟨_, _, _, _, e3, _⟩ := hs
    simp only [Value.slice.injEq] at e1 e2 e3
    exact ⟨e1.2.1, e2.2.1, e3.2.1⟩
  have HB1 := Lib.hid (below1 w (.cells #[.int .i64 kx, .string tx, .bool nx, .slice xo xn xc, .slice yo yn yc, .int .i64 ax, .slice po pn pc, .slice qo qn qc] 29))
  obtain ⟨c0, c1, c2, c3, c4, c5, c6, c7⟩ := rowS8 (heap_alloc_new w (.cells #[.int .i64 kx, .string tx, .bool nx, .slice xo xn xc, .slice yo yn yc, .int .i64 ax, .slice po pn pc, .slice qo qn qc] 29))
  have HV : Hid (ltB D = (decide ((yn : Int) < 30) && decide ((pn : Int) < 600) && decide ((qn : Int) < 600))) := Lib.hid (by
    unfold ltB
    rw [← h1, ← h2, ← h3]
    congr 1
    · congr 1
      · exact decide_eq_decide.2 (by omega)
      · exact decide_eq_decide.2 (by omega)
    · exact decide_eq_decide.2 (by omega))
  clear hd h1 h2 h3
  show Calls Tryz.prog 8 #[.agg #[.int .i64 kx, .string tx, .bool nx, .slice xo xn xc, .slice yo yn yc, .int .i64 ax, .slice po pn pc, .slice qo qn qc]] w _
  go_enter Tryz.func8, Tryz.ntmps8
  cases d1 : decide ((yn : Int) < 30) with
  | false =>
    go_wp2_with fail
    go_ret
    exact ⟨ret_bl (by rw [HV.out, d1]; rfl), HB1.out⟩
  | true =>
    cases d2 : decide ((pn : Int) < 600) with
    | false =>
      go_wp2_with fail
      go_ret
      exact ⟨ret_bl (by rw [HV.out, d1, d2]; rfl), HB1.out⟩
    | true =>
      go_wp2_with fail
      go_ret
      exact ⟨ret_bl (by rw [HV.out, d1, d2]; rfl), HB1.out⟩

end Go.Proofs.YtegengnffdlplaaGreatDoor
namespace Go.Proofs.YtegengnffdlplaaGreatDoor
open Go.RowKit

theorem atE_none0 (t : ByteArray) (b : Int) (m : List Int) : atE (fun _ => none) t b m = 0 := rfl
theorem fndE_is {D : Sx} (h : idB D = true) : fndE D = 0 := by unfold fndE; rw [h]; rfl
/-- A row of one. -/
theorem one_row (w : World) (e : TypeId) (u : Value) : (w.alloc (.cells #[u] e)).ownsRow w.heap.size e 1 (.slice (some ⟨w.heap.size, 0, none⟩) 1 1) 1 [u] := ⟨rfl, .inr ⟨w.heap.size, 1, #[u], rfl, Nat.le_refl _, heap_alloc_new w _, Nat.le_refl _, by unfold maxLen; omega, rfl, rfl⟩⟩
end Go.Proofs.YtegengnffdlplaaGreatDoor
namespace Go.Proofs.YtegengnffdlplaaGreatDoor
open Go.RowKit

theorem store64 (w : World) (g o : Nat) (x y : Int) (c : w.cell? ⟨g, o, none⟩ = some (.int .i64 x)) (z : w.frozen? ⟨g, o, none⟩ = false) :
    (callFunc 43 #[.pointer (some ⟨g, o, none⟩), .int .i64 y]).run Tryz.prog w = .ok (.value (.tuple #[])) (w.setCell ⟨g, o, none⟩ (.int .i64 y)) :=
  run_call_store Tryz.func43 (by kernel_rfl) (by kernel_rfl) (by kernel_rfl) (by kernel_rfl) c z
set_option maxRecDepth 100000 in
theorem astore_any (w : World) (g o : Nat) (x y : Int) (c : w.cell? ⟨g, o, none⟩ = some (.int .i64 x)) (z : w.frozen? ⟨g, o, none⟩ = false) :
    Calls Tryz.prog 30 #[.pointer (some ⟨g, o, none⟩), .int .i64 y] w fun e w' => e = .returned (.tuple #[]) ∧ w.setCell ⟨g, o, none⟩ (.int .i64 y) = w' := by
  have hd := store64 w g o x y c z
  clear c z
  go_enter Tryz.func30, Tryz.ntmps30
  go_wp2_with fail
  go_end0
  exact ⟨rfl, rfl⟩

set_option maxRecDepth 100000 in
theorem rfresh_any (w : World) (g : Nat) (ob : Option Nat) (R G : Nat) (tk : Ek → Option Int) (h : RbW w g ob R G tk) (hG : G ≤ 1000000) :
    Calls Tryz.prog 18 #[.pointer (some ⟨g, 0, none⟩)] w fun e w' => e = .returned (.int .i64 ((G + 1 : Nat) : Int)) ∧ RbW w' g ob R (G + 1) tk ∧ RK g ob w w' := by
  have H := Lib.hid h
  have HC := Lib.hid (aadd_any w g 1 (G : Nat) (by omega) (cell_heap h.box 1) (frozen_heap h.box 1))
  clear h
  go_enter Tryz.func18, Tryz.ntmps18
  go_wp2_with fail
  refine HC.out.mono ?_
  rintro e w' ⟨rfl, rfl⟩
  go_wp2_with fail
  go_ret
  exact ⟨rfl, H.out.set1 (G + 1) (by omega), RK.set _ _ _⟩
end Go.Proofs.YtegengnffdlplaaGreatDoor
