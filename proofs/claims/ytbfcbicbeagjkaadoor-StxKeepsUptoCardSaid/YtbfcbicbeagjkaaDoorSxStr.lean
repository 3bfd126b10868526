/- The document's soundWrap, SoundWrap. | The document's Join. | ref09.flat, Sound, Ident: the document's answer to which pieces may be. | ref09.Sound, Ident. | Strip, of the program and of the document; Compound. -/
import Derived.Test.YtbfcbicbeagjkaaDoorWpSnd
import Derived.Test.YtbfcbicbeagjkaaDoorWpCat
import Derived.Test.YtbfcbicbeagjkaaDoorSxBare
import Derived.Test.YtbfcbicbeagjkaaDoorSxJn
namespace Go.Proofs.YtbfcbicbeagjkaaDoor
open Go.RowKit

/-- A slice of ints that is read by index, in any world that keeps what was there. -/
theorem Iz.row {w : World} {v : Value} {zs : List Int} (h : Iz w v zs) : zs.length ≤ maxLen ∧ ∃ ao cap, v = .slice ao zs.length cap ∧ zs.length ≤ cap ∧ (zs = [] ∨ ∃ b off, ao = some ⟨b, off, none⟩ ∧ b < w.heap.size ∧ ∀ j, j < zs.length → w.cell? ⟨b, off + j, none⟩ = some (.int .i64 (gz zs j))) := by
  obtain ⟨hm, ao, cap, hv, hc, hr⟩ := h.cases
  refine ⟨hm, ao, cap, hv, hc, ?_⟩
  rcases hr with ⟨h0, _⟩ | h0
  · exact .inl h0
  · exact .inr h0
/-- In one form for empty ones, too. -/
theorem Iz.read {w : World} {v : Value} {zs : List Int} (h : Iz w v zs) : zs.length ≤ maxLen ∧ ∃ ao cap, v = .slice ao zs.length cap ∧ zs.length ≤ cap ∧ ∀ j, j < zs.length → ∃ b off, ao = some ⟨b, off, none⟩ ∧ b < w.heap.size ∧ w.cell? ⟨b, off + j, none⟩ = some (.int .i64 (gz zs j)) := by
  obtain ⟨hm, ao, cap, hv, hc, hr⟩ := h.row
  refine ⟨hm, ao, cap, hv, hc, fun j hj => ?_⟩
  rcases hr with h0 | ⟨b, off, h1, h2, h3⟩
  · rw [h0] at hj; simp at hj
  · exact ⟨b, off, h1, h2, h3 j hj⟩

end Go.Proofs.YtbfcbicbeagjkaaDoor
namespace Go.Proofs.YtbfcbicbeagjkaaDoor
open Go.RowKit

/-- Not in the old blocks. -/
def Nw (B : Nat) (v : Value) : Prop := ∀ b, v.ownBlock = some b → B ≤ b
theorem Nw.nil (B : Nat) : Nw B (.slice none 0 0) := fun b h => by cases h
end Go.Proofs.YtbfcbicbeagjkaaDoor
namespace Go.Proofs.YtbfcbicbeagjkaaDoor
open Go.RowKit

/-- A piece in the making: its box in block g, so many of its list's pieces behind one another. -/
structure SxS (Q : Nat → Prop) (B0 g : Nat) (w0 : World) (ls : List Sx) (v : Value) (j : Nat) (us : List Value) (W : World) : Prop where
  own : W.ownsRow (g + 1) 28 8 v j us
  row : SxRow (fun b => (Q b ∧ b ≠ g) ∧ v.ownBlock ≠ some b) W (ls.take j) us
  bel : Below B0 w0 W
  lt : g < W.heap.size
  le : B0 ≤ g
theorem SxS.below {Q : Nat → Prop} {B0 g : Nat} {w0 : World} {ls : List Sx} {v : Value} {j : Nat} {us : List Value} {W W' : World} (h : SxS Q B0 g w0 ls v j us W) (hb : Below W.heap.size W W') : SxS Q B0 g w0 ls v j us W' :=
  ⟨ownsRow_keep h.own (Keeps.of_below (P := fun _ => True) hb) fun _ _ => trivial, h.row.move (Keeps.of_below hb), h.bel.trans (hb.mono (by have := h.le; have := h.lt; omega)), Nat.lt_of_lt_of_le h.lt hb.size, h.le⟩
theorem SxS.far {Q : Nat → Prop} {B0 g : Nat} {w0 : World} {ls : List Sx} {v : Value} {j : Nat} {us : List Value} {W : World} (h : SxS Q B0 g w0 ls v j us W) : ∀ b, v.ownBlock = some b → b ≠ g := fun b hb e => by have := (h.own.lt b hb).1; omega
theorem SxS.appended {Q : Nat → Prop} {B0 g : Nat} {w0 : World} {ls : List Sx} {v v' : Value} {j : Nat} {us cs : List Value} {Wr W W' : World} (h : SxS Q B0 g w0 ls v j us Wr) (hb : Below Wr.heap.size Wr W) {d : Sx} (hd : ls[j]? = some d) (hl : SLayP (fun b => (Q b ∧ b ≠ g) ∧ v.ownBlock ≠ some b) W d cs)
    (hown : W'.ownsRow (g + 1) 28 8 v' (j + 1) (us ++ cs)) (hgrow : W.grownBy W' v.ownBlock) (hm : MovedTo W v v') : SxS Q B0 g w0 ls v' (j + 1) (us ++ cs) W' := by
  have h1 := h.below hb
  have hlt := h.lt
  have hle := h.le
  have hr := h1.row.appended hl hgrow hm
  refine ⟨hown, ?_, h1.bel.grown hgrow (by have := h1.lt; omega) (fun q hq => by have := (h1.own.lt q hq).1; omega), Nat.lt_of_lt_of_le h1.lt hgrow.size, hle⟩
  rw [List.take_add_one, hd]; exact hr
theorem SxS.store {Q : Nat → Prop} {B0 g : Nat} {w0 : World} {ls : List Sx} {v : Value} {j : Nat} {us : List Value} {W : World} (h : SxS Q B0 g w0 ls v j us W) (o : Nat) (u : Value) : SxS Q B0 g w0 ls v j us (W.setCell ⟨g, o, none⟩ u) := by
  have hk : Keeps (fun b => (Q b ∧ b ≠ g) ∧ v.ownBlock ≠ some b) W (W.setCell ⟨g, o, none⟩ u) := (Keeps.refl _ W).set (p := ⟨g, o, none⟩) (fun hp => hp.1.2 rfl) u
  exact ⟨ownsRow_keep h.own ((Keeps.refl (fun b => b ≠ g) W).set (p := ⟨g, o, none⟩) (fun hp => hp rfl) u) h.far, h.row.move hk, h.bel.setCell (p := ⟨g, o, none⟩) h.le u, by have := h.lt; simpa using this, h.le⟩
end Go.Proofs.YtbfcbicbeagjkaaDoor
namespace Go.Proofs.YtbfcbicbeagjkaaDoor
open Go.RowKit

end Go.Proofs.YtbfcbicbeagjkaaDoor
namespace Go.Proofs.YtbfcbicbeagjkaaDoor
open Go.RowKit

/-- Is it a List, a Dotted or a Vector? -/
def cpdB (k : Int) : Bool := decide (1 ≤ k ∧ k ≤ 3)
set_option maxRecDepth 100000 in
/-- stx.Compound. -/
theorem compound_any (kx : Int) (tx : ByteArray) (nx : Bool) (xo : Option Addr) (xn xc : Nat) (yo : Option Addr) (yn yc : Nat) (ax : Int) (po : Option Addr) (pn pc : Nat) (qo : Option Addr) (qn qc : Nat) (w : World) :
    Calls Tryd.prog 22 #[.agg #[.int .i64 kx, .string tx, .bool nx, .slice xo xn xc, .slice yo yn yc, .int .i64 ax, .slice po pn pc, .slice qo qn qc]] w fun e w' => e = .returned (.bool (cpdB kx)) ∧ Below w.heap.size w w' := by
  have HB1 := Lib.hid (below1 w (.cells #[.int .i64 kx, .string tx, .bool nx, .slice xo xn xc, .slice yo yn yc, .int .i64 ax, .slice po pn pc, .slice qo qn qc] 28))
  obtain ⟨c0, c1, c2, c3, c4, c5, c6, c7⟩ := rowS8 (heap_alloc_new w (.cells #[.int .i64 kx, .string tx, .bool nx, .slice xo xn xc, .slice yo yn yc, .int .i64 ax, .slice po pn pc, .slice qo qn qc] 28))
  by_cases h1 : kx = 1
  · subst h1
    go_enter Tryd.func22, Tryd.ntmps22
    go_wp2_with fail
    go_ret
    exact ⟨ret_bl (by decide), HB1.out⟩
  · have d1 : (kx == 1) = false := by simpa using h1
    by_cases h2 : kx = 2
    · subst h2
      go_enter Tryd.func22, Tryd.ntmps22
      go_wp2_with fail
      go_ret
      exact ⟨ret_bl (by decide), HB1.out⟩
    · have d2 : (kx == 2) = false := by simpa using h2
      have HV : Hid (cpdB kx = (kx == 3)) := Lib.hid (by
        unfold cpdB
        rw [Bool.eq_iff_iff]
        simp
        omega)
      clear h1 h2
      go_enter Tryd.func22, Tryd.ntmps22
      go_wp2_with fail
      go_ret
      exact ⟨ret_bl HV.out.symm, HB1.out⟩
end Go.Proofs.YtbfcbicbeagjkaaDoor
