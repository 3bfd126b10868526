/- The looker as it lies in memory. No walk here. -/
import Derived.Test.YtimnhbndokfgnaaSmMap
namespace Go.Proofs.Ytimnhbndokfgnaa
open Go.RowKit

def visL (v : Vis) : List Value := [.int .i64 v.p.1.1, .int .i64 v.p.1.2, .int .i64 v.p.2.1, .int .i64 v.p.2.2, .int .i64 (v.n : Nat), .int .i64 (v.nx : Nat), .int .i64 (v.fu : Nat)]
def visLs (l : List Vis) : List Value := l.flatMap visL
theorem visLs_append (l m : List Vis) : visLs (l ++ m) = visLs l ++ visLs m := by simp [visLs]
theorem visLs_one (v : Vis) : visLs [v] = visL v := by simp [visLs]
theorem visLs_len (l : List Vis) : (visLs l).length = l.length * 7 := by
  induction l with
  | nil => rfl
  | cons x l ih => show (visL x ++ visLs l).length = _; rw [List.length_append, ih]; simp [visL]; omega
theorem visLs_last (l : List Vis) (v : Vis) (j : Nat) (hj : j < 7) : (visLs (l ++ [v]))[l.length * 7 + j]? = (visL v)[j]? := by
  rw [visLs_append, visLs_one, List.getElem?_append_right (by rw [visLs_len]; omega), visLs_len]
  congr 1
  omega
theorem visLs_set (l : List Vis) (v : Vis) (nx : Nat) : (visLs (l ++ [v])).set (l.length * 7 + 5) (.int .i64 (nx : Nat)) = visLs (l ++ [⟨v.p, v.n, nx, v.fu⟩]) := by
  rw [visLs_append, visLs_append, visLs_one, visLs_one, List.set_append_right _ _ (by rw [visLs_len]; omega), visLs_len]
  congr 1
  rw [show l.length * 7 + 5 - l.length * 7 = 5 by omega]
  rfl
theorem visLs_one' (l : List Vis) : ∀ u ∈ visLs l, u.oneCell' = true := by
  intro u hu
  unfold visLs at hu
  rw [List.mem_flatMap] at hu
  obtain ⟨x, _, hx⟩ := hu
  simp [visL] at hx
  rcases hx with rfl | rfl | rfl | rfl | rfl | rfl | rfl <;> rfl

/-- THE LOOKER in block lb, made since w0: its store, its fuel, what is open (the innermost first), what each took. -/
structure LkM (w0 w : World) (lb g : Nat) (R : Nat → Nat) (s : St) (f : Int) (ov : Value) (mb : Nat) (vs : List Vis) (tk : Pr → Option Int) : Prop where
  st : StW w g R s
  bel : Below w0.heap.size w0 w
  box : w.heap[lb]? = some (.cells #[.pointer (some ⟨g, 0, none⟩), .int .i64 f, ov, .map (some mb)] 122 (0, 0))
  lb0 : w0.heap.size ≤ lb
  lR : R lb = 0
  row : w.ownsRow w0.heap.size 149 7 ov vs.length (visLs vs.reverse)
  oR : ∀ b, ov.ownBlock = some b → R b = 0 ∧ b ≠ lb ∧ b ≠ mb
  mb0 : w0.heap.size ≤ mb
  mR : R mb = 0
  mne : mb ≠ lb
  map : MapT w mb tk
theorem LkM.lt {w0 w : World} {lb g : Nat} {R : Nat → Nat} {s : St} {f : Int} {ov : Value} {mb : Nat} {vs : List Vis} {tk : Pr → Option Int} (h : LkM w0 w lb g R s f ov mb vs tk) : lb < w.heap.size := (Array.getElem?_eq_some_iff.1 h.box).1
theorem LkM.mlt {w0 w : World} {lb g : Nat} {R : Nat → Nat} {s : St} {f : Int} {ov : Value} {mb : Nat} {vs : List Vis} {tk : Pr → Option Int} (h : LkM w0 w lb g R s f ov mb vs tk) : mb < w.heap.size := by obtain ⟨es, c, hb, _⟩ := h.map; exact (Array.getElem?_eq_some_iff.1 hb).1
theorem LkM.below {w0 w w' : World} {lb g : Nat} {R : Nat → Nat} {s : St} {f : Int} {ov : Value} {mb : Nat} {vs : List Vis} {tk : Pr → Option Int} (h : LkM w0 w lb g R s f ov mb vs tk) (hb : Below w.heap.size w w') : LkM w0 w' lb g R s f ov mb vs tk :=
  ⟨h.st.below hb, h.bel.trans (hb.mono h.bel.size), (hb.block lb h.lt).trans h.box, h.lb0, h.lR, ownsRow_keep h.row (Keeps.of_below (P := fun _ => True) hb) fun _ _ => trivial, h.oR, h.mb0, h.mR, h.mne, h.map.move (hb.block mb h.mlt)⟩
theorem LkM.cells {w0 w : World} {lb g : Nat} {R : Nat → Nat} {s : St} {f : Int} {ov : Value} {mb : Nat} {vs : List Vis} {tk : Pr → Option Int} (h : LkM w0 w lb g R s f ov mb vs tk) :
    (w.cell? ⟨lb, 0, none⟩ = some (.pointer (some ⟨g, 0, none⟩)) ∧ w.cell? ⟨lb, 1, none⟩ = some (.int .i64 f) ∧ w.cell? ⟨lb, 2, none⟩ = some ov ∧ w.cell? ⟨lb, 3, none⟩ = some (.map (some mb))) ∧ w.frozen? ⟨lb, 1, none⟩ = false ∧ w.frozen? ⟨lb, 2, none⟩ = false :=
  ⟨row4 h.box, frozen_heap h.box 1, frozen_heap h.box 2⟩
/-- Its fuel is set. -/
theorem LkM.fuel {w0 w : World} {lb g : Nat} {R : Nat → Nat} {s : St} {f : Int} {ov : Value} {mb : Nat} {vs : List Vis} {tk : Pr → Option Int} (h : LkM w0 w lb g R s f ov mb vs tk) (f' : Int) : LkM w0 (w.setCell ⟨lb, 1, none⟩ (.int .i64 f')) lb g R s f' ov mb vs tk := by
  have hk : Keeps (fun b => b ≠ lb) w (w.setCell ⟨lb, 1, none⟩ (.int .i64 f')) := (Keeps.refl _ _).set (p := ⟨lb, 1, none⟩) (fun h => h rfl) _
  refine ⟨h.st.keep (hk.mono fun b _ hb e => hb (e ▸ h.lR)), h.bel.setCell h.lb0 _, rowSet h.box 1 _, h.lb0, h.lR, ownsRow_keep h.row hk fun b hb => (h.oR b hb).2.1, h.oR, h.mb0, h.mR, h.mne, h.map.move (hk.2 mb h.mlt h.mne)⟩
/-- The innermost's next one is counted. -/
theorem LkM.next {w0 w : World} {lb g : Nat} {R : Nat → Nat} {s : St} {f : Int} {ov : Value} {mb : Nat} {v : Vis} {vs : List Vis} {tk : Pr → Option Int} (h : LkM w0 w lb g R s f ov mb (v :: vs) tk) (nx : Nat) {b : Nat} (hb : ov.ownBlock = some b) :
    LkM w0 (w.setCell ⟨b, vs.length * 7 + 5, none⟩ (.int .i64 (nx : Nat))) lb g R s f ov mb (⟨v.p, v.n, nx, v.fu⟩ :: vs) tk := by
  obtain ⟨hR, hl, hm⟩ := h.oR b hb
  have hk : Keeps (fun x => x ≠ b) w (w.setCell ⟨b, vs.length * 7 + 5, none⟩ (.int .i64 (nx : Nat))) := (Keeps.refl _ _).set (p := ⟨b, vs.length * 7 + 5, none⟩) (fun h => h rfl) _
  have hrow := h.row
  obtain ⟨ao, cap, rfl⟩ := own_dslice hrow
  obtain ⟨_, hr2⟩ := hrow
  rcases hr2 with ⟨_, h0⟩ | ⟨b2, cap2, cur, e, hge, _⟩
  · exact absurd h0 (by simp)
  rw [e] at hb
  obtain rfl : b2 = b := by injection hb
  have hrow2 := ownsRow_set (e ▸ h.row) (j := vs.length * 7 + 5) (by rw [visLs_len]; simp; omega) (.int .i64 (nx : Nat))
  rw [List.reverse_cons, show vs.length * 7 + 5 = vs.reverse.length * 7 + 5 by rw [List.length_reverse], visLs_set, List.length_reverse] at hrow2
  rw [e]
  exact ⟨h.st.keep (hk.mono fun x _ hx e => hx (e ▸ hR)), h.bel.setCell hge _, (hk.2 lb h.lt (Ne.symm hl)).trans (e ▸ h.box), h.lb0, h.lR, by rw [List.reverse_cons]; exact hrow2, fun x hx => h.oR x (by rw [e]; exact hx), h.mb0, h.mR, h.mne, h.map.move (hk.2 mb h.mlt (Ne.symm hm))⟩
/-- The innermost's cells. -/
theorem LkM.top {w0 w : World} {lb g : Nat} {R : Nat → Nat} {s : St} {f : Int} {ov : Value} {mb : Nat} {v : Vis} {vs : List Vis} {tk : Pr → Option Int} (h : LkM w0 w lb g R s f ov mb (v :: vs) tk) :
    ∃ b cap, ov = .slice (some ⟨b, 0, none⟩) (vs.length + 1) cap ∧ vs.length + 1 ≤ cap ∧ b < w.heap.size ∧ w.cell? ⟨b, vs.length * 7, none⟩ = some (.int .i64 v.p.1.1) ∧ w.cell? ⟨b, vs.length * 7 + 1, none⟩ = some (.int .i64 v.p.1.2) ∧ w.cell? ⟨b, vs.length * 7 + 2, none⟩ = some (.int .i64 v.p.2.1) ∧ w.cell? ⟨b, vs.length * 7 + 3, none⟩ = some (.int .i64 v.p.2.2) ∧
      w.cell? ⟨b, vs.length * 7 + 4, none⟩ = some (.int .i64 (v.n : Nat)) ∧ w.cell? ⟨b, vs.length * 7 + 5, none⟩ = some (.int .i64 (v.nx : Nat)) ∧ w.cell? ⟨b, vs.length * 7 + 6, none⟩ = some (.int .i64 (v.fu : Nat)) ∧ (∀ o, w.frozen? ⟨b, o, none⟩ = false) := by
  have ho := h.row
  rcases ho.2 with ⟨_, h0⟩ | ⟨b, cap, cur, e, _, hc, hn, _, _, ht⟩
  · simp at h0
  · have hcell := ho.cells (g := b) (by rw [e]; rfl)
    have hat : ∀ j, j < 7 → w.cell? ⟨b, vs.length * 7 + j, none⟩ = (visL v)[j]? := fun j hj => by
      have h1 := visLs_last vs.reverse v j hj
      rw [List.length_reverse, ← List.reverse_cons] at h1
      have h2 : (visL v)[j]? = some ((visL v)[j]'(by simp [visL]; exact hj)) := List.getElem?_eq_getElem _
      rw [h2] at h1 ⊢
      have := hcell _ _ h1
      rwa [Addr.add_mid, Nat.zero_add] at this
    exact ⟨b, cap, e, hn, (Array.getElem?_eq_some_iff.1 hc).1, hat 0 (by omega), hat 1 (by omega), hat 2 (by omega), hat 3 (by omega), hat 4 (by omega), hat 5 (by omega), hat 6 (by omega), fun o => frozen_heap hc o⟩
/-- One more is open. -/
theorem LkM.push {w0 w w1 : World} {lb g : Nat} {R : Nat → Nat} {s : St} {f : Int} {ov ov' : Value} {mb : Nat} {v : Vis} {vs : List Vis} {tk : Pr → Option Int} (h : LkM w0 w lb g R s f ov mb vs tk)
    (ho : w1.ownsRow w0.heap.size 149 7 ov' (vs.length + 1) (visLs vs.reverse ++ visL v)) (hg : w.grownBy w1 ov.ownBlock) (hm : MovedTo w ov ov') : LkM w0 (w1.setCell ⟨lb, 2, none⟩ ov') lb g R s f ov' mb (v :: vs) tk := by
  have hk1 : Keeps (fun b => R b ≠ 0 ∨ b = lb ∨ b = mb) w w1 := Keeps.of_grown hg fun b hb hn => by
    obtain ⟨h1, h2, h3⟩ := h.oR b hb
    rcases hn with hn | hn | hn
    · exact hn h1
    · exact h2 hn
    · exact h3 hn
  have hk2 : Keeps (fun b => b ≠ lb) w1 (w1.setCell ⟨lb, 2, none⟩ ov') := (Keeps.refl _ _).set (p := ⟨lb, 2, none⟩) (fun h => h rfl) _
  have hR' : ∀ b, ov'.ownBlock = some b → R b = 0 ∧ b ≠ lb ∧ b ≠ mb := fun b hb => by
    rcases hm with e | ⟨b2, e, hge⟩
    · exact h.oR b (e ▸ hb)
    · rw [e] at hb
      injection hb with hb
      subst hb
      refine ⟨Classical.byContradiction fun hn => ?_, fun e => ?_, fun e => ?_⟩
      · have := h.st.lt _ hn; omega
      · have := h.lt; omega
      · have := h.mlt; omega
  have hbel : Below w0.heap.size w0 w1 := h.bel.grown hg h.bel.size fun b hb => (h.row.lt b hb).1
  have hbox1 := (hk1.2 lb h.lt (.inr (.inl rfl))).trans h.box
  refine ⟨(h.st.keep (hk1.mono fun _ _ h => .inl h)).keep (hk2.mono fun b _ hb e => hb (e ▸ h.lR)), hbel.setCell h.lb0 _, rowSet hbox1 2 _, h.lb0, h.lR, ?_, hR', h.mb0, h.mR, h.mne, (h.map.move (hk1.2 mb h.mlt (.inr (.inr rfl)))).move (hk2.2 mb (Nat.lt_of_lt_of_le h.mlt hg.size) h.mne)⟩
  rw [List.reverse_cons, visLs_append, visLs_one]
  exact ownsRow_keep ho hk2 fun b hb => (hR' b hb).2.1
/-- The innermost is done. -/
theorem LkM.pop {w0 w : World} {lb g : Nat} {R : Nat → Nat} {s : St} {f : Int} {b cap : Nat} {mb : Nat} {v : Vis} {vs : List Vis} {tk : Pr → Option Int} (h : LkM w0 w lb g R s f (.slice (some ⟨b, 0, none⟩) (vs.length + 1) cap) mb (v :: vs) tk) :
    LkM w0 (w.setCell ⟨lb, 2, none⟩ (.slice (some ⟨b, 0, none⟩) vs.length cap)) lb g R s f (.slice (some ⟨b, 0, none⟩) vs.length cap) mb vs tk := by
  have hk : Keeps (fun b => b ≠ lb) w (w.setCell ⟨lb, 2, none⟩ (.slice (some ⟨b, 0, none⟩) vs.length cap)) := (Keeps.refl _ _).set (p := ⟨lb, 2, none⟩) (fun h => h rfl) _
  have ht := ownsRow_take h.row (k := vs.length) (by simp)
  rw [List.reverse_cons, visLs_append, List.take_left' (by rw [visLs_len, List.length_reverse])] at ht
  exact ⟨h.st.keep (hk.mono fun b _ hb e => hb (e ▸ h.lR)), h.bel.setCell h.lb0 _, rowSet h.box 2 _, h.lb0, h.lR, ownsRow_keep ht hk fun x hx => (h.oR x hx).2.1, fun x hx => h.oR x hx, h.mb0, h.mR, h.mne, h.map.move (hk.2 mb h.mlt h.mne)⟩
/-- The map is written. -/
theorem LkM.mapped {w0 w w' : World} {lb g : Nat} {R : Nat → Nat} {s : St} {f : Int} {ov : Value} {mb : Nat} {vs : List Vis} {tk tk' : Pr → Option Int} (h : LkM w0 w lb g R s f ov mb vs tk) (hk : Keeps (fun b => b ≠ mb) w w') (hos : w'.os = w.os) (hta : w'.tape = w.tape) (hou : w'.output = w.output) (hm : MapT w' mb tk') : LkM w0 w' lb g R s f ov mb vs tk' :=
  ⟨h.st.keep (hk.mono fun b _ hb e => hb (e ▸ h.mR)), ⟨hos.trans h.bel.os, hta.trans h.bel.tape, hou.trans h.bel.output, Nat.le_trans h.bel.size hk.1, fun b hb => (hk.2 b (Nat.lt_of_lt_of_le hb h.bel.size) (fun e => by have := h.mb0; omega)).trans (h.bel.block b hb)⟩, (hk.2 lb h.lt (Ne.symm h.mne)).trans h.box, h.lb0, h.lR, ownsRow_keep h.row hk fun b hb => (h.oR b hb).2.2, h.oR, h.mb0, h.mR, h.mne, hm⟩
end Go.Proofs.Ytimnhbndokfgnaa
