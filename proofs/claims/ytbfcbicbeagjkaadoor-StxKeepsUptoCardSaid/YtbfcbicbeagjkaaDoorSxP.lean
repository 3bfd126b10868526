/- A piece of syntax whose rows lie in blocks of a kind; what Own answers. No walk here. -/
import Derived.Test.YtbfcbicbeagjkaaDoorSxLight
namespace Go.Proofs.YtbfcbicbeagjkaaDoor
open Go.RowKit

/-- The eight cells of a piece, and all behind them, whose rows lie in blocks of P. -/
inductive SLayP (P : Nat → Prop) (w : World) : Sx → List Value → Prop
  | mk {k : Int} {t : ByteArray} {n : Bool} {r : List Nat} {l : List Sx} {a : Int} {m s : List Int} {lv av mv sv : Value} {us : List Value} (ht : t.size ≤ maxLen) (hlim : ∀ x ∈ r, x < 4294967296) (hr : RowV w lv r.length 1 (ucs r)) (hrp : InP P r.length lv) (hrow : RowV w av l.length 8 us) (hap : InP P l.length av) (hm : RowV w mv m.length 1 (ics .i64 m)) (hmp : InP P m.length mv) (hs : RowV w sv s.length 1 (ics .i64 s)) (hsp : InP P s.length sv)
      (hin : ∀ (i : Nat) (h : i < l.length), SLayP P w (l[i]'h) ((us.drop (i * 8)).take 8)) : SLayP P w (.mk k t n r l a m s) [.int .i64 k, .string t, .bool n, lv, av, .int .i64 a, mv, sv]
theorem SLayP.lay {P : Nat → Prop} {w : World} {d : Sx} {us : List Value} (h : SLayP P w d us) : SLay w d us := by
  induction h with
  | mk ht hlim hr hrp hrow hap hm hmp hs hsp hin ih => exact .mk ht hlim hr hrow hm hs ih
theorem SLay.layP {w : World} {d : Sx} {us : List Value} (h : SLay w d us) : SLayP (fun b => b < w.heap.size) w d us := by
  induction h with
  | mk ht hlim hr hrow hm hs hin ih => exact .mk ht hlim hr (fun b h1 h2 => hr.lt b h1 h2) hrow (fun b h1 h2 => hrow.lt b h1 h2) hm (fun b h1 h2 => hm.lt b h1 h2) hs (fun b h1 h2 => hs.lt b h1 h2) ih
theorem SLayP.mono {P Q : Nat → Prop} {w : World} {d : Sx} {us : List Value} (h : SLayP P w d us) (hq : ∀ b, b < w.heap.size → P b → Q b) : SLayP Q w d us := by
  induction h with
  | mk ht hlim hr hrp hrow hap hm hmp hs hsp hin ih => exact .mk ht hlim hr (hrp.mono hr.lt hq) hrow (hap.mono hrow.lt hq) hm (hmp.mono hm.lt hq) hs (hsp.mono hs.lt hq) ih
theorem SLayP.move {P : Nat → Prop} {w w' : World} (hk : Keeps P w w') {d : Sx} {us : List Value} (h : SLayP P w d us) : SLayP P w' d us := by
  induction h with
  | mk ht hlim hr hrp hrow hap hm hmp hs hsp hin ih => exact .mk ht hlim (hr.move hrp hk) hrp (hrow.move hap hk) hap (hm.move hmp hk) hmp (hs.move hsp hk) hsp ih
theorem SLayP.len {P : Nat → Prop} {w : World} {d : Sx} {us : List Value} (h : SLayP P w d us) : us.length = 8 := by cases h; rfl
/-- A row of pieces that is owned: its cells, and the pieces in them. -/
structure SxRow (P : Nat → Prop) (w : World) (l : List Sx) (us : List Value) : Prop where
  len : us.length = l.length * 8
  each : ∀ (i : Nat) (h : i < l.length), SLayP P w (l[i]'h) ((us.drop (i * 8)).take 8)
theorem SxRow.nil (P : Nat → Prop) (w : World) : SxRow P w [] [] := ⟨rfl, fun i h => by simp at h⟩
theorem SxRow.snoc {P : Nat → Prop} {w : World} {l : List Sx} {us : List Value} (h : SxRow P w l us) {d : Sx} {cs : List Value} (hd : SLayP P w d cs) : SxRow P w (l ++ [d]) (us ++ cs) := by
  have hc := hd.len
  have hl := h.len
  refine ⟨by simp [hl, hc]; omega, fun i hi => ?_⟩
  simp only [List.length_append, List.length_singleton] at hi
  rcases Nat.lt_or_ge i l.length with hin | hin
  · have e1 : ((us ++ cs).drop (i * 8)).take 8 = (us.drop (i * 8)).take 8 := by
      rw [List.drop_append_of_le_length (by omega), List.take_append_of_le_length (by rw [List.length_drop]; omega)]
    have e2 : (l ++ [d])[i] = l[i]'(by omega) := List.getElem_append_left (by omega)
    rw [e1, e2]
    exact h.each i hin
  · obtain rfl : i = l.length := by omega
    have e1 : ((us ++ cs).drop (l.length * 8)).take 8 = cs := by
      rw [List.drop_append_of_le_length (by omega), List.drop_of_length_le (by omega), List.nil_append, List.take_of_length_le (by omega)]
    have e2 : (l ++ [d])[l.length]'(by simp) = d := by
      rw [List.getElem_append_right (by omega)]
      simp
    rw [e1, e2]
    exact hd
theorem SxRow.move {P : Nat → Prop} {w w' : World} (hk : Keeps P w w') {l : List Sx} {us : List Value} (h : SxRow P w l us) : SxRow P w' l us := ⟨h.len, fun i hi => (h.each i hi).move hk⟩
theorem SxRow.mono {P Q : Nat → Prop} {w : World} {l : List Sx} {us : List Value} (h : SxRow P w l us) (hq : ∀ b, b < w.heap.size → P b → Q b) : SxRow Q w l us := ⟨h.len, fun i hi => (h.each i hi).mono hq⟩
theorem SxRow.take {P : Nat → Prop} {w : World} {l : List Sx} {us : List Value} (h : SxRow P w l us) (k : Nat) (hk : k ≤ l.length) : SxRow P w (l.take k) (us.take (k * 8)) := by
  have hl := h.len
  refine ⟨by rw [List.length_take, List.length_take, Nat.min_eq_left (by omega), Nat.min_eq_left hk], fun i hi => ?_⟩
  have hi2 : i < k := by simp at hi; omega
  have e1 : ((us.take (k * 8)).drop (i * 8)).take 8 = (us.drop (i * 8)).take 8 := by
    rw [List.drop_take, List.take_take, Nat.min_eq_left (by omega)]
  rw [e1, List.getElem_take]
  exact h.each i (by omega)
theorem SxRow.append {P : Nat → Prop} {w : World} {l m : List Sx} {us vs : List Value} (h : SxRow P w l us) (h' : SxRow P w m vs) : SxRow P w (l ++ m) (us ++ vs) := by
  have hl := h.len
  have hl' := h'.len
  refine ⟨by simp [hl, hl']; omega, fun i hi => ?_⟩
  simp only [List.length_append] at hi
  rcases Nat.lt_or_ge i l.length with hin | hin
  · have e1 : ((us ++ vs).drop (i * 8)).take 8 = (us.drop (i * 8)).take 8 := by
      rw [List.drop_append_of_le_length (by omega), List.take_append_of_le_length (by rw [List.length_drop]; omega)]
    have e2 : (l ++ m)[i] = l[i]'(by omega) := List.getElem_append_left (by omega)
    rw [e1, e2]
    exact h.each i hin
  · have e1 : ((us ++ vs).drop (i * 8)).take 8 = (vs.drop ((i - l.length) * 8)).take 8 := by
      rw [List.drop_append, List.drop_of_length_le (by omega), List.nil_append]
      congr 2
      omega
    have e2 : (l ++ m)[i] = m[i - l.length]'(by omega) := List.getElem_append_right (by omega)
    rw [e1, e2]
    exact h'.each _ (by omega)
/-- A piece's rows. -/
theorem SLayP.row {P : Nat → Prop} {w : World} {k : Int} {t : ByteArray} {n : Bool} {r : List Nat} {l : List Sx} {a : Int} {m s : List Int} {us : List Value} (h : SLayP P w (.mk k t n r l a m s) us) :
    ∃ lv av mv sv vs, us = [.int .i64 k, .string t, .bool n, lv, av, .int .i64 a, mv, sv] ∧ t.size ≤ maxLen ∧ (∀ x ∈ r, x < 4294967296) ∧ RowV w lv r.length 1 (ucs r) ∧ InP P r.length lv ∧ RowV w av l.length 8 vs ∧ InP P l.length av ∧ RowV w mv m.length 1 (ics .i64 m) ∧ InP P m.length mv ∧ RowV w sv s.length 1 (ics .i64 s) ∧ InP P s.length sv ∧ SxRow P w l vs := by
  cases h with
  | mk ht hlim hr hrp hrow hap hm hmp hs hsp hin => exact ⟨_, _, _, _, _, rfl, ht, hlim, hr, hrp, hrow, hap, hm, hmp, hs, hsp, ⟨hrow.1, hin⟩⟩
theorem infoSx : (Tryd.prog.info? 28).map (fun i => (i.zero, i.size, i.bytes)) = some (some (.agg #[.int .i64 0, .string ⟨#[]⟩, .bool false, .slice none 0 0, .slice none 0 0, .int .i64 0, .slice none 0 0, .slice none 0 0]), 8, 136) := by kernel_rfl
/-- A row of pieces, and one more behind it. -/
theorem SxRow.appended {P : Nat → Prop} {w w' : World} {v v' : Value} {l : List Sx} {us : List Value} {d : Sx} {cs : List Value} (h : SxRow (fun b => P b ∧ v.ownBlock ≠ some b) w l us) (hd : SLayP (fun b => P b ∧ v.ownBlock ≠ some b) w d cs) (hg : w.grownBy w' v.ownBlock) (hm : MovedTo w v v') :
    SxRow (fun b => P b ∧ v'.ownBlock ≠ some b) w' (l ++ [d]) (us ++ cs) := by
  have hk : Keeps (fun b => P b ∧ v.ownBlock ≠ some b) w w' := (Keeps.of_grown (P := fun b => v.ownBlock ≠ some b) hg fun g e hn => hn e).mono fun b _ h => h.2
  have hs := hg.size
  have hq : ∀ b, b < w.heap.size → (P b ∧ v.ownBlock ≠ some b) → (P b ∧ v.ownBlock ≠ some b) ∧ v'.ownBlock ≠ some b := fun b hb hp => ⟨hp, fun e => by
    rcases hm with e2 | ⟨b2, e2, hge⟩
    · rw [e2] at e; exact hp.2 e
    · rw [e2] at e; injection e with e; omega⟩
  have hk2 : Keeps (fun b => (P b ∧ v.ownBlock ≠ some b) ∧ v'.ownBlock ≠ some b) w w' := hk.mono fun b _ h => h.1
  have h2 := ((h.mono hq).move hk2).snoc ((hd.mono hq).move hk2)
  exact h2.mono fun b _ hp => ⟨hp.1.1, hp.2⟩
theorem one_cellsS {w : World} {P : Nat → Prop} {d : Sx} {us : List Value} (h : SLayP P w d us) : ∀ u ∈ us, u.oneCell' = true := by
  obtain ⟨k, t, n, r, l, a, m, s⟩ := d
  obtain ⟨lv, av, mv, sv, vs, rfl, _, _, ⟨_, _, _, _, rfl, _⟩, _, ⟨_, _, _, _, rfl, _⟩, _, ⟨_, _, _, _, rfl, _⟩, _, ⟨_, _, _, _, rfl, _⟩, _⟩ := h.row
  intro u hu
  simp at hu
  rcases hu with rfl | rfl | rfl | rfl | rfl | rfl | rfl | rfl <;> rfl
theorem sx_cells8 {w : World} {P : Nat → Prop} {d : Sx} {us : List Value} (h : SLayP P w d us) : ∃ u0 u1 u2 u3 u4 u5 u6 u7, us = [u0, u1, u2, u3, u4, u5, u6, u7] := by
  have := h.len
  match us, this with
  | [u0, u1, u2, u3, u4, u5, u6, u7], _ => exact ⟨u0, u1, u2, u3, u4, u5, u6, u7, rfl⟩

/-- What Own answers. -/
def OwnSPost (D : Sx) (w : World) (e : Ending) (w' : World) : Prop := ∃ us, e = .returned (.agg us.toArray) ∧ SLayP (fun b => w.heap.size ≤ b) w' D us ∧ Below w.heap.size w w'
/-- Its box, and the other one. -/
structure OwS (w : World) (g : Nat) (k : Int) (t : ByteArray) (n : Bool) (lv av : Value) (a : Int) (mv sv : Value) : Prop where
  r0 : w.heap[g]? = some (.cells #[.int .i64 k, .string t, .bool n, lv, av, .int .i64 a, mv, sv] 28 (0, 0))
  r1 : w.heap[g + 1]? = some (.cells #[.int .i64 0, .string ⟨#[]⟩, .bool false, .slice none 0 0, .slice none 0 0, .int .i64 0, .slice none 0 0, .slice none 0 0] 28 (0, 0))
theorem OwS.setL {w : World} {g : Nat} {k : Int} {t : ByteArray} {n : Bool} {lv av : Value} {a : Int} {mv sv : Value} (h : OwS w g k t n lv av a mv sv) (u : Value) : OwS (w.setCell ⟨g, 3, none⟩ u) g k t n u av a mv sv := by
  refine ⟨?_, (Below.heap_setCell _ _ _ _ (by simp)).trans h.r1⟩
  simp only [World.setCell, Array.getElem?_modify, if_true, h.r0]
  rfl
theorem OwS.setA {w : World} {g : Nat} {k : Int} {t : ByteArray} {n : Bool} {lv av : Value} {a : Int} {mv sv : Value} (h : OwS w g k t n lv av a mv sv) (u : Value) : OwS (w.setCell ⟨g, 4, none⟩ u) g k t n lv u a mv sv := by
  refine ⟨?_, (Below.heap_setCell _ _ _ _ (by simp)).trans h.r1⟩
  simp only [World.setCell, Array.getElem?_modify, if_true, h.r0]
  rfl
theorem OwS.setM {w : World} {g : Nat} {k : Int} {t : ByteArray} {n : Bool} {lv av : Value} {a : Int} {mv sv : Value} (h : OwS w g k t n lv av a mv sv) (u : Value) : OwS (w.setCell ⟨g, 6, none⟩ u) g k t n lv av a u sv := by
  refine ⟨?_, (Below.heap_setCell _ _ _ _ (by simp)).trans h.r1⟩
  simp only [World.setCell, Array.getElem?_modify, if_true, h.r0]
  rfl
theorem OwS.setS {w : World} {g : Nat} {k : Int} {t : ByteArray} {n : Bool} {lv av : Value} {a : Int} {mv sv : Value} (h : OwS w g k t n lv av a mv sv) (u : Value) : OwS (w.setCell ⟨g, 7, none⟩ u) g k t n lv av a mv u := by
  refine ⟨?_, (Below.heap_setCell _ _ _ _ (by simp)).trans h.r1⟩
  simp only [World.setCell, Array.getElem?_modify, if_true, h.r0]
  rfl
theorem OwS.below {w w' : World} {g : Nat} {k : Int} {t : ByteArray} {n : Bool} {lv av : Value} {a : Int} {mv sv : Value} (h : OwS w g k t n lv av a mv sv) (hb : Below (g + 2) w w') : OwS w' g k t n lv av a mv sv := ⟨(hb.block g (by omega)).trans h.r0, (hb.block (g + 1) (by omega)).trans h.r1⟩
/-- One piece, laid as a row. -/
theorem rowS1 (w : World) (cs : List Value) (h : cs.length = 8) : RowV (w.alloc (.cells cs.toArray 28)) (.slice (some ⟨w.heap.size, 0, none⟩) 1 1) 1 8 cs := by
  refine ⟨by omega, by unfold maxLen; omega, some ⟨w.heap.size, 0, none⟩, 1, rfl, Nat.le_refl _, .inr ⟨w.heap.size, 0, rfl, by simp, fun j u hu => ?_⟩⟩
  rw [cell_of_row _ w.heap.size (0 + j) _ _ (0, 0) (heap_alloc_new w _), Nat.zero_add]
  simpa using hu
theorem setS0 {W : World} {g : Nat} {b0 b1 b2 b3 b4 b5 b6 b7 : Value} {e : TypeId} (h : W.heap[g]? = some (.cells #[b0, b1, b2, b3, b4, b5, b6, b7] e (0, 0))) (u : Value) : (W.setCell ⟨g, 0, none⟩ u).heap[g]? = some (.cells #[u, b1, b2, b3, b4, b5, b6, b7] e (0, 0)) := by
  simp only [World.setCell, Array.getElem?_modify, if_true, h]
  rfl
theorem setS1 {W : World} {g : Nat} {b0 b1 b2 b3 b4 b5 b6 b7 : Value} {e : TypeId} (h : W.heap[g]? = some (.cells #[b0, b1, b2, b3, b4, b5, b6, b7] e (0, 0))) (u : Value) : (W.setCell ⟨g, 1, none⟩ u).heap[g]? = some (.cells #[b0, u, b2, b3, b4, b5, b6, b7] e (0, 0)) := by
  simp only [World.setCell, Array.getElem?_modify, if_true, h]
  rfl
theorem setS2 {W : World} {g : Nat} {b0 b1 b2 b3 b4 b5 b6 b7 : Value} {e : TypeId} (h : W.heap[g]? = some (.cells #[b0, b1, b2, b3, b4, b5, b6, b7] e (0, 0))) (u : Value) : (W.setCell ⟨g, 2, none⟩ u).heap[g]? = some (.cells #[b0, b1, u, b3, b4, b5, b6, b7] e (0, 0)) := by
  simp only [World.setCell, Array.getElem?_modify, if_true, h]
  rfl
theorem setS3 {W : World} {g : Nat} {b0 b1 b2 b3 b4 b5 b6 b7 : Value} {e : TypeId} (h : W.heap[g]? = some (.cells #[b0, b1, b2, b3, b4, b5, b6, b7] e (0, 0))) (u : Value) : (W.setCell ⟨g, 3, none⟩ u).heap[g]? = some (.cells #[b0, b1, b2, u, b4, b5, b6, b7] e (0, 0)) := by
  simp only [World.setCell, Array.getElem?_modify, if_true, h]
  rfl
theorem setS4 {W : World} {g : Nat} {b0 b1 b2 b3 b4 b5 b6 b7 : Value} {e : TypeId} (h : W.heap[g]? = some (.cells #[b0, b1, b2, b3, b4, b5, b6, b7] e (0, 0))) (u : Value) : (W.setCell ⟨g, 4, none⟩ u).heap[g]? = some (.cells #[b0, b1, b2, b3, u, b5, b6, b7] e (0, 0)) := by
  simp only [World.setCell, Array.getElem?_modify, if_true, h]
  rfl
theorem setS5 {W : World} {g : Nat} {b0 b1 b2 b3 b4 b5 b6 b7 : Value} {e : TypeId} (h : W.heap[g]? = some (.cells #[b0, b1, b2, b3, b4, b5, b6, b7] e (0, 0))) (u : Value) : (W.setCell ⟨g, 5, none⟩ u).heap[g]? = some (.cells #[b0, b1, b2, b3, b4, u, b6, b7] e (0, 0)) := by
  simp only [World.setCell, Array.getElem?_modify, if_true, h]
  rfl
theorem setS6 {W : World} {g : Nat} {b0 b1 b2 b3 b4 b5 b6 b7 : Value} {e : TypeId} (h : W.heap[g]? = some (.cells #[b0, b1, b2, b3, b4, b5, b6, b7] e (0, 0))) (u : Value) : (W.setCell ⟨g, 6, none⟩ u).heap[g]? = some (.cells #[b0, b1, b2, b3, b4, b5, u, b7] e (0, 0)) := by
  simp only [World.setCell, Array.getElem?_modify, if_true, h]
  rfl
theorem setS7 {W : World} {g : Nat} {b0 b1 b2 b3 b4 b5 b6 b7 : Value} {e : TypeId} (h : W.heap[g]? = some (.cells #[b0, b1, b2, b3, b4, b5, b6, b7] e (0, 0))) (u : Value) : (W.setCell ⟨g, 7, none⟩ u).heap[g]? = some (.cells #[b0, b1, b2, b3, b4, b5, b6, u] e (0, 0)) := by
  simp only [World.setCell, Array.getElem?_modify, if_true, h]
  rfl
/-- A piece stored into its box. -/
theorem fillS {W : World} {g : Nat} {b0 b1 b2 b3 b4 b5 b6 b7 : Value} {e : TypeId} (h : W.heap[g]? = some (.cells #[b0, b1, b2, b3, b4, b5, b6, b7] e (0, 0))) (a0 a1 a2 a3 a4 a5 a6 a7 : Value) :
    ((((((((W.setCell ⟨g, 0, none⟩ a0).setCell ⟨g, 1, none⟩ a1).setCell ⟨g, 2, none⟩ a2).setCell ⟨g, 3, none⟩ a3).setCell ⟨g, 4, none⟩ a4).setCell ⟨g, 5, none⟩ a5).setCell ⟨g, 6, none⟩ a6).setCell ⟨g, 7, none⟩ a7).heap[g]? = some (.cells #[a0, a1, a2, a3, a4, a5, a6, a7] e (0, 0)) :=
  setS7 (setS6 (setS5 (setS4 (setS3 (setS2 (setS1 (setS0 h a0) a1) a2) a3) a4) a5) a6) a7
end Go.Proofs.YtbfcbicbeagjkaaDoor
