/- Datums: what they are, and how they lie in memory. No walk here. | Datums whose blocks are known: what stays of them when other blocks change. No walk here. -/
import Derived.Test.YtbfcbicbeagjkaaDoorTkMath
import Derived.Test.YtbfcbicbeagjkaaDoorMem
import Derived.Laws.AppendOwn
import Derived.Laws.AppendOwnNone
import Derived.Deep.MidRow
namespace Go.Proofs.YtbfcbicbeagjkaaDoor
open Go.RowKit

/-- A datum: kind, text, number's sign and limbs, what stands in it, where it stands. -/
inductive Dm where
  | mk (k : Int) (t : List Nat) (n : Bool) (r : List Nat) (l : List Dm) (a : Int)
def Dm.k : Dm → Int | .mk k _ _ _ _ _ => k
def Dm.t : Dm → List Nat | .mk _ t _ _ _ _ => t
def Dm.n : Dm → Bool | .mk _ _ n _ _ _ => n
def Dm.r : Dm → List Nat | .mk _ _ _ r _ _ => r
def Dm.l : Dm → List Dm | .mk _ _ _ _ l _ => l
def Dm.a : Dm → Int | .mk _ _ _ _ _ a => a
/-- How many datums it is, and is in it. -/
def Dm.sz : Dm → Nat
  | .mk _ _ _ _ l _ => 1 + (l.attach.map fun ⟨d, _⟩ => Dm.sz d).sum
theorem Dm.sz_eq (d : Dm) : d.sz = 1 + (d.l.map Dm.sz).sum := by
  cases d with
  | mk k t n r l a =>
    unfold Dm.sz
    show _ = 1 + (l.map Dm.sz).sum
    rw [List.attach_map_val (l := l) (f := Dm.sz)]
theorem Dm.sz_mem {d x : Dm} (h : x ∈ d.l) : x.sz < d.sz := by
  rw [Dm.sz_eq d]
  have key : ∀ l : List Dm, x ∈ l → x.sz ≤ (l.map Dm.sz).sum := by
    intro l
    induction l with
    | nil => intro h; cases h
    | cons y l ih =>
      intro h
      rw [List.map_cons, List.sum_cons]
      rcases List.mem_cons.1 h with rfl | h
      · omega
      · have := ih h; omega
  have := key _ h
  omega

/-- The six cells of a datum, and all behind them. -/
inductive Lay (w : World) : Dm → List Value → Prop
  | mk {k : Int} {t : List Nat} {n : Bool} {r : List Nat} {l : List Dm} {a : Int} {lv av : Value} {us : List Value} (hby : By t) (hlt : t.length ≤ maxLen) (hlim : ∀ i, limb r i < 4294967296) (hr : Sl .u32 w lv r) (hrow : RowV w av l.length 6 us)
      (hin : ∀ (i : Nat) (h : i < l.length), Lay w (l[i]'h) ((us.drop (i * 6)).take 6)) : Lay w (.mk k t n r l a) [.int .i64 k, .string (mkB t), .bool n, lv, av, .int .i64 a]
theorem Lay.keep {w w' : World} (hb : Below w.heap.size w w') {d : Dm} {us : List Value} (h : Lay w d us) : Lay w' d us := by
  induction h with
  | mk hby hlt hlim hr hrow hin ih => exact .mk hby hlt hlim (hr.below hb) (hrow.below hb) ih
theorem Lay.len {w : World} {d : Dm} {us : List Value} (h : Lay w d us) : us.length = 6 := by cases h; rfl
/-- The cells, opened. -/
theorem Lay.open' {w : World} {d : Dm} {us : List Value} (h : Lay w d us) : ∃ lv av vs, us = [.int .i64 d.k, .string (mkB d.t), .bool d.n, lv, av, .int .i64 d.a] ∧ By d.t ∧ d.t.length ≤ maxLen ∧ (∀ i, limb d.r i < 4294967296) ∧ Sl .u32 w lv d.r ∧ RowV w av d.l.length 6 vs ∧ ∀ (i : Nat) (h : i < d.l.length), Lay w (d.l[i]'h) ((vs.drop (i * 6)).take 6) := by
  cases h with
  | mk hby hlt hlim hr hrow hin => exact ⟨_, _, _, rfl, hby, hlt, hlim, hr, hrow, hin⟩

end Go.Proofs.YtbfcbicbeagjkaaDoor
namespace Go.Proofs.YtbfcbicbeagjkaaDoor
open Go.RowKit

theorem Keeps.of_ks {P : Nat → Prop} {g : Nat} {w w' : World} (h : Ks g w w') (hg : ¬ P g) : Keeps P w w' :=
  ⟨h.size, fun b hb hp => h.oth b hb fun e => hg (e ▸ hp)⟩
/-- A datum's cells, all whose rows are in blocks of these. -/
inductive LayP (P : Nat → Prop) (w : World) : Dm → List Value → Prop
  | mk {k : Int} {t : List Nat} {n : Bool} {r : List Nat} {l : List Dm} {a : Int} {lv av : Value} {us : List Value} (hby : By t) (hlt : t.length ≤ maxLen) (hlim : ∀ i, limb r i < 4294967296) (hr : Sl .u32 w lv r) (hrp : InP P r.length lv) (hrow : RowV w av l.length 6 us) (hap : InP P l.length av)
      (hin : ∀ (i : Nat) (h : i < l.length), LayP P w (l[i]'h) ((us.drop (i * 6)).take 6)) : LayP P w (.mk k t n r l a) [.int .i64 k, .string (mkB t), .bool n, lv, av, .int .i64 a]
theorem LayP.lay {P : Nat → Prop} {w : World} {d : Dm} {us : List Value} (h : LayP P w d us) : Lay w d us := by
  induction h with
  | mk hby hlt hlim hr hrp hrow hap hin ih => exact .mk hby hlt hlim hr hrow ih
theorem Lay.layP {w : World} {d : Dm} {us : List Value} (h : Lay w d us) : LayP (fun b => b < w.heap.size) w d us := by
  induction h with
  | mk hby hlt hlim hr hrow hin ih => exact .mk hby hlt hlim hr (fun b h1 h2 => hr.lt b h1 h2) hrow (fun b h1 h2 => hrow.lt b h1 h2) ih
theorem LayP.mono {P Q : Nat → Prop} {w : World} {d : Dm} {us : List Value} (h : LayP P w d us) (hq : ∀ b, b < w.heap.size → P b → Q b) : LayP Q w d us := by
  induction h with
  | mk hby hlt hlim hr hrp hrow hap hin ih => exact .mk hby hlt hlim hr (hrp.mono hr.lt hq) hrow (hap.mono hrow.lt hq) ih
theorem LayP.move {P : Nat → Prop} {w w' : World} (hk : Keeps P w w') {d : Dm} {us : List Value} (h : LayP P w d us) : LayP P w' d us := by
  induction h with
  | mk hby hlt hlim hr hrp hrow hap hin ih => exact .mk hby hlt hlim (hr.move hrp hk) hrp (hrow.move hap hk) hap ih
theorem LayP.len {P : Nat → Prop} {w : World} {d : Dm} {us : List Value} (h : LayP P w d us) : us.length = 6 := by cases h; rfl

/-- All rows and texts in it are of at most so many. -/
inductive Sm (N : Nat) : Dm → Prop
  | mk {k : Int} {t : List Nat} {n : Bool} {r : List Nat} {l : List Dm} {a : Int} (ht : t.length ≤ N) (hr : r.length ≤ N) (hl : l.length ≤ N) (hin : ∀ (i : Nat) (h : i < l.length), Sm N (l[i]'h)) : Sm N (.mk k t n r l a)
theorem Sm.mono {N M : Nat} {d : Dm} (h : Sm N d) (hm : N ≤ M) : Sm M d := by
  induction h with
  | mk ht hr hl hin ih => exact .mk (Nat.le_trans ht hm) (Nat.le_trans hr hm) (Nat.le_trans hl hm) ih
theorem Sm.open' {N : Nat} {k : Int} {t : List Nat} {n : Bool} {r : List Nat} {l : List Dm} {a : Int} (h : Sm N (.mk k t n r l a)) : t.length ≤ N ∧ r.length ≤ N ∧ l.length ≤ N ∧ ∀ (i : Nat) (h : i < l.length), Sm N (l[i]'h) := by
  cases h with
  | mk ht hr hl hin => exact ⟨ht, hr, hl, hin⟩

/-- A row of datums that is owned: its cells, and the datums in them. -/
structure DmRow (P : Nat → Prop) (w : World) (l : List Dm) (us : List Value) : Prop where
  len : us.length = l.length * 6
  each : ∀ (i : Nat) (h : i < l.length), LayP P w (l[i]'h) ((us.drop (i * 6)).take 6)
theorem DmRow.nil (P : Nat → Prop) (w : World) : DmRow P w [] [] := ⟨rfl, fun i h => by simp at h⟩
theorem DmRow.snoc {P : Nat → Prop} {w : World} {l : List Dm} {us : List Value} (h : DmRow P w l us) {d : Dm} {cs : List Value} (hd : LayP P w d cs) : DmRow P w (l ++ [d]) (us ++ cs) := by
  have hc := hd.len
  have hl := h.len
  refine ⟨by simp [hl, hc]; omega, fun i hi => ?_⟩
  simp only [List.length_append, List.length_singleton] at hi
  rcases Nat.lt_or_ge i l.length with hin | hin
  · have e1 : ((us ++ cs).drop (i * 6)).take 6 = (us.drop (i * 6)).take 6 := by
      rw [List.drop_append_of_le_length (by omega), List.take_append_of_le_length (by rw [List.length_drop]; omega)]
    have e2 : (l ++ [d])[i] = l[i]'(by omega) := List.getElem_append_left (by omega)
    rw [e1, e2]
    exact h.each i hin
  · obtain rfl : i = l.length := by omega
    have e1 : ((us ++ cs).drop (l.length * 6)).take 6 = cs := by
      rw [List.drop_append_of_le_length (by omega), List.drop_of_length_le (by omega), List.nil_append, List.take_of_length_le (by omega)]
    have e2 : (l ++ [d])[l.length]'(by simp) = d := by
      rw [List.getElem_append_right (by omega)]
      simp
    rw [e1, e2]
    exact hd
theorem DmRow.move {P : Nat → Prop} {w w' : World} (hk : Keeps P w w') {l : List Dm} {us : List Value} (h : DmRow P w l us) : DmRow P w' l us := ⟨h.len, fun i hi => (h.each i hi).move hk⟩
theorem DmRow.mono {P Q : Nat → Prop} {w : World} {l : List Dm} {us : List Value} (h : DmRow P w l us) (hq : ∀ b, b < w.heap.size → P b → Q b) : DmRow Q w l us := ⟨h.len, fun i hi => (h.each i hi).mono hq⟩
theorem DmRow.take {P : Nat → Prop} {w : World} {l : List Dm} {us : List Value} (h : DmRow P w l us) (k : Nat) (hk : k ≤ l.length) : DmRow P w (l.take k) (us.take (k * 6)) := by
  have hl := h.len
  refine ⟨by rw [List.length_take, List.length_take, Nat.min_eq_left (by omega), Nat.min_eq_left hk], fun i hi => ?_⟩
  have hi2 : i < k := by simp at hi; omega
  have e1 : ((us.take (k * 6)).drop (i * 6)).take 6 = (us.drop (i * 6)).take 6 := by
    rw [List.drop_take, List.take_take, Nat.min_eq_left (by omega)]
  rw [e1, List.getElem_take]
  exact h.each i (by omega)
theorem DmRow.append {P : Nat → Prop} {w : World} {l m : List Dm} {us vs : List Value} (h : DmRow P w l us) (h' : DmRow P w m vs) : DmRow P w (l ++ m) (us ++ vs) := by
  have hl := h.len
  have hl' := h'.len
  refine ⟨by simp [hl, hl']; omega, fun i hi => ?_⟩
  simp only [List.length_append] at hi
  rcases Nat.lt_or_ge i l.length with hin | hin
  · have e1 : ((us ++ vs).drop (i * 6)).take 6 = (us.drop (i * 6)).take 6 := by
      rw [List.drop_append_of_le_length (by omega), List.take_append_of_le_length (by rw [List.length_drop]; omega)]
    have e2 : (l ++ m)[i] = l[i]'(by omega) := List.getElem_append_left (by omega)
    rw [e1, e2]
    exact h.each i hin
  · have e1 : ((us ++ vs).drop (i * 6)).take 6 = (vs.drop ((i - l.length) * 6)).take 6 := by
      rw [List.drop_append, List.drop_of_length_le (by omega), List.nil_append]
      congr 2
      omega
    have e2 : (l ++ m)[i] = m[i - l.length]'(by omega) := List.getElem_append_right (by omega)
    rw [e1, e2]
    exact h'.each _ (by omega)
/-- A datum's list, as a row. -/
theorem LayP.row {P : Nat → Prop} {w : World} {k : Int} {t : List Nat} {n : Bool} {r : List Nat} {l : List Dm} {a : Int} {us : List Value} (h : LayP P w (.mk k t n r l a) us) :
    ∃ lv av vs, us = [.int .i64 k, .string (mkB t), .bool n, lv, av, .int .i64 a] ∧ By t ∧ t.length ≤ maxLen ∧ (∀ i, limb r i < 4294967296) ∧ Sl .u32 w lv r ∧ InP P r.length lv ∧ RowV w av l.length 6 vs ∧ InP P l.length av ∧ DmRow P w l vs := by
  cases h with
  | mk hby hlt hlim hr hrp hrow hap hin => exact ⟨_, _, _, rfl, hby, hlt, hlim, hr, hrp, hrow, hap, ⟨hrow.1, hin⟩⟩
/-- The i-th of a row of datums. -/
theorem row_datum {w : World} {av : Value} {l : List Dm} {us : List Value} (hrow : RowV w av l.length 6 us) (hin : ∀ (i : Nat) (h : i < l.length), Lay w (l[i]'h) ((us.drop (i * 6)).take 6)) {i : Nat} (h : i < l.length) :
    ∃ b off cap v0 v1 v2 v3 v4 v5, av = .slice (some ⟨b, off, none⟩) l.length cap ∧ l.length ≤ cap ∧ b < w.heap.size ∧ Lay w (l[i]'h) [v0, v1, v2, v3, v4, v5] ∧ w.cell? ⟨b, off + i * 6, none⟩ = some v0 ∧ w.cell? ⟨b, off + i * 6 + 1, none⟩ = some v1 ∧ w.cell? ⟨b, off + i * 6 + 2, none⟩ = some v2 ∧
      w.cell? ⟨b, off + i * 6 + 3, none⟩ = some v3 ∧ w.cell? ⟨b, off + i * 6 + 4, none⟩ = some v4 ∧ w.cell? ⟨b, off + i * 6 + 5, none⟩ = some v5 := by
  obtain ⟨h1, _, ao, cap, h3, h4, h5⟩ := hrow
  have hl := hin i h
  have hlen := hl.len
  rcases h5 with ⟨h5, _⟩ | ⟨b, off, h5, h6, h7⟩
  · omega
  · have hg : ∀ j, j < 6 → ((us.drop (i * 6)).take 6)[j]? = us[i * 6 + j]? := fun j hj => by rw [List.getElem?_take, if_pos hj, List.getElem?_drop]
    generalize (us.drop (i * 6)).take 6 = es at *
    match es, hlen with
    | [v0, v1, v2, v3, v4, v5], _ =>
      subst h5
      have hc : ∀ j u, j < 6 → ([v0, v1, v2, v3, v4, v5] : List Value)[j]? = some u → w.cell? ⟨b, off + i * 6 + j, none⟩ = some u := fun j u hj hu => by
        rw [Nat.add_assoc]
        exact h7 _ _ (by rw [← hg j hj]; exact hu)
      exact ⟨b, off, cap, v0, v1, v2, v3, v4, v5, h3, h4, h6, hl, hc 0 _ (by omega) rfl, hc 1 _ (by omega) rfl, hc 2 _ (by omega) rfl, hc 3 _ (by omega) rfl, hc 4 _ (by omega) rfl, hc 5 _ (by omega) rfl⟩

end Go.Proofs.YtbfcbicbeagjkaaDoor
