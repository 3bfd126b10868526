/- Rows in memory, and what stays of them when other blocks change; append onto an owned row; which numbers are characters. -/
import Derived.Test.YtbfcbicbeagjkaaDoorBase
import Derived.LoopTactic
import Derived.Laws.AppendOwn
import Derived.Laws.AppendOwnNone
import Derived.Deep.MidRow
namespace Go.Proofs.YtbfcbicbeagjkaaDoor
open Go.RowKit

theorem ret_bl {a b : Bool} (h : a = b) : Ending.returned (.bool a) = .returned (.bool b) := by rw [h]
/-- Is it a character? Does it stand between words? Does it end one? -/
def scB (c : Int) : Bool := decide ((0 ≤ c ∧ c < 55296) ∨ (57343 < c ∧ c ≤ 1114111))
theorem rowSet {W : World} {g : Nat} {cs : Array Value} {e : TypeId} {fz : Nat × Nat} (h : W.heap[g]? = some (.cells cs e fz)) (i : Nat) (a : Value) : (W.setCell ⟨g, i, none⟩ a).heap[g]? = some (.cells (cs.setIfInBounds i a) e fz) := by
  simp only [World.setCell, Array.getElem?_modify, if_true, h]
  rfl
/-- A box of a datum, laid now. -/
theorem box1 (w : World) (cs : Array Value) (e : TypeId) : (w.alloc (.cells cs e)).heap[w.heap.size]? = some (.cells cs e (0, 0)) := heap_alloc_new w _
theorem own_dslice {w : World} {base : Nat} {e : TypeId} {size : Nat} {v : Value} {n : Nat} {xs : List Value} (h : w.ownsRow base e size v n xs) : ∃ ao cap, v = .slice ao n cap := by
  rcases h.2 with ⟨rfl, rfl⟩ | ⟨g, cap, cur, rfl, _⟩
  · exact ⟨_, _, rfl⟩
  · exact ⟨_, _, rfl⟩
/-- A row of these cells, size cells each, n of them. -/
def RowV (w : World) (v : Value) (n size : Nat) (us : List Value) : Prop :=
  us.length = n * size ∧ n ≤ maxLen ∧ ∃ ao cap, v = .slice ao n cap ∧ n ≤ cap ∧ ((n = 0 ∧ (ao = none → cap = 0)) ∨ ∃ b off, ao = some ⟨b, off, none⟩ ∧ b < w.heap.size ∧ ∀ j u, us[j]? = some u → w.cell? ⟨b, off + j, none⟩ = some u)
theorem RowV.below {w w' : World} {v : Value} {n size : Nat} {us : List Value} (h : RowV w v n size us) (hb : Below w.heap.size w w') : RowV w' v n size us := by
  obtain ⟨h1, h2, ao, cap, h3, h4, h5⟩ := h
  refine ⟨h1, h2, ao, cap, h3, h4, ?_⟩
  rcases h5 with h5 | ⟨b, off, h5, h6, h7⟩
  · exact .inl h5
  · refine .inr ⟨b, off, h5, Nat.lt_of_lt_of_le h6 hb.size, fun j u hu => ?_⟩
    rw [hb.cell (p := ⟨b, off + j, none⟩) h6]
    exact h7 j u hu
/-- No block of these has changed. -/
def Keeps (P : Nat → Prop) (w w' : World) : Prop := w.heap.size ≤ w'.heap.size ∧ ∀ b, b < w.heap.size → P b → w'.heap[b]? = w.heap[b]?
theorem Keeps.refl (P : Nat → Prop) (w : World) : Keeps P w w := ⟨Nat.le_refl _, fun _ _ _ => rfl⟩
theorem Keeps.trans {P : Nat → Prop} {w w' w'' : World} (h : Keeps P w w') (h' : Keeps P w' w'') : Keeps P w w'' :=
  ⟨Nat.le_trans h.1 h'.1, fun b hb hp => (h'.2 b (Nat.lt_of_lt_of_le hb h.1) hp).trans (h.2 b hb hp)⟩
theorem Keeps.of_below {P : Nat → Prop} {w w' : World} (h : Below w.heap.size w w') : Keeps P w w' := ⟨h.size, fun b hb _ => h.block b hb⟩
theorem Keeps.of_grown {P : Nat → Prop} {w w' : World} {row : Option Nat} (h : w.grownBy w' row) (hr : ∀ g, row = some g → ¬ P g) : Keeps P w w' :=
  ⟨h.size, fun b hb hp => h.block b hb fun e => hr b e.symm hp⟩
theorem Keeps.set {P : Nat → Prop} {w w' : World} (h : Keeps P w w') {p : Addr} (hp : ¬ P p.block) (u : Value) : Keeps P w (w'.setCell p u) :=
  ⟨by simpa using h.1, fun b hb hb2 => (Below.heap_setCell _ _ _ _ (fun e => hp (e ▸ hb2))).trans (h.2 b hb hb2)⟩
theorem Keeps.mono {P Q : Nat → Prop} {w w' : World} (h : Keeps P w w') (hq : ∀ b, b < w.heap.size → Q b → P b) : Keeps Q w w' := ⟨h.1, fun b hb hp => h.2 b hb (hq b hb hp)⟩
theorem Keeps.cell {P : Nat → Prop} {w w' : World} (h : Keeps P w w') {p : Addr} (hb : p.block < w.heap.size) (hp : P p.block) : w'.cell? p = w.cell? p := World.cell?_of_block (w := w) (h.2 _ hb hp)
/-- Where a slice's cells are, if it has any: in a block of these. -/
def InP (P : Nat → Prop) (n : Nat) (v : Value) : Prop := ∀ b, n ≠ 0 → v.ownBlock = some b → P b
theorem InP.mono {P Q : Nat → Prop} {n : Nat} {v : Value} {s : Nat} (h : InP P n v) (hs : ∀ b, n ≠ 0 → v.ownBlock = some b → b < s) (hq : ∀ b, b < s → P b → Q b) : InP Q n v := fun b h1 h2 => hq b (hs b h1 h2) (h b h1 h2)
theorem Sl.lt {k : IntKind} {w : World} {v : Value} {xs : List Nat} (h : Sl k w v xs) : ∀ b, xs.length ≠ 0 → v.ownBlock = some b → b < w.heap.size := by
  obtain ⟨_, ao, cap, rfl, _, h⟩ := h
  intro b h0 hb
  rcases h with ⟨h, _⟩ | ⟨b', off, rfl, hlt, _⟩
  · rw [h] at h0; exact absurd rfl h0
  · simp only [Value.ownBlock, Option.some.injEq] at hb
    omega
theorem RowV.lt {w : World} {v : Value} {n size : Nat} {us : List Value} (h : RowV w v n size us) : ∀ b, n ≠ 0 → v.ownBlock = some b → b < w.heap.size := by
  obtain ⟨_, _, ao, cap, rfl, _, h⟩ := h
  intro b h0 hb
  rcases h with ⟨h, _⟩ | ⟨b', off, rfl, hlt, _⟩
  · exact absurd h h0
  · simp only [Value.ownBlock, Option.some.injEq] at hb
    omega
theorem Sl.move {P : Nat → Prop} {k : IntKind} {w w' : World} {v : Value} {xs : List Nat} (h : Sl k w v xs) (hp : InP P xs.length v) (hk : Keeps P w w') : Sl k w' v xs := by
  obtain ⟨hm, ao, cap, rfl, hc, h⟩ := h
  refine ⟨hm, ao, cap, rfl, hc, ?_⟩
  rcases h with h | ⟨b, off, rfl, hlt, hcell⟩
  · exact .inl h
  · refine .inr ⟨b, off, rfl, Nat.lt_of_lt_of_le hlt hk.1, fun j hj => ?_⟩
    rw [hk.cell (p := ⟨b, off + j, none⟩) hlt (hp b (by omega) rfl)]
    exact hcell j hj
theorem RowV.move {P : Nat → Prop} {w w' : World} {v : Value} {n size : Nat} {us : List Value} (h : RowV w v n size us) (hp : InP P n v) (hk : Keeps P w w') : RowV w' v n size us := by
  obtain ⟨h1, h2, ao, cap, rfl, h4, h5⟩ := h
  refine ⟨h1, h2, ao, cap, rfl, h4, ?_⟩
  rcases h5 with h5 | ⟨b, off, rfl, h6, h7⟩
  · exact .inl h5
  · by_cases h0 : n = 0
    · exact .inl ⟨h0, fun h => by cases h⟩
    · refine .inr ⟨b, off, rfl, Nat.lt_of_lt_of_le h6 hk.1, fun j u hu => ?_⟩
      rw [hk.cell (p := ⟨b, off + j, none⟩) h6 (hp b h0 rfl)]
      exact h7 j u hu
/-- An owned row is a row. -/
theorem RowV.of_own {w : World} {base size : Nat} {e : TypeId} {v : Value} {n : Nat} {xs : List Value} (h : w.ownsRow base e size v n xs) : RowV w v n size xs := by
  obtain ⟨h1, h2⟩ := h
  rcases h2 with ⟨rfl, h0⟩ | ⟨g, cap, cur, rfl, hb, hc, hn, hm, hs, ht⟩
  · exact ⟨h1, by omega, none, 0, by rw [h0], by omega, .inl ⟨h0, fun _ => rfl⟩⟩
  · refine ⟨h1, Nat.le_trans hn hm, some ⟨g, 0, none⟩, cap, rfl, hn, .inr ⟨g, 0, rfl, (Array.getElem?_eq_some_iff.1 hc).1, fun j u hu => ?_⟩⟩
    rw [cell_of_row w g (0 + j) cur e (0, 0) hc, Nat.zero_add, ← Array.getElem?_toList]
    rw [← ht, List.getElem?_take] at hu
    split at hu
    · exact hu
    · cases hu
section
variable {P : Program} (w : World)
/-- Where it is now. -/
def MovedTo (w : World) (v v' : Value) : Prop := v'.ownBlock = v.ownBlock ∨ ∃ b, v'.ownBlock = some b ∧ w.heap.size ≤ b
theorem run_append_row (base : Nat) (t ty e : TypeId) (i : TypeInfo) (z : Value) (size bytes : Nat) (ht : P.underlying t = some (.slice e)) (hi : P.info? e = some i) (hz : i.zero = some z)
    (hsize : i.size = size) (hby : i.bytes = bytes) (hzs : z.cells.size = size) (_hsz : 0 < size)
    (v : Value) (n : Nat) (xs : List Value) (hown : w.ownsRow base e size v n xs)
    (a : Addr) (m c : Nat) (news : List Value) (hl : news.length = m * size) (hnews : ∀ j u, news[j]? = some u → w.cell? (a.add j) = some u) (h1 : ∀ u ∈ news, u.oneCell' = true)
    (h63 : n + m ≤ maxLen) (hbytes : (n + m) * bytes ≤ 140737488355328) (hbase : base ≤ w.heap.size) :
    ∃ v' w', (Builtin.append_ #[t, t] ty #[v, .slice (some a) m c]).run P w = .ok v' w' ∧ w'.ownsRow base e size v' (n + m) (xs ++ news) ∧ w.grownBy w' v.ownBlock ∧ MovedTo w v v' := by
  subst hsize
  subst hby
  have hsmall : n + m ≤ 9223372036854775807 := by simp only [maxLen] at h63; omega
  have hlen : (xs ++ news).length = (n + m) * i.size := by rw [List.length_append, hown.1, hl, Nat.add_mul]
  have grown : ∀ (old : Nat), old < n + m → ∀ (row : Option Nat),
      (w.drew.alloc (.cells (xs.toArray ++ news.toArray ++ Builtin.zeroCells z.cells (grownCap w (n + m) old e - (n + m))) e)).ownsRow base e i.size
        (.slice (some ⟨w.heap.size, 0, none⟩) (n + m) (grownCap w (n + m) old e)) (n + m) (xs ++ news) ∧
      w.grownBy (w.drew.alloc (.cells (xs.toArray ++ news.toArray ++ Builtin.zeroCells z.cells (grownCap w (n + m) old e - (n + m))) e)) row := by
    intro old ho row
    have hge := grownCap_ge w (n + m) old e
    have hcm : grownCap w (n + m) old e ≤ maxLen := grownCap_le_maxLen w (n + m) old e h63
    refine ⟨⟨hlen, .inr ⟨w.heap.size, _, _, rfl, hbase, heap_alloc_new w.drew _, hge, hcm, ?_, ?_⟩⟩, ⟨rfl, rfl, rfl, by simp, fun k hk _ => Below.heap_alloc w.drew _ k hk⟩⟩
    · simp only [Array.size_append, List.size_toArray, size_zeroCells, hzs, hown.1, hl, ← Nat.add_mul]
      congr 1
      omega
    · simp only [Array.toList_append, List.append_assoc]
      rw [← List.append_assoc, ← hlen]
      exact List.take_left
  rcases hown.2 with ⟨rfl, rfl⟩ | ⟨g, cap, cur, rfl, hbg, hg, hnc, hcm, hcs, htake⟩
  · have hx : xs = [] := List.eq_nil_of_length_eq_zero (by simpa using hown.1)
    subst hx
    by_cases hm : m = 0
    · subst hm
      have hn : news = [] := List.eq_nil_of_length_eq_zero (by simpa using hl)
      subst hn
      refine ⟨.slice none 0 0, w, ?_, World.ownsRow_nil w base e i.size, ⟨rfl, rfl, rfl, Nat.le_refl _, fun _ _ _ => rfl⟩, .inl rfl⟩
      simp [Builtin.append_, run_underlying ht, sizeOf, typeInfo, hi, Builtin.lenOf, Builtin.firstCells, loadCells, loadCellsFrom]
    · have hr := run_append_nil (P := P) w t ty e i z ht hi hz a m c news hl hnews (by omega) (by omega) (by have hb := hbytes; simp only [Nat.zero_add] at hb; omega)
      have hgr := grown 0 (by omega) (Value.ownBlock (.slice none 0 0))
      simp only [Nat.zero_add, List.nil_append, Array.empty_append] at hgr ⊢
      exact ⟨_, _, hr, hgr.1, hgr.2, .inr ⟨_, rfl, Nat.le_refl _⟩⟩
  · by_cases hroom : n + m ≤ cap
    · have hfit : n * i.size + news.length ≤ cur.size := by rw [hl, hcs, ← Nat.add_mul]; exact Nat.mul_le_mul_right _ hroom
      have hr := run_append_room (P := P) w t ty e i ht hi g n cap cur hg a m c news hl hnews h1 hroom hfit
      refine ⟨_, _, hr, ⟨hlen, .inr ⟨g, cap, _, rfl, hbg, setRow_heap w g cur _ e _ hg, hroom, hcm, ?_, ?_⟩⟩, ⟨rfl, rfl, rfl, by simp, fun k _ hk => setRow_other w g k _ (fun e => hk (by simp [Value.ownBlock, e]))⟩, .inl rfl⟩
      · simp only [List.size_toArray, List.length_append, List.length_take, List.length_drop, Array.length_toList]
        omega
      · rw [htake, ← hlen]
        exact List.take_left
    · have holds : ∀ j u, xs[j]? = some u → w.cell? ((⟨g, 0, none⟩ : Addr).add j) = some u := hown.cells (g := g) rfl
      have hr := run_append_grow (P := P) w t ty e i z ht hi hz ⟨g, 0, none⟩ n cap xs hown.1 holds a m c news hl hnews (by omega) (by omega) (growslice_fits (by omega) hbytes)
      have hgr := grown cap (by omega) (Value.ownBlock (.slice (some ⟨g, 0, none⟩) n cap))
      exact ⟨_, _, hr, hgr.1, hgr.2, .inr ⟨_, rfl, Nat.le_refl _⟩⟩
theorem wpList_append_row {ops : Array Oper} {rest : List Oper} {o : Oper} {a : Act} {Q : Exit → Act → World → Prop} (hgd : o.guard = none) (s x : Operand) (t : TypeId)
    (ho : o.op = .call { callee := .builtin .append, args := #[s, x], argTypes := #[t, t] })
    (base : Nat) (e : TypeId) (i : TypeInfo) (z : Value) (size bytes : Nat) (ht : P.underlying t = some (.slice e)) (hi : P.info? e = some i) (hz : i.zero = some z)
    (hsize : i.size = size) (hby : i.bytes = bytes) (hzs : z.cells.size = size) (hsz : 0 < size)
    (v : Value) (n : Nat) (xs : List Value) (hs : a.eval s = v) (hown : w.ownsRow base e size v n xs)
    (y : Value) (m : Nat) (news : List Value) (hx : a.eval x = y) (hrow : RowV w y m size news) (h1 : ∀ u ∈ news, u.oneCell' = true)
    (h63 : n + m ≤ maxLen) (hbytes : (n + m) * bytes ≤ 140737488355328) (hbase : base ≤ w.heap.size)
    (h : ∀ v' w', w'.ownsRow base e size v' (n + m) (xs ++ news) → w.grownBy w' v.ownBlock → MovedTo w v v' → wpList P ops Q rest (a.put o.dst v') w') : wpList P ops Q (o :: rest) a w := by
  obtain ⟨hlen, _, ao, cap, rfl, hcap, hr⟩ := hrow
  cases ao with
  | none =>
    have h0 : m = 0 ∧ cap = 0 := by
      rcases hr with ⟨h0, h2⟩ | ⟨b, off, h2, _⟩
      · exact ⟨h0, h2 rfl⟩
      · cases h2
    obtain ⟨rfl, rfl⟩ := h0
    have hn : news = [] := List.eq_nil_of_length_eq_zero (by simpa using hlen)
    subst hn
    refine wpList_append_own_none hgd s x t ho base e i size ht hi v n xs hs hown hx ?_
    exact h v w (by simpa using hown) ⟨rfl, rfl, rfl, Nat.le_refl _, fun _ _ _ => rfl⟩ (.inl rfl)
  | some ad =>
    have hnews : ∀ j u, news[j]? = some u → w.cell? (ad.add j) = some u := by
      intro j u hu
      have hj := (List.getElem?_eq_some_iff.1 hu).1
      rcases hr with ⟨h0, _⟩ | ⟨b, off, e1, _, hc⟩
      · subst h0
        simp at hlen
        subst hlen
        simp at hj
      · injection e1 with e1
        subst e1
        rw [Addr.add_mid]
        exact hc j u hu
    refine wpList_plain hgd fun K hK => ?_
    obtain ⟨v', w', hrun, h2, h3, h4⟩ := run_append_row (P := P) w base t o.type e i z size bytes ht hi hz hsize hby hzs hsz v n xs hown ad m cap news hlen hnews h1 h63 hbytes hbase
    unfold Oper.wp execOp
    simp only [ho, resolve, invoke, builtin, Sem.run_bind, Sem.run_pure, Result.andThen_ok, List.map_toArray, List.map_cons, List.map_nil, hs, hx, hrun]
    exact hK _ _ (h v' w' h2 h3 h4)
end
/-- All but these blocks are as they were. -/
theorem ownsRow_keep {w w' : World} {base : Nat} {e : TypeId} {size n : Nat} {v : Value} {xs : List Value} (h : w.ownsRow base e size v n xs) {P : Nat → Prop} (hk : Keeps P w w') (hp : ∀ b, v.ownBlock = some b → P b) : w'.ownsRow base e size v n xs := by
  refine ⟨h.1, ?_⟩
  rcases h.2 with hn | ⟨g, cap, cur, rfl, hb, hgg, rest⟩
  · exact .inl hn
  · exact .inr ⟨g, cap, cur, rfl, hb, (hk.2 g (Array.getElem?_eq_some_iff.1 hgg).1 (hp g rfl)).trans hgg, rest⟩
end Go.Proofs.YtbfcbicbeagjkaaDoor
