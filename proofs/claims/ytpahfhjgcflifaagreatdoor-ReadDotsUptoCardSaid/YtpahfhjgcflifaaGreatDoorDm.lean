/- Datums: what they are, and how they lie in memory. No walk here. | Datums whose blocks are known: what stays of them when other blocks change. No walk here. | append onto an owned row of cells: the row stays where it is, or goes where nothing was. No walk here. -/
import Derived.Test.YtpahfhjgcflifaaGreatDoorTkMath
import Derived.Laws.AppendOwn
import Derived.Laws.AppendOwnNone
import Derived.Deep.MidRow
namespace Go.Proofs.YtpahfhjgcflifaaGreatDoor
open Go.RowKit

/-- A datum: kind, text, number's sign and limbs, what stands in it, where it stands. -/
inductive Dm where
  | mk (k : Int) (t : List Nat) (n : Bool) (r : List Nat) (l : List Dm) (a : Int)
def Dm.k : Dm → Int | .mk k _ _ _ _ _ => k
def Dm.t : Dm → List Nat | .mk _ t _ _ _ _ => t
def Dm.n : Dm → Bool | .mk _ _ n _ _ _ => n
def Dm.r : Dm → List Nat | .mk _ _ _ r _ _ => r
def Dm.l : Dm → List Dm | .mk _ _ _ _ l _ => l
def Dm.a : Dm → Int | .mk _ _ _ _ _ a => a
/-- How many datums it is, and is in it. -/
def Dm.sz : Dm → Nat
  | .mk _ _ _ _ l _ => 1 + (l.attach.map fun ⟨d, _⟩ => Dm.sz d).sum
theorem Dm.sz_eq (d : Dm) : d.sz = 1 + (d.l.map Dm.sz).sum := by
  cases d with
  | mk k t n r l a =>
    unfold Dm.sz
    show _ = 1 + (l.map Dm.sz).sum
    rw [List.attach_map_val (l := l) (f := Dm.sz)]
theorem Dm.sz_mem {d x : Dm} (h : x ∈ d.l) : x.sz < d.sz := by
  rw [Dm.sz_eq d]
  have key : ∀ l : List Dm, x ∈ l → x.sz ≤ (l.map Dm.sz).sum := by
    intro l
    induction l with
    | nil => intro h; cases h
    | cons y l ih =>
      intro h
      rw [List.map_cons, List.sum_cons]
      rcases List.mem_cons.1 h with rfl | h
      · omega
      · have := ih h; omega
  have := key _ h
  omega

/-- A row of these cells, size cells each, n of them. -/
def RowV (w : World) (v : Value) (n size : Nat) (us : List Value) : Prop :=
  us.length = n * size ∧ n ≤ maxLen ∧ ∃ ao cap, v = .slice ao n cap ∧ n ≤ cap ∧ ((n = 0 ∧ (ao = none → cap = 0)) ∨ ∃ b off, ao = some ⟨b, off, none⟩ ∧ b < w.heap.size ∧ ∀ j u, us[j]? = some u → w.cell? ⟨b, off + j, none⟩ = some u)
theorem RowV.below {w w' : World} {v : Value} {n size : Nat} {us : List Value} (h : RowV w v n size us) (hb : Below w.heap.size w w') : RowV w' v n size us := by
  obtain ⟨h1, h2, ao, cap, h3, h4, h5⟩ := h
  refine ⟨h1, h2, ao, cap, h3, h4, ?_⟩
  rcases h5 with h5 | ⟨b, off, h5, h6, h7⟩
  · exact .inl h5
  · refine .inr ⟨b, off, h5, Nat.lt_of_lt_of_le h6 hb.size, fun j u hu => ?_⟩
    rw [hb.cell (p := ⟨b, off + j, none⟩) h6]
    exact h7 j u hu
/-- The six cells of a datum, and all behind them. -/
inductive Lay (w : World) : Dm → List Value → Prop
  | mk {k : Int} {t : List Nat} {n : Bool} {r : List Nat} {l : List Dm} {a : Int} {lv av : Value} {us : List Value} (hby : By t) (hlt : t.length ≤ maxLen) (hlim : ∀ i, limb r i < 4294967296) (hr : Sl .u32 w lv r) (hrow : RowV w av l.length 6 us)
      (hin : ∀ (i : Nat) (h : i < l.length), Lay w (l[i]'h) ((us.drop (i * 6)).take 6)) : Lay w (.mk k t n r l a) [.int .i64 k, .string (mkB t), .bool n, lv, av, .int .i64 a]
theorem Lay.keep {w w' : World} (hb : Below w.heap.size w w') {d : Dm} {us : List Value} (h : Lay w d us) : Lay w' d us := by
  induction h with
  | mk hby hlt hlim hr hrow hin ih => exact .mk hby hlt hlim (hr.below hb) (hrow.below hb) ih
theorem Lay.len {w : World} {d : Dm} {us : List Value} (h : Lay w d us) : us.length = 6 := by cases h; rfl
/-- The cells, opened. -/
theorem Lay.open' {w : World} {d : Dm} {us : List Value} (h : Lay w d us) : ∃ lv av vs, us = [.int .i64 d.k, .string (mkB d.t), .bool d.n, lv, av, .int .i64 d.a] ∧ By d.t ∧ d.t.length ≤ maxLen ∧ (∀ i, limb d.r i < 4294967296) ∧ Sl .u32 w lv d.r ∧ RowV w av d.l.length 6 vs ∧ ∀ (i : Nat) (h : i < d.l.length), Lay w (d.l[i]'h) ((vs.drop (i * 6)).take 6) := by
  cases h with
  | mk hby hlt hlim hr hrow hin => exact ⟨_, _, _, rfl, hby, hlt, hlim, hr, hrow, hin⟩

/-- Is there not too much in it? -/
def lightA : Nat → Dm → Bool
  | 0, _ => false
  | f + 1, d => decide (d.l.length ≤ 9000) && d.l.all (lightA f)
end Go.Proofs.YtpahfhjgcflifaaGreatDoor
namespace Go.Proofs.YtpahfhjgcflifaaGreatDoor
open Go.RowKit

/-- No block of these has changed. -/
def Keeps (P : Nat → Prop) (w w' : World) : Prop := w.heap.size ≤ w'.heap.size ∧ ∀ b, b < w.heap.size → P b → w'.heap[b]? = w.heap[b]?
theorem Keeps.refl (P : Nat → Prop) (w : World) : Keeps P w w := ⟨Nat.le_refl _, fun _ _ _ => rfl⟩
theorem Keeps.trans {P : Nat → Prop} {w w' w'' : World} (h : Keeps P w w') (h' : Keeps P w' w'') : Keeps P w w'' :=
  ⟨Nat.le_trans h.1 h'.1, fun b hb hp => (h'.2 b (Nat.lt_of_lt_of_le hb h.1) hp).trans (h.2 b hb hp)⟩
theorem Keeps.of_below {P : Nat → Prop} {w w' : World} (h : Below w.heap.size w w') : Keeps P w w' := ⟨h.size, fun b hb _ => h.block b hb⟩
theorem Keeps.of_grown {P : Nat → Prop} {w w' : World} {row : Option Nat} (h : w.grownBy w' row) (hr : ∀ g, row = some g → ¬ P g) : Keeps P w w' :=
  ⟨h.size, fun b hb hp => h.block b hb fun e => hr b e.symm hp⟩
theorem Keeps.of_ks {P : Nat → Prop} {g : Nat} {w w' : World} (h : Ks g w w') (hg : ¬ P g) : Keeps P w w' :=
  ⟨h.size, fun b hb hp => h.oth b hb fun e => hg (e ▸ hp)⟩
theorem Keeps.set {P : Nat → Prop} {w w' : World} (h : Keeps P w w') {p : Addr} (hp : ¬ P p.block) (u : Value) : Keeps P w (w'.setCell p u) :=
  ⟨by simpa using h.1, fun b hb hb2 => (Below.heap_setCell _ _ _ _ (fun e => hp (e ▸ hb2))).trans (h.2 b hb hb2)⟩
theorem Keeps.mono {P Q : Nat → Prop} {w w' : World} (h : Keeps P w w') (hq : ∀ b, b < w.heap.size → Q b → P b) : Keeps Q w w' := ⟨h.1, fun b hb hp => h.2 b hb (hq b hb hp)⟩
theorem Keeps.cell {P : Nat → Prop} {w w' : World} (h : Keeps P w w') {p : Addr} (hb : p.block < w.heap.size) (hp : P p.block) : w'.cell? p = w.cell? p := World.cell?_of_block (w := w) (h.2 _ hb hp)

/-- Where a slice's cells are, if it has any: in a block of these. -/
def InP (P : Nat → Prop) (n : Nat) (v : Value) : Prop := ∀ b, n ≠ 0 → v.ownBlock = some b → P b
theorem InP.mono {P Q : Nat → Prop} {n : Nat} {v : Value} {s : Nat} (h : InP P n v) (hs : ∀ b, n ≠ 0 → v.ownBlock = some b → b < s) (hq : ∀ b, b < s → P b → Q b) : InP Q n v := fun b h1 h2 => hq b (hs b h1 h2) (h b h1 h2)
theorem Sl.lt {k : IntKind} {w : World} {v : Value} {xs : List Nat} (h : Sl k w v xs) : ∀ b, xs.length ≠ 0 → v.ownBlock = some b → b < w.heap.size := by
  obtain ⟨_, ao, cap, rfl, _, h⟩ := h
  intro b h0 hb
  rcases h with ⟨h, _⟩ | ⟨b', off, rfl, hlt, _⟩
  · rw [h] at h0; exact absurd rfl h0
  · simp only [Value.ownBlock, Option.some.injEq] at hb
    omega
theorem RowV.lt {w : World} {v : Value} {n size : Nat} {us : List Value} (h : RowV w v n size us) : ∀ b, n ≠ 0 → v.ownBlock = some b → b < w.heap.size := by
  obtain ⟨_, _, ao, cap, rfl, _, h⟩ := h
  intro b h0 hb
  rcases h with ⟨h, _⟩ | ⟨b', off, rfl, hlt, _⟩
  · exact absurd h h0
  · simp only [Value.ownBlock, Option.some.injEq] at hb
    omega
theorem Sl.move {P : Nat → Prop} {k : IntKind} {w w' : World} {v : Value} {xs : List Nat} (h : Sl k w v xs) (hp : InP P xs.length v) (hk : Keeps P w w') : Sl k w' v xs := by
  obtain ⟨hm, ao, cap, rfl, hc, h⟩ := h
  refine ⟨hm, ao, cap, rfl, hc, ?_⟩
  rcases h with h | ⟨b, off, rfl, hlt, hcell⟩
  · exact .inl h
  · refine .inr ⟨b, off, rfl, Nat.lt_of_lt_of_le hlt hk.1, fun j hj => ?_⟩
    rw [hk.cell (p := ⟨b, off + j, none⟩) hlt (hp b (by omega) rfl)]
    exact hcell j hj
theorem RowV.move {P : Nat → Prop} {w w' : World} {v : Value} {n size : Nat} {us : List Value} (h : RowV w v n size us) (hp : InP P n v) (hk : Keeps P w w') : RowV w' v n size us := by
  obtain ⟨h1, h2, ao, cap, rfl, h4, h5⟩ := h
  refine ⟨h1, h2, ao, cap, rfl, h4, ?_⟩
  rcases h5 with h5 | ⟨b, off, rfl, h6, h7⟩
  · exact .inl h5
  · by_cases h0 : n = 0
    · exact .inl ⟨h0, fun h => by cases h⟩
    · refine .inr ⟨b, off, rfl, Nat.lt_of_lt_of_le h6 hk.1, fun j u hu => ?_⟩
      rw [hk.cell (p := ⟨b, off + j, none⟩) h6 (hp b h0 rfl)]
      exact h7 j u hu

/-- A datum's cells, all whose rows are in blocks of these. -/
inductive LayP (P : Nat → Prop) (w : World) : Dm → List Value → Prop
  | mk {k : Int} {t : List Nat} {n : Bool} {r : List Nat} {l : List Dm} {a : Int} {lv av : Value} {us : List Value} (hby : By t) (hlt : t.length ≤ maxLen) (hlim : ∀ i, limb r i < 4294967296) (hr : Sl .u32 w lv r) (hrp : InP P r.length lv) (hrow : RowV w av l.length 6 us) (hap : InP P l.length av)
      (hin : ∀ (i : Nat) (h : i < l.length), LayP P w (l[i]'h) ((us.drop (i * 6)).take 6)) : LayP P w (.mk k t n r l a) [.int .i64 k, .string (mkB t), .bool n, lv, av, .int .i64 a]
theorem LayP.lay {P : Nat → Prop} {w : World} {d : Dm} {us : List Value} (h : LayP P w d us) : Lay w d us := by
  induction h with
  | mk hby hlt hlim hr hrp hrow hap hin ih => exact .mk hby hlt hlim hr hrow ih
theorem Lay.layP {w : World} {d : Dm} {us : List Value} (h : Lay w d us) : LayP (fun b => b < w.heap.size) w d us := by
  induction h with
  | mk hby hlt hlim hr hrow hin ih => exact .mk hby hlt hlim hr (fun b h1 h2 => hr.lt b h1 h2) hrow (fun b h1 h2 => hrow.lt b h1 h2) ih
theorem LayP.mono {P Q : Nat → Prop} {w : World} {d : Dm} {us : List Value} (h : LayP P w d us) (hq : ∀ b, b < w.heap.size → P b → Q b) : LayP Q w d us := by
  induction h with
  | mk hby hlt hlim hr hrp hrow hap hin ih => exact .mk hby hlt hlim hr (hrp.mono hr.lt hq) hrow (hap.mono hrow.lt hq) ih
theorem LayP.move {P : Nat → Prop} {w w' : World} (hk : Keeps P w w') {d : Dm} {us : List Value} (h : LayP P w d us) : LayP P w' d us := by
  induction h with
  | mk hby hlt hlim hr hrp hrow hap hin ih => exact .mk hby hlt hlim (hr.move hrp hk) hrp (hrow.move hap hk) hap ih
theorem LayP.len {P : Nat → Prop} {w : World} {d : Dm} {us : List Value} (h : LayP P w d us) : us.length = 6 := by cases h; rfl

/-- All rows and texts in it are of at most so many. -/
inductive Sm (N : Nat) : Dm → Prop
  | mk {k : Int} {t : List Nat} {n : Bool} {r : List Nat} {l : List Dm} {a : Int} (ht : t.length ≤ N) (hr : r.length ≤ N) (hl : l.length ≤ N) (hin : ∀ (i : Nat) (h : i < l.length), Sm N (l[i]'h)) : Sm N (.mk k t n r l a)
theorem Sm.mono {N M : Nat} {d : Dm} (h : Sm N d) (hm : N ≤ M) : Sm M d := by
  induction h with
  | mk ht hr hl hin ih => exact .mk (Nat.le_trans ht hm) (Nat.le_trans hr hm) (Nat.le_trans hl hm) ih
theorem Sm.open' {N : Nat} {k : Int} {t : List Nat} {n : Bool} {r : List Nat} {l : List Dm} {a : Int} (h : Sm N (.mk k t n r l a)) : t.length ≤ N ∧ r.length ≤ N ∧ l.length ≤ N ∧ ∀ (i : Nat) (h : i < l.length), Sm N (l[i]'h) := by
  cases h with
  | mk ht hr hl hin => exact ⟨ht, hr, hl, hin⟩

/-- A row of datums that is owned: its cells, and the datums in them. -/
structure DmRow (P : Nat → Prop) (w : World) (l : List Dm) (us : List Value) : Prop where
  len : us.length = l.length * 6
  each : ∀ (i : Nat) (h : i < l.length), LayP P w (l[i]'h) ((us.drop (i * 6)).take 6)
theorem DmRow.nil (P : Nat → Prop) (w : World) : DmRow P w [] [] := ⟨rfl, fun i h => by simp at h⟩
theorem DmRow.snoc {P : Nat → Prop} {w : World} {l : List Dm} {us : List Value} (h : DmRow P w l us) {d : Dm} {cs : List Value} (hd : LayP P w d cs) : DmRow P w (l ++ [d]) (us ++ cs) := by
  have hc := hd.len
  have hl := h.len
  refine ⟨by simp [hl, hc]; omega, fun i hi => ?_⟩
  simp only [List.length_append, List.length_singleton] at hi
  rcases Nat.lt_or_ge i l.length with hin | hin
  · have e1 : ((us ++ cs).drop (i * 6)).take 6 = (us.drop (i * 6)).take 6 := by
      rw [List.drop_append_of_le_length (by omega), List.take_append_of_le_length (by rw [List.length_drop]; omega)]
    have e2 : (l ++ [d])[i] = l[i]'(by omega) := List.getElem_append_left (by omega)
    rw [e1, e2]
    exact h.each i hin
  · obtain rfl : i = l.length := by omega
    have e1 : ((us ++ cs).drop (l.length * 6)).take 6 = cs := by
      rw [List.drop_append_of_le_length (by omega), List.drop_of_length_le (by omega), List.nil_append, List.take_of_length_le (by omega)]
    have e2 : (l ++ [d])[l.length]'(by simp) = d := by
      rw [List.getElem_append_right (by omega)]
      simp
    rw [e1, e2]
    exact hd
theorem DmRow.move {P : Nat → Prop} {w w' : World} (hk : Keeps P w w') {l : List Dm} {us : List Value} (h : DmRow P w l us) : DmRow P w' l us := ⟨h.len, fun i hi => (h.each i hi).move hk⟩
theorem DmRow.mono {P Q : Nat → Prop} {w : World} {l : List Dm} {us : List Value} (h : DmRow P w l us) (hq : ∀ b, b < w.heap.size → P b → Q b) : DmRow Q w l us := ⟨h.len, fun i hi => (h.each i hi).mono hq⟩
theorem DmRow.take {P : Nat → Prop} {w : World} {l : List Dm} {us : List Value} (h : DmRow P w l us) (k : Nat) (hk : k ≤ l.length) : DmRow P w (l.take k) (us.take (k * 6)) := by
  have hl := h.len
  refine ⟨by rw [List.length_take, List.length_take, Nat.min_eq_left (by omega), Nat.min_eq_left hk], fun i hi => ?_⟩
  have hi2 : i < k := by simp at hi; omega
  have e1 : ((us.take (k * 6)).drop (i * 6)).take 6 = (us.drop (i * 6)).take 6 := by
    rw [List.drop_take, List.take_take, Nat.min_eq_left (by omega)]
  rw [e1, List.getElem_take]
  exact h.each i (by omega)
theorem DmRow.append {P : Nat → Prop} {w : World} {l m : List Dm} {us vs : List Value} (h : DmRow P w l us) (h' : DmRow P w m vs) : DmRow P w (l ++ m) (us ++ vs) := by
  have hl := h.len
  have hl' := h'.len
  refine ⟨by simp [hl, hl']; omega, fun i hi => ?_⟩
  simp only [List.length_append] at hi
  rcases Nat.lt_or_ge i l.length with hin | hin
  · have e1 : ((us ++ vs).drop (i * 6)).take 6 = (us.drop (i * 6)).take 6 := by
      rw [List.drop_append_of_le_length (by omega), List.take_append_of_le_length (by rw [List.length_drop]; omega)]
    have e2 : (l ++ m)[i] = l[i]'(by omega) := List.getElem_append_left (by omega)
    rw [e1, e2]
    exact h.each i hin
  · have e1 : ((us ++ vs).drop (i * 6)).take 6 = (vs.drop ((i - l.length) * 6)).take 6 := by
      rw [List.drop_append, List.drop_of_length_le (by omega), List.nil_append]
      congr 2
      omega
    have e2 : (l ++ m)[i] = m[i - l.length]'(by omega) := List.getElem_append_right (by omega)
    rw [e1, e2]
    exact h'.each _ (by omega)
/-- A datum's list, as a row. -/
theorem LayP.row {P : Nat → Prop} {w : World} {k : Int} {t : List Nat} {n : Bool} {r : List Nat} {l : List Dm} {a : Int} {us : List Value} (h : LayP P w (.mk k t n r l a) us) :
    ∃ lv av vs, us = [.int .i64 k, .string (mkB t), .bool n, lv, av, .int .i64 a] ∧ By t ∧ t.length ≤ maxLen ∧ (∀ i, limb r i < 4294967296) ∧ Sl .u32 w lv r ∧ InP P r.length lv ∧ RowV w av l.length 6 vs ∧ InP P l.length av ∧ DmRow P w l vs := by
  cases h with
  | mk hby hlt hlim hr hrp hrow hap hin => exact ⟨_, _, _, rfl, hby, hlt, hlim, hr, hrp, hrow, hap, ⟨hrow.1, hin⟩⟩
/-- An owned row of datums is a datum's list. -/
theorem RowV.of_own {w : World} {base : Nat} {e : TypeId} {v : Value} {n : Nat} {xs : List Value} (h : w.ownsRow base e 6 v n xs) : RowV w v n 6 xs := by
  obtain ⟨h1, h2⟩ := h
  rcases h2 with ⟨rfl, h0⟩ | ⟨g, cap, cur, rfl, hb, hc, hn, hm, hs, ht⟩
  · exact ⟨h1, by omega, none, 0, by rw [h0], by omega, .inl ⟨h0, fun _ => rfl⟩⟩
  · refine ⟨h1, Nat.le_trans hn hm, some ⟨g, 0, none⟩, cap, rfl, hn, .inr ⟨g, 0, rfl, (Array.getElem?_eq_some_iff.1 hc).1, fun j u hu => ?_⟩⟩
    rw [cell_of_row w g (0 + j) cur e (0, 0) hc, Nat.zero_add, ← Array.getElem?_toList]
    rw [← ht, List.getElem?_take] at hu
    split at hu
    · exact hu
    · cases hu
end Go.Proofs.YtpahfhjgcflifaaGreatDoor
namespace Go.Proofs.YtpahfhjgcflifaaGreatDoor
open Go.RowKit

section
variable {P : Program} (w : World)
/-- Where it is now. -/
def MovedTo (w : World) (v v' : Value) : Prop := v'.ownBlock = v.ownBlock ∨ ∃ b, v'.ownBlock = some b ∧ w.heap.size ≤ b
theorem run_append_row (base : Nat) (t ty e : TypeId) (i : TypeInfo) (z : Value) (size bytes : Nat) (ht : P.underlying t = some (.slice e)) (hi : P.info? e = some i) (hz : i.zero = some z)
    (hsize : i.size = size) (hby : i.bytes = bytes) (hzs : z.cells.size = size) (_hsz : 0 < size)
    (v : Value) (n : Nat) (xs : List Value) (hown : w.ownsRow base e size v n xs)
    (a : Addr) (m c : Nat) (news : List Value) (hl : news.length = m * size) (hnews : ∀ j u, news[j]? = some u → w.cell? (a.add j) = some u) (h1 : ∀ u ∈ news, u.oneCell' = true)
    (h63 : n + m ≤ maxLen) (hbytes : (n + m) * bytes ≤ 140737488355328) (hbase : base ≤ w.heap.size) :
    ∃ v' w', (Builtin.append_ #[t, t] ty #[v, .slice (some a) m c]).run P w = .ok v' w' ∧ w'.ownsRow base e size v' (n + m) (xs ++ news) ∧ w.grownBy w' v.ownBlock ∧ MovedTo w v v' := by
  subst hsize
  subst hby
  have hsmall : n + m ≤ 9223372036854775807 := by simp only [maxLen] at h63; omega
  have hlen : (xs ++ news).length = (n + m) * i.size := by rw [List.length_append, hown.1, hl, Nat.add_mul]
  have grown : ∀ (old : Nat), old < n + m → ∀ (row : Option Nat),
      (w.drew.alloc (.cells (xs.toArray ++ news.toArray ++ Builtin.zeroCells z.cells (grownCap w (n + m) old e - (n + m))) e)).ownsRow base e i.size
        (.slice (some ⟨w.heap.size, 0, none⟩) (n + m) (grownCap w (n + m) old e)) (n + m) (xs ++ news) ∧
      w.grownBy (w.drew.alloc (.cells (xs.toArray ++ news.toArray ++ Builtin.zeroCells z.cells (grownCap w (n + m) old e - (n + m))) e)) row := by
    intro old ho row
    have hge := grownCap_ge w (n + m) old e
    have hcm : grownCap w (n + m) old e ≤ maxLen := grownCap_le_maxLen w (n + m) old e h63
    refine ⟨⟨hlen, .inr ⟨w.heap.size, _, _, rfl, hbase, heap_alloc_new w.drew _, hge, hcm, ?_, ?_⟩⟩, ⟨rfl, rfl, rfl, by simp, fun k hk _ => Below.heap_alloc w.drew _ k hk⟩⟩
    · simp only [Array.size_append, List.size_toArray, size_zeroCells, hzs, hown.1, hl, ← Nat.add_mul]
      congr 1
      omega
    · simp only [Array.toList_append, List.append_assoc]
      rw [← List.append_assoc, ← hlen]
      exact List.take_left
  rcases hown.2 with ⟨rfl, rfl⟩ | ⟨g, cap, cur, rfl, hbg, hg, hnc, hcm, hcs, htake⟩
  · have hx : xs = [] := List.eq_nil_of_length_eq_zero (by simpa using hown.1)
    subst hx
    by_cases hm : m = 0
    · subst hm
      have hn : news = [] := List.eq_nil_of_length_eq_zero (by simpa using hl)
      subst hn
      refine ⟨.slice none 0 0, w, ?_, World.ownsRow_nil w base e i.size, ⟨rfl, rfl, rfl, Nat.le_refl _, fun _ _ _ => rfl⟩, .inl rfl⟩
      simp [Builtin.append_, run_underlying ht, sizeOf, typeInfo, hi, Builtin.lenOf, Builtin.firstCells, loadCells, loadCellsFrom]
    · have hr := run_append_nil (P := P) w t ty e i z ht hi hz a m c news hl hnews (by omega) (by omega) (by have hb := hbytes; simp only [Nat.zero_add] at hb; omega)
      have hgr := grown 0 (by omega) (Value.ownBlock (.slice none 0 0))
      simp only [Nat.zero_add, List.nil_append, Array.empty_append] at hgr ⊢
      exact ⟨_, _, hr, hgr.1, hgr.2, .inr ⟨_, rfl, Nat.le_refl _⟩⟩
  · by_cases hroom : n + m ≤ cap
    · have hfit : n * i.size + news.length ≤ cur.size := by rw [hl, hcs, ← Nat.add_mul]; exact Nat.mul_le_mul_right _ hroom
      have hr := run_append_room (P := P) w t ty e i ht hi g n cap cur hg a m c news hl hnews h1 hroom hfit
      refine ⟨_, _, hr, ⟨hlen, .inr ⟨g, cap, _, rfl, hbg, setRow_heap w g cur _ e _ hg, hroom, hcm, ?_, ?_⟩⟩, ⟨rfl, rfl, rfl, by simp, fun k _ hk => setRow_other w g k _ (fun e => hk (by simp [Value.ownBlock, e]))⟩, .inl rfl⟩
      · simp only [List.size_toArray, List.length_append, List.length_take, List.length_drop, Array.length_toList]
        omega
      · rw [htake, ← hlen]
        exact List.take_left
    · have holds : ∀ j u, xs[j]? = some u → w.cell? ((⟨g, 0, none⟩ : Addr).add j) = some u := hown.cells (g := g) rfl
      have hr := run_append_grow (P := P) w t ty e i z ht hi hz ⟨g, 0, none⟩ n cap xs hown.1 holds a m c news hl hnews (by omega) (by omega) (growslice_fits (by omega) hbytes)
      have hgr := grown cap (by omega) (Value.ownBlock (.slice (some ⟨g, 0, none⟩) n cap))
      exact ⟨_, _, hr, hgr.1, hgr.2, .inr ⟨_, rfl, Nat.le_refl _⟩⟩

theorem wpList_append_row {ops : Array Oper} {rest : List Oper} {o : Oper} {a : Act} {Q : Exit → Act → World → Prop} (hgd : o.guard = none) (s x : Operand) (t : TypeId)
    (ho : o.op = .call { callee := .builtin .append, args := #[s, x], argTypes := #[t, t] })
    (base : Nat) (e : TypeId) (i : TypeInfo) (z : Value) (size bytes : Nat) (ht : P.underlying t = some (.slice e)) (hi : P.info? e = some i) (hz : i.zero = some z)
    (hsize : i.size = size) (hby : i.bytes = bytes) (hzs : z.cells.size = size) (hsz : 0 < size)
    (v : Value) (n : Nat) (xs : List Value) (hs : a.eval s = v) (hown : w.ownsRow base e size v n xs)
    (y : Value) (m : Nat) (news : List Value) (hx : a.eval x = y) (hrow : RowV w y m size news) (h1 : ∀ u ∈ news, u.oneCell' = true)
    (h63 : n + m ≤ maxLen) (hbytes : (n + m) * bytes ≤ 140737488355328) (hbase : base ≤ w.heap.size)
    (h : ∀ v' w', w'.ownsRow base e size v' (n + m) (xs ++ news) → w.grownBy w' v.ownBlock → MovedTo w v v' → wpList P ops Q rest (a.put o.dst v') w') : wpList P ops Q (o :: rest) a w := by
  obtain ⟨hlen, _, ao, cap, rfl, hcap, hr⟩ := hrow
  cases ao with
  | none =>
    have h0 : m = 0 ∧ cap = 0 := by
      rcases hr with ⟨h0, h2⟩ | ⟨b, off, h2, _⟩
      · exact ⟨h0, h2 rfl⟩
      · cases h2
    obtain ⟨rfl, rfl⟩ := h0
    have hn : news = [] := List.eq_nil_of_length_eq_zero (by simpa using hlen)
    subst hn
    refine wpList_append_own_none hgd s x t ho base e i size ht hi v n xs hs hown hx ?_
    exact h v w (by simpa using hown) ⟨rfl, rfl, rfl, Nat.le_refl _, fun _ _ _ => rfl⟩ (.inl rfl)
  | some ad =>
    have hnews : ∀ j u, news[j]? = some u → w.cell? (ad.add j) = some u := by
      intro j u hu
      have hj := (List.getElem?_eq_some_iff.1 hu).1
      rcases hr with ⟨h0, _⟩ | ⟨b, off, e1, _, hc⟩
      · subst h0
        simp at hlen
        subst hlen
        simp at hj
      · injection e1 with e1
        subst e1
        rw [Addr.add_mid]
        exact hc j u hu
    refine wpList_plain hgd fun K hK => ?_
    obtain ⟨v', w', hrun, h2, h3, h4⟩ := run_append_row (P := P) w base t o.type e i z size bytes ht hi hz hsize hby hzs hsz v n xs hown ad m cap news hlen hnews h1 h63 hbytes hbase
    unfold Oper.wp execOp
    simp only [ho, resolve, invoke, builtin, Sem.run_bind, Sem.run_pure, Result.andThen_ok, List.map_toArray, List.map_cons, List.map_nil, hs, hx, hrun]
    exact hK _ _ (h v' w' h2 h3 h4)
end
/-- A row's first ones are a row. -/
theorem ownsRow_take {w : World} {base : Nat} {e : TypeId} {size g n cap k : Nat} {xs : List Value} (h : w.ownsRow base e size (.slice (some ⟨g, 0, none⟩) n cap) n xs) (hk : k ≤ n) : w.ownsRow base e size (.slice (some ⟨g, 0, none⟩) k cap) k (xs.take (k * size)) := by
  obtain ⟨h1, h2⟩ := h
  have hks : k * size ≤ n * size := Nat.mul_le_mul_right _ hk
  rcases h2 with ⟨h2, _⟩ | ⟨g', cap', cur, h2, hb, hc, hn, hm, hs, ht⟩
  · cases h2
  · injection h2 with h3 h4 h5
    injection h3 with h3
    injection h3 with h3
    subst h3
    subst h5
    refine ⟨by rw [List.length_take, h1]; omega, .inr ⟨g, cap, cur, rfl, hb, hc, by omega, hm, hs, ?_⟩⟩
    rw [← ht, List.take_take, Nat.min_eq_left hks]
/-- A cell of it changed. -/
theorem ownsRow_set {w : World} {base : Nat} {e : TypeId} {size g n cap j : Nat} {xs : List Value} (h : w.ownsRow base e size (.slice (some ⟨g, 0, none⟩) n cap) n xs) (_hj : j < xs.length) (u : Value) : (w.setCell ⟨g, j, none⟩ u).ownsRow base e size (.slice (some ⟨g, 0, none⟩) n cap) n (xs.set j u) := by
  obtain ⟨h1, h2⟩ := h
  rcases h2 with ⟨h2, _⟩ | ⟨g', cap', cur, h2, hb, hc, hn, hm, hs, ht⟩
  · cases h2
  · injection h2 with h3 h4 h5
    injection h3 with h3
    injection h3 with h3
    subst h3
    subst h5
    refine ⟨by rw [List.length_set, h1], .inr ⟨g, cap, cur.setIfInBounds j u, rfl, hb, ?_, hn, hm, by simpa using hs, ?_⟩⟩
    · simp only [World.setCell, Array.getElem?_modify]
      simp [hc]
    · rw [Array.toList_setIfInBounds, List.take_set, ht]
end Go.Proofs.YtpahfhjgcflifaaGreatDoor
