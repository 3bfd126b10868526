/- Rows in memory, and what stays of them when other blocks change; append onto an owned row; which numbers are characters. | The map of ribs' entries: looked into and written. No walk here. -/
import Derived.Test.YtegengnffdlplaaGreatDoorBase
import Derived.LoopTactic
import Derived.Laws.AppendOwn
import Derived.Laws.AppendOwnNone
import Derived.Deep.MidRow
import Derived.Laws.StructEq
import Derived.WideKeyRuns
namespace Go.Proofs.YtegengnffdlplaaGreatDoor
open Go.RowKit

theorem ret_bl {a b : Bool} (h : a = b) : Ending.returned (.bool a) = .returned (.bool b) := by rw [h]
/-- Is it a character? Does it stand between words? Does it end one? -/
def scB (c : Int) : Bool := decide ((0 ≤ c ∧ c < 55296) ∨ (57343 < c ∧ c ≤ 1114111))
set_option maxRecDepth 100000 in
theorem rscalar_any (c : Int) (w : World) : Calls Tryz.prog 97 #[.int .i64 c] w fun e w' => e = .returned (.bool (scB c)) ∧ w = w' := by
  go_enter Tryz.func97, Tryz.ntmps97
  go_wp2
  all_goals
    go_ret
    exact ⟨ret_bl (by unfold scB; rw [Bool.eq_iff_iff]; simp; try omega), rfl⟩
theorem rowSet {W : World} {g : Nat} {cs : Array Value} {e : TypeId} {fz : Nat × Nat} (h : W.heap[g]? = some (.cells cs e fz)) (i : Nat) (a : Value) : (W.setCell ⟨g, i, none⟩ a).heap[g]? = some (.cells (cs.setIfInBounds i a) e fz) := by
  simp only [World.setCell, Array.getElem?_modify, if_true, h]
  rfl
/-- A box of a datum, laid now. -/
theorem box1 (w : World) (cs : Array Value) (e : TypeId) : (w.alloc (.cells cs e)).heap[w.heap.size]? = some (.cells cs e (0, 0)) := heap_alloc_new w _
theorem own_dslice {w : World} {base : Nat} {e : TypeId} {size : Nat} {v : Value} {n : Nat} {xs : List Value} (h : w.ownsRow base e size v n xs) : ∃ ao cap, v = .slice ao n cap := by
  rcases h.2 with ⟨rfl, rfl⟩ | ⟨g, cap, cur, rfl, _⟩
  · exact ⟨_, _, rfl⟩
  · exact ⟨_, _, rfl⟩
/-- A row of these cells, size cells each, n of them. -/
def RowV (w : World) (v : Value) (n size : Nat) (us : List Value) : Prop :=
  us.length = n * size ∧ n ≤ maxLen ∧ ∃ ao cap, v = .slice ao n cap ∧ n ≤ cap ∧ ((n = 0 ∧ (ao = none → cap = 0)) ∨ ∃ b off, ao = some ⟨b, off, none⟩ ∧ b < w.heap.size ∧ ∀ j u, us[j]? = some u → w.cell? ⟨b, off + j, none⟩ = some u)
theorem RowV.below {w w' : World} {v : Value} {n size : Nat} {us : List Value} (h : RowV w v n size us) (hb : Below w.heap.size w w') : RowV w' v n size us := by
  obtain ⟨h1, h2, ao, cap, h3, h4, h5⟩ := h
  refine ⟨h1, h2, ao, cap, h3, h4, ?_⟩
  rcases h5 with h5 | ⟨b, off, h5, h6, h7⟩
  · exact .inl h5
  · refine .inr ⟨b, off, h5, Nat.lt_of_lt_of_le h6 hb.size, fun j u hu => ?_⟩
    rw [hb.cell (p := ⟨b, off + j, none⟩) h6]
    exact h7 j u hu
/-- No block of these has changed. -/
def Keeps (P : Nat → Prop) (w w' : World) : Prop := w.heap.size ≤ w'.heap.size ∧ ∀ b, b < w.heap.size → P b → w'.heap[b]? = w.heap[b]?
theorem Keeps.refl (P : Nat → Prop) (w : World) : Keeps P w w := ⟨Nat.le_refl _, fun _ _ _ => rfl⟩
theorem Keeps.trans {P : Nat → Prop} {w w' w'' : World} (h : Keeps P w w') (h' : Keeps P w' w'') : Keeps P w w'' :=
  ⟨Nat.le_trans h.1 h'.1, fun b hb hp => (h'.2 b (Nat.lt_of_lt_of_le hb h.1) hp).trans (h.2 b hb hp)⟩
theorem Keeps.of_below {P : Nat → Prop} {w w' : World} (h : Below w.heap.size w w') : Keeps P w w' := ⟨h.size, fun b hb _ => h.block b hb⟩
theorem Keeps.of_grown {P : Nat → Prop} {w w' : World} {row : Option Nat} (h : w.grownBy w' row) (hr : ∀ g, row = some g → ¬ P g) : Keeps P w w' :=
  ⟨h.size, fun b hb hp => h.block b hb fun e => hr b e.symm hp⟩
theorem Keeps.set {P : Nat → Prop} {w w' : World} (h : Keeps P w w') {p : Addr} (hp : ¬ P p.block) (u : Value) : Keeps P w (w'.setCell p u) :=
  ⟨by simpa using h.1, fun b hb hb2 => (Below.heap_setCell _ _ _ _ (fun e => hp (e ▸ hb2))).trans (h.2 b hb hb2)⟩
theorem Keeps.mono {P Q : Nat → Prop} {w w' : World} (h : Keeps P w w') (hq : ∀ b, b < w.heap.size → Q b → P b) : Keeps Q w w' := ⟨h.1, fun b hb hp => h.2 b hb (hq b hb hp)⟩
theorem Keeps.cell {P : Nat → Prop} {w w' : World} (h : Keeps P w w') {p : Addr} (hb : p.block < w.heap.size) (hp : P p.block) : w'.cell? p = w.cell? p := World.cell?_of_block (w := w) (h.2 _ hb hp)
/-- Where a slice's cells are, if it has any: in a block of these. -/
def InP (P : Nat → Prop) (n : Nat) (v : Value) : Prop := ∀ b, n ≠ 0 → v.ownBlock = some b → P b
theorem InP.mono {P Q : Nat → Prop} {n : Nat} {v : Value} {s : Nat} (h : InP P n v) (hs : ∀ b, n ≠ 0 → v.ownBlock = some b → b < s) (hq : ∀ b, b < s → P b → Q b) : InP Q n v := fun b h1 h2 => hq b (hs b h1 h2) (h b h1 h2)
theorem Sl.lt {k : IntKind} {w : World} {v : Value} {xs : List Nat} (h : Sl k w v xs) : ∀ b, xs.length ≠ 0 → v.ownBlock = some b → b < w.heap.size := by
  obtain ⟨_, ao, cap, rfl, _, h⟩ := h
  intro b h0 hb
  rcases h with ⟨h, _⟩ | ⟨b', off, rfl, hlt, _⟩
  · rw [h] at h0; exact absurd rfl h0
  · simp only [Value.ownBlock, Option.some.injEq] at hb
    omega
theorem RowV.lt {w : World} {v : Value} {n size : Nat} {us : List Value} (h : RowV w v n size us) : ∀ b, n ≠ 0 → v.ownBlock = some b → b < w.heap.size := by
  obtain ⟨_, _, ao, cap, rfl, _, h⟩ := h
  intro b h0 hb
  rcases h with ⟨h, _⟩ | ⟨b', off, rfl, hlt, _⟩
  · exact absurd h h0
  · simp only [Value.ownBlock, Option.some.injEq] at hb
    omega
theorem Sl.move {P : Nat → Prop} {k : IntKind} {w w' : World} {v : Value} {xs : List Nat} (h : Sl k w v xs) (hp : InP P xs.length v) (hk : Keeps P w w') : Sl k w' v xs := by
  obtain ⟨hm, ao, cap, rfl, hc, h⟩ := h
  refine ⟨hm, ao, cap, rfl, hc, ?_⟩
  rcases h with h | ⟨b, off, rfl, hlt, hcell⟩
  · exact .inl h
  · refine .inr ⟨b, off, rfl, Nat.lt_of_lt_of_le hlt hk.1, fun j hj => ?_⟩
    rw [hk.cell (p := ⟨b, off + j, none⟩) hlt (hp b (by omega) rfl)]
    exact hcell j hj
theorem RowV.move {P : Nat → Prop} {w w' : World} {v : Value} {n size : Nat} {us : List Value} (h : RowV w v n size us) (hp : InP P n v) (hk : Keeps P w w') : RowV w' v n size us := by
  obtain ⟨h1, h2, ao, cap, rfl, h4, h5⟩ := h
  refine ⟨h1, h2, ao, cap, rfl, h4, ?_⟩
  rcases h5 with h5 | ⟨b, off, rfl, h6, h7⟩
  · exact .inl h5
  · by_cases h0 : n = 0
    · exact .inl ⟨h0, fun h => by cases h⟩
    · refine .inr ⟨b, off, rfl, Nat.lt_of_lt_of_le h6 hk.1, fun j u hu => ?_⟩
      rw [hk.cell (p := ⟨b, off + j, none⟩) h6 (hp b h0 rfl)]
      exact h7 j u hu
/-- An owned row is a row. -/
theorem RowV.of_own {w : World} {base size : Nat} {e : TypeId} {v : Value} {n : Nat} {xs : List Value} (h : w.ownsRow base e size v n xs) : RowV w v n size xs := by
  obtain ⟨h1, h2⟩ := h
  rcases h2 with ⟨rfl, h0⟩ | ⟨g, cap, cur, rfl, hb, hc, hn, hm, hs, ht⟩
  · exact ⟨h1, by omega, none, 0, by rw [h0], by omega, .inl ⟨h0, fun _ => rfl⟩⟩
  · refine ⟨h1, Nat.le_trans hn hm, some ⟨g, 0, none⟩, cap, rfl, hn, .inr ⟨g, 0, rfl, (Array.getElem?_eq_some_iff.1 hc).1, fun j u hu => ?_⟩⟩
    rw [cell_of_row w g (0 + j) cur e (0, 0) hc, Nat.zero_add, ← Array.getElem?_toList]
    rw [← ht, List.getElem?_take] at hu
    split at hu
    · exact hu
    · cases hu
section
variable {P : Program} (w : World)
/-- Where it is now. -/
def MovedTo (w : World) (v v' : Value) : Prop := v'.ownBlock = v.ownBlock ∨ ∃ b, v'.ownBlock = some b ∧ w.heap.size ≤ b
theorem run_append_row (base : Nat) (t ty e : TypeId) (i : TypeInfo) (z : Value) (size bytes : Nat) (ht : P.underlying t = some (.slice e)) (hi : P.info? e = some i) (hz : i.zero = some z)
    (hsize : i.size = size) (hby : i.bytes = bytes) (hzs : z.cells.size = size) (_hsz : 0 < size)
    (v : Value) (n : Nat) (xs : List Value) (hown : w.ownsRow base e size v n xs)
    (a : Addr) (m c : Nat) (news : List Value) (hl : news.length = m * size) (hnews : ∀ j u, news[j]? = some u → w.cell? (a.add j) = some u) (h1 : ∀ u ∈ news, u.oneCell' = true)
    (h63 : n + m ≤ maxLen) (hbytes : (n + m) * bytes ≤ 140737488355328) (hbase : base ≤ w.heap.size) :
    ∃ v' w', (Builtin.append_ #[t, t] ty #[v, .slice (some a) m c]).run P w = .ok v' w' ∧ w'.ownsRow base e size v' (n + m) (xs ++ news) ∧ w.grownBy w' v.ownBlock ∧ MovedTo w v v' := by
  subst hsize
  subst hby
  have hsmall : n + m ≤ 9223372036854775807 := by simp only [maxLen] at h63; omega
  have hlen : (xs ++ news).length = (n + m) * i.size := by rw [List.length_append, hown.1, hl, Nat.add_mul]
  have grown : ∀ (old : Nat), old < n + m → ∀ (row : Option Nat),
      (w.drew.alloc (.cells (xs.toArray ++ news.toArray ++ Builtin.zeroCells z.cells (grownCap w (n + m) old e - (n + m))) e)).ownsRow base e i.size
        (.slice (some ⟨w.heap.size, 0, none⟩) (n + m) (grownCap w (n + m) old e)) (n + m) (xs ++ news) ∧
      w.grownBy (w.drew.alloc (.cells (xs.toArray ++ news.toArray ++ Builtin.zeroCells z.cells (grownCap w (n + m) old e - (n + m))) e)) row := by
    intro old ho row
    have hge := grownCap_ge w (n + m) old e
    have hcm : grownCap w (n + m) old e ≤ maxLen := grownCap_le_maxLen w (n + m) old e h63
    refine ⟨⟨hlen, .inr ⟨w.heap.size, _, _, rfl, hbase, heap_alloc_new w.drew _, hge, hcm, ?_, ?_⟩⟩, ⟨rfl, rfl, rfl, by simp, fun k hk _ => Below.heap_alloc w.drew _ k hk⟩⟩
    · simp only [Array.size_append, List.size_toArray, size_zeroCells, hzs, hown.1, hl, ← Nat.add_mul]
      congr 1
      omega
    · simp only [Array.toList_append, List.append_assoc]
      rw [← List.append_assoc, ← hlen]
      exact List.take_left
  rcases hown.2 with ⟨rfl, rfl⟩ | ⟨g, cap, cur, rfl, hbg, hg, hnc, hcm, hcs, htake⟩
  · have hx : xs = [] := List.eq_nil_of_length_eq_zero (by simpa using hown.1)
    subst hx
    by_cases hm : m = 0
    · subst hm
      have hn : news = [] := List.eq_nil_of_length_eq_zero (by simpa using hl)
      subst hn
      refine ⟨.slice none 0 0, w, ?_, World.ownsRow_nil w base e i.size, ⟨rfl, rfl, rfl, Nat.le_refl _, fun _ _ _ => rfl⟩, .inl rfl⟩
      simp [Builtin.append_, run_underlying ht, sizeOf, typeInfo, hi, Builtin.lenOf, Builtin.firstCells, loadCells, loadCellsFrom]
    · have hr := run_append_nil (P := P) w t ty e i z ht hi hz a m c news hl hnews (by omega) (by omega) (by have hb := hbytes; simp only [Nat.zero_add] at hb; omega)
      have hgr := grown 0 (by omega) (Value.ownBlock (.slice none 0 0))
      simp only [Nat.zero_add, List.nil_append, Array.empty_append] at hgr ⊢
      exact ⟨_, _, hr, hgr.1, hgr.2, .inr ⟨_, rfl, Nat.le_refl _⟩⟩
  · by_cases hroom : n + m ≤ cap
    · have hfit : n * i.size + news.length ≤ cur.size := by rw [hl, hcs, ← Nat.add_mul]; exact Nat.mul_le_mul_right _ hroom
      have hr := run_append_room (P := P) w t ty e i ht hi g n cap cur hg a m c news hl hnews h1 hroom hfit
      refine ⟨_, _, hr, ⟨hlen, .inr ⟨g, cap, _, rfl, hbg, setRow_heap w g cur _ e _ hg, hroom, hcm, ?_, ?_⟩⟩, ⟨rfl, rfl, rfl, by simp, fun k _ hk => setRow_other w g k _ (fun e => hk (by simp [Value.ownBlock, e]))⟩, .inl rfl⟩
      · simp only [List.size_toArray, List.length_append, List.length_take, List.length_drop, Array.length_toList]
        omega
      · rw [htake, ← hlen]
        exact List.take_left
    · have holds : ∀ j u, xs[j]? = some u → w.cell? ((⟨g, 0, none⟩ : Addr).add j) = some u := hown.cells (g := g) rfl
      have hr := run_append_grow (P := P) w t ty e i z ht hi hz ⟨g, 0, none⟩ n cap xs hown.1 holds a m c news hl hnews (by omega) (by omega) (growslice_fits (by omega) hbytes)
      have hgr := grown cap (by omega) (Value.ownBlock (.slice (some ⟨g, 0, none⟩) n cap))
      exact ⟨_, _, hr, hgr.1, hgr.2, .inr ⟨_, rfl, Nat.le_refl _⟩⟩
theorem wpList_append_row {ops : Array Oper} {rest : List Oper} {o : Oper} {a : Act} {Q : Exit → Act → World → Prop} (hgd : o.guard = none) (s x : Operand) (t : TypeId)
    (ho : o.op = .call { callee := .builtin .append, args := #[s, x], argTypes := #[t, t] })
    (base : Nat) (e : TypeId) (i : TypeInfo) (z : Value) (size bytes : Nat) (ht : P.underlying t = some (.slice e)) (hi : P.info? e = some i) (hz : i.zero = some z)
    (hsize : i.size = size) (hby : i.bytes = bytes) (hzs : z.cells.size = size) (hsz : 0 < size)
    (v : Value) (n : Nat) (xs : List Value) (hs : a.eval s = v) (hown : w.ownsRow base e size v n xs)
    (y : Value) (m : Nat) (news : List Value) (hx : a.eval x = y) (hrow : RowV w y m size news) (h1 : ∀ u ∈ news, u.oneCell' = true)
    (h63 : n + m ≤ maxLen) (hbytes : (n + m) * bytes ≤ 140737488355328) (hbase : base ≤ w.heap.size)
    (h : ∀ v' w', w'.ownsRow base e size v' (n + m) (xs ++ news) → w.grownBy w' v.ownBlock → MovedTo w v v' → wpList P ops Q rest (a.put o.dst v') w') : wpList P ops Q (o :: rest) a w := by
  obtain ⟨hlen, _, ao, cap, rfl, hcap, hr⟩ := hrow
  cases ao with
  | none =>
    have h0 : m = 0 ∧ cap = 0 := by
      rcases hr with ⟨h0, h2⟩ | ⟨b, off, h2, _⟩
      · exact ⟨h0, h2 rfl⟩
      · cases h2
    obtain ⟨rfl, rfl⟩ := h0
    have hn : news = [] := List.eq_nil_of_length_eq_zero (by simpa using hlen)
    subst hn
    refine wpList_append_own_none hgd s x t ho base e i size ht hi v n xs hs hown hx ?_
    exact h v w (by simpa using hown) ⟨rfl, rfl, rfl, Nat.le_refl _, fun _ _ _ => rfl⟩ (.inl rfl)
  | some ad =>
    have hnews : ∀ j u, news[j]? = some u → w.cell? (ad.add j) = some u := by
      intro j u hu
      have hj := (List.getElem?_eq_some_iff.1 hu).1
      rcases hr with ⟨h0, _⟩ | ⟨b, off, e1, _, hc⟩
      · subst h0
        simp at hlen
        subst hlen
        simp at hj
      · injection e1 with e1
        subst e1
        rw [Addr.add_mid]
        exact hc j u hu
    refine wpList_plain hgd fun K hK => ?_
    obtain ⟨v', w', hrun, h2, h3, h4⟩ := run_append_row (P := P) w base t o.type e i z size bytes ht hi hz hsize hby hzs hsz v n xs hown ad m cap news hlen hnews h1 h63 hbytes hbase
    unfold Oper.wp execOp
    simp only [ho, resolve, invoke, builtin, Sem.run_bind, Sem.run_pure, Result.andThen_ok, List.map_toArray, List.map_cons, List.map_nil, hs, hx, hrun]
    exact hK _ _ (h v' w' h2 h3 h4)
end
/-- All but these blocks are as they were. -/
theorem ownsRow_keep {w w' : World} {base : Nat} {e : TypeId} {size n : Nat} {v : Value} {xs : List Value} (h : w.ownsRow base e size v n xs) {P : Nat → Prop} (hk : Keeps P w w') (hp : ∀ b, v.ownBlock = some b → P b) : w'.ownsRow base e size v n xs := by
  refine ⟨h.1, ?_⟩
  rcases h.2 with hn | ⟨g, cap, cur, rfl, hb, hgg, rest⟩
  · exact .inl hn
  · exact .inr ⟨g, cap, cur, rfl, hb, (hk.2 g (Array.getElem?_eq_some_iff.1 hgg).1 (hp g rfl)).trans hgg, rest⟩
end Go.Proofs.YtegengnffdlplaaGreatDoor
namespace Go.Proofs.YtegengnffdlplaaGreatDoor
open Go.RowKit Go.MapKept
open Go.ChangeMaps (setBlock)

/-- A rib's number, a name, and marks as a text. -/
abbrev Ek := Int × ByteArray × ByteArray
def putE (tk : Ek → Option Int) (p : Ek) (c : Int) : Ek → Option Int := fun q => if q = p then some c else tk q
def ek (p : Ek) : Value := .agg #[.int .i64 p.1, .string p.2.1, .string p.2.2]
theorem ek_inj {p q : Ek} (h : ek p = ek q) : p = q := by
  obtain ⟨a, b, c⟩ := p
  obtain ⟨a', b', c'⟩ := q
  simp [ek] at h
  obtain ⟨rfl, rfl, rfl⟩ := h
  rfl
theorem bytes_iff {s t : ByteArray} : s.toList = t.toList ↔ s = t := ⟨fun h => Go.WideShapes.bytes_inj (by rw [ByteArray.toList_eq, ByteArray.toList_eq] at h; exact h), fun h => by rw [h]⟩
theorem zeroIntE (w : World) : (zeroValue 3).run Tryz.prog w = .ok (.int .i64 0) w := by kernel_rfl
theorem lookE_nil (p : Ek) (w : World) : (Instr.lookup 60 (.map none) (ek p) false).run Tryz.prog w = .ok (.int .i64 0) w := by kernel_rfl
set_option maxRecDepth 100000 in
theorem eq_ek (p q : Ek) (w : World) : (Op.equal 68 (ek p) (ek q)).run Tryz.prog w = .ok (decide (p = q)) w := by
  obtain ⟨a, b, c⟩ := p
  obtain ⟨a', b', c'⟩ := q
  unfold ek Op.equal Op.maxDepth
  go_simp
  by_cases h1 : a = a' <;> by_cases h2 : b = b' <;> by_cases h3 : c = c' <;> simp [h1, h2, h3, bytes_iff]
theorem check_ek (p : Ek) (w : World) : (Instr.checkKey false 10000 68 (ek p)).run Tryz.prog w = .ok () w := by kernel_rfl
theorem checkE_ek (p : Ek) (w : World) : (Instr.checkKey true 10000 68 (ek p)).run Tryz.prog w = .ok () w := by kernel_rfl
theorem find_ek (w : World) (p : Ek) : ∀ (es : List MapEntry) (i : Nat), (∀ e ∈ es, ∃ q, e.key = ek q) →
    ((Instr.findAsking 68 (ek p) es i).run Tryz.prog w = .ok none w ∧ ∀ e ∈ es, e.key ≠ ek p) ∨
    ∃ j e, (Instr.findAsking 68 (ek p) es i).run Tryz.prog w = .ok (some (i + j, e.val)) w ∧ es[j]? = some e ∧ e.key = ek p
  | [], i, _ => Or.inl ⟨by simp [Instr.findAsking], by simp⟩
  | e :: es, i, hall => by
    obtain ⟨q, hq⟩ := hall e (by simp)
    have hr := eq_ek p q w
    rw [← hq] at hr
    by_cases hpq : p = q
    · right
      subst hpq
      refine ⟨0, e, ?_, rfl, hq⟩
      simp [Instr.findAsking, hr]
    · have hne : e.key ≠ ek p := fun h => hpq (ek_inj (h.symm.trans hq))
      rcases find_ek w p es (i + 1) (fun y hy => hall y (by simp [hy])) with ⟨h1, h2⟩ | ⟨j, e', h1, h2, h3⟩
      · left
        refine ⟨by simp [Instr.findAsking, hr, hpq, h1], fun y hy => ?_⟩
        rcases List.mem_cons.1 hy with rfl | hy
        · exact hne
        · exact h2 y hy
      · right
        exact ⟨j + 1, e', by simp [Instr.findAsking, hr, hpq, h1, Nat.add_assoc, Nat.add_comm 1 j], by simpa using h2, h3⟩
theorem wideEk : (match Tryz.prog.underlying 68 with | some (.array _ _) | some (.struct _) => true | _ => false) = true := by kernel_rfl
set_option maxRecDepth 100000 in
theorem findKey_ek (w : World) (x : Value) (es : List MapEntry) : (Instr.findKey 68 x es).run Tryz.prog w = (Instr.findAsking 68 x es).run Tryz.prog w := run_findKey_eq (w := w) (k := 68) wideEk x es
/-- The map in block b says tk. -/
structure SaysE (es : Array MapEntry) (tk : Ek → Option Int) : Prop where
  keys : ∀ e ∈ es.toList, ∃ q c, e.key = ek q ∧ e.val = .int .i64 c
  one : ∀ (i j : Nat) (e f : MapEntry), es.toList[i]? = some e → es.toList[j]? = some f → e.key = f.key → i = j
  got : ∀ e ∈ es.toList, ∀ q c, e.key = ek q → e.val = .int .i64 c → tk q = some c
  has : ∀ q c, tk q = some c → ∃ e ∈ es.toList, e.key = ek q
def MapE (w : World) (b : Nat) (tk : Ek → Option Int) : Prop := ∃ es clock, w.heap[b]? = some (.map es clock) ∧ SaysE es tk
theorem MapE.move {w w' : World} {b : Nat} {tk : Ek → Option Int} (h : MapE w b tk) (hk : w'.heap[b]? = w.heap[b]?) : MapE w' b tk := by
  obtain ⟨es, c, hb, hs⟩ := h
  exact ⟨es, c, hk.trans hb, hs⟩
theorem MapE.new (w : World) : MapE (w.alloc (.map #[] 0)) w.heap.size fun _ => none :=
  ⟨#[], 0, heap_alloc_new w _, by simp, by simp, by simp, fun _ _ h => by cases h⟩
theorem MapE.look {w : World} {b : Nat} {tk : Ek → Option Int} (h : MapE w b tk) (p : Ek) :
    (tk p = none ∧ (Instr.lookup 60 (.map (some b)) (ek p) false).run Tryz.prog w = .ok (.int .i64 0) w) ∨
    ∃ c, tk p = some c ∧ (Instr.lookup 60 (.map (some b)) (ek p) false).run Tryz.prog w = .ok (.int .i64 c) w := by
  obtain ⟨es, clock, hb, hs⟩ := h
  have hck : (Instr.checkKey es.isEmpty 10000 68 (ek p)).run Tryz.prog w = .ok () w := by
    cases es.isEmpty
    · exact check_ek p w
    · exact checkE_ek p w
  have hfe := findKey_ek w (ek p) es.toList
  rcases find_ek w p es.toList 0 (fun e he => by obtain ⟨q, c, h1, _⟩ := hs.keys e he; exact ⟨q, h1⟩) with ⟨h1, h2⟩ | ⟨j, e0, h1, h2, h3⟩
  · rw [h1] at hfe
    refine .inl ⟨?_, by simp [Instr.lookup, run_underlying Tryz.underlying60, MapKept.run_getObj_map hb, hck, hfe, zeroIntE, Result.andThen]⟩
    cases htk : tk p with
    | none => rfl
    | some c =>
      obtain ⟨e, he, hk⟩ := hs.has p c htk
      exact absurd hk (h2 e he)
  · rw [h1] at hfe
    have hm := List.mem_of_getElem? h2
    obtain ⟨q, c, hk, hv⟩ := hs.keys e0 hm
    refine .inr ⟨c, hs.got e0 hm p c h3 hv, ?_⟩
    rw [hv] at hfe
    simp [Instr.lookup, run_underlying Tryz.underlying60, MapKept.run_getObj_map hb, hck, hfe, Result.andThen]
theorem stays_ek (p : Ek) (w : World) : (Instr.keyThatStays (ek p) (ek p)).run Tryz.prog w = .ok (ek p) w := by
  have hs : Instr.sameBits 10000 (ek p) (ek p) = true := by
    show Instr.sameBits (9999 + 1) (ek p) (ek p) = true
    have hb : ∀ x : ByteArray, (x == x) = true := fun x => by show (x.data == x.data) = true; exact beq_self_eq_true _
    simp [ek, Instr.sameBits, hb]
  simp [Instr.keyThatStays, hs]
theorem MapE.put {w : World} {b : Nat} {tk : Ek → Option Int} (h : MapE w b tk) (p : Ek) (c : Int) : ∃ w2, (Instr.mapUpdate 60 (.map (some b)) (ek p) (.int .i64 c)).run Tryz.prog w = .ok () w2 ∧
    MapE w2 b (putE tk p c) ∧ Keeps (fun x => x ≠ b) w w2 ∧ w2.os = w.os ∧ w2.tape = w.tape ∧ w2.output = w.output := by
  obtain ⟨es, clock, hb, hs⟩ := h
  have hbl := (Array.getElem?_eq_some_iff.1 hb).1
  have hck := check_ek p w
  have hfe := findKey_ek w (ek p) es.toList
  have hkeep : ∀ o, Keeps (fun x => x ≠ b) w (setBlock w b o) := fun o => ⟨by simp [setBlock], fun x hx hne => by simp [setBlock, Ne.symm hne]⟩
  rcases find_ek w p es.toList 0 (fun e he => by obtain ⟨q, c, h1, _⟩ := hs.keys e he; exact ⟨q, h1⟩) with ⟨h1, h2⟩ | ⟨j, e0, h1, h2, h3⟩
  · rw [h1] at hfe
    refine ⟨setBlock w b (.map (es.push ⟨ek p, .int .i64 c, clock⟩) (clock + 1)), ?_, ⟨es.push ⟨ek p, .int .i64 c, clock⟩, clock + 1, by simp [setBlock, hbl], ?_, ?_, ?_, ?_⟩, hkeep _, rfl, rfl, rfl⟩
    · simp [Instr.mapUpdate, run_underlying Tryz.underlying60, MapKept.run_getObj_map hb, hck, hfe, MapKept.run_setObj_map _ hb, Result.andThen, setBlock]
    · intro e he
      rw [Array.toList_push, List.mem_append, List.mem_singleton] at he
      rcases he with he | rfl
      · exact hs.keys e he
      · exact ⟨p, c, rfl, rfl⟩
    · intro i k e f he hf hef
      rw [Array.toList_push] at he hf
      rcases Nat.lt_or_ge i es.toList.length with hi | hi
      · rw [List.getElem?_append_left hi] at he
        rcases Nat.lt_or_ge k es.toList.length with hk | hk
        · rw [List.getElem?_append_left hk] at hf
          exact hs.one i k e f he hf hef
        · rw [List.getElem?_append_right hk] at hf
          have := (List.mem_singleton.1 (List.mem_of_getElem? hf))
          subst this
          exact absurd hef (h2 e (List.mem_of_getElem? he))
      · rw [List.getElem?_append_right hi] at he
        have h5 := (List.getElem?_eq_some_iff.1 he).1
        have h6 := (List.mem_singleton.1 (List.mem_of_getElem? he))
        subst h6
        rcases Nat.lt_or_ge k es.toList.length with hk | hk
        · rw [List.getElem?_append_left hk] at hf
          exact absurd hef.symm (h2 f (List.mem_of_getElem? hf))
        · rw [List.getElem?_append_right hk] at hf
          have h7 := (List.getElem?_eq_some_iff.1 hf).1
          simp only [List.length_singleton] at h5 h7
          omega
    · intro e he q d hq hd
      rw [Array.toList_push, List.mem_append, List.mem_singleton] at he
      unfold putE
      rcases he with he | rfl
      · have hne : q ≠ p := fun e2 => h2 e he (by rw [hq, e2])
        rw [if_neg hne]
        exact hs.got e he q d hq hd
      · have := ek_inj hq
        rw [if_pos this.symm]
        simp at hd
        rw [hd]
    · intro q d hq
      unfold putE at hq
      rw [Array.toList_push]
      split at hq
      · rename_i e
        exact ⟨_, List.mem_append_right _ (List.mem_singleton.2 rfl), by rw [e]⟩
      · obtain ⟨e, he, hk⟩ := hs.has q d hq
        exact ⟨e, List.mem_append_left _ he, hk⟩
  · rw [h1] at hfe
    have hj : j < es.size := by have := (List.getElem?_eq_some_iff.1 h2).1; simpa using this
    have hj2 : es[j]? = some e0 := by rw [← Array.getElem?_toList]; exact h2
    have hkey : (((es[j]?).map (·.key)).getD (ek p)) = ek p := by rw [hj2]; exact h3
    have hst := stays_ek p w
    have hml : (es.modify j fun e => { e with key := ek p, val := .int .i64 c }).toList = es.toList.set j { e0 with key := ek p, val := .int .i64 c } := by
      rw [Array.toList_modify]
      apply List.ext_getElem?
      intro k
      rw [List.getElem?_modify, List.getElem?_set]
      by_cases hjk : j = k
      · subst hjk
        rw [h2]
        simp [hj]
      · simp [hjk]
    refine ⟨setBlock w b (.map (es.modify j fun e => { e with key := ek p, val := .int .i64 c }) clock), ?_, ⟨es.modify j fun e => { e with key := ek p, val := .int .i64 c }, clock, by simp [setBlock, hbl], ?_, ?_, ?_, ?_⟩, hkeep _, rfl, rfl, rfl⟩
    · simp [Instr.mapUpdate, run_underlying Tryz.underlying60, MapKept.run_getObj_map hb, hck, hfe, hkey, hst, MapKept.run_setObj_map _ hb, Result.andThen, setBlock]
    · intro e he
      rw [hml] at he
      rcases List.mem_or_eq_of_mem_set he with he | rfl
      · exact hs.keys e he
      · exact ⟨p, c, rfl, rfl⟩
    · intro i k e f he hf hef
      rw [hml] at he hf
      have hat : ∀ (i : Nat) (e : MapEntry), (es.toList.set j { e0 with key := ek p, val := .int .i64 c })[i]? = some e → ∃ e', es.toList[i]? = some e' ∧ e'.key = e.key := by
        intro i e he
        rw [List.getElem?_set] at he
        split at he
        · rename_i hij
          subst hij
          split at he
          · injection he with he
            exact ⟨e0, h2, by rw [← he]; exact h3⟩
          · cases he
        · exact ⟨e, he, rfl⟩
      obtain ⟨e', he', hk1⟩ := hat i e he
      obtain ⟨f', hf', hk2⟩ := hat k f hf
      exact hs.one i k e' f' he' hf' (by rw [hk1, hk2, hef])
    · intro e he q d hq hd
      rw [hml] at he
      obtain ⟨i, hi⟩ := List.mem_iff_getElem?.1 he
      rw [List.getElem?_set] at hi
      unfold putE
      split at hi
      · split at hi
        · have hi2 := Option.some.inj hi
          rw [← hi2] at hq hd
          have hpq : p = q := ek_inj hq
          have hcd : c = d := by have := hd; simpa using this
          rw [if_pos hpq.symm, hcd]
        · cases hi
      · rename_i hij
        have hne : q ≠ p := fun e2 => hij (hs.one j i e0 e h2 hi (by rw [h3, hq, e2]))
        rw [if_neg hne]
        exact hs.got e (List.mem_of_getElem? hi) q d hq hd
    · intro q d hq
      unfold putE at hq
      rw [hml]
      split at hq
      · rename_i e
        exact ⟨_, List.mem_set (by simpa using hj) _, by rw [e]⟩
      · rename_i hne
        obtain ⟨e, he, hk⟩ := hs.has q d hq
        obtain ⟨i, hi⟩ := List.mem_iff_getElem?.1 he
        have hij : j ≠ i := fun e2 => by
          subst e2
          rw [h2] at hi
          injection hi with hi
          subst hi
          exact hne (ek_inj (hk.symm.trans h3))
        exact ⟨e, List.mem_iff_getElem?.2 ⟨i, by rw [List.getElem?_set_ne hij]; exact hi⟩, hk⟩
end Go.Proofs.YtegengnffdlplaaGreatDoor
