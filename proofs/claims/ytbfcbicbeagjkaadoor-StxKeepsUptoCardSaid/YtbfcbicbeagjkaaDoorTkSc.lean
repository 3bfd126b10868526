/- Wraps as lists of ints: which are sound, what two come to joined; slices of ints. No walk here. | The scanner in memory: its three cells, its text, and what its methods leave as it was. | Places in a text, and the words that are always written alike. No walk here. | Limbs stay through stores into blocks that hold none. No walk here. -/
import Derived.Test.YtbfcbicbeagjkaaDoorMem
import Derived.Test.YtbfcbicbeagjkaaDoorBase
import Derived.BigQuiet
import Derived.LoopTactic
import Derived.Deep.LoopGhost
import Derived.Deep.QuietTactic
namespace Go.Proofs.YtbfcbicbeagjkaaDoor
open Go.RowKit

/-- Ints as cells. -/
def ic (zs : List Int) : List Value := zs.map fun z => Value.int .i64 z
theorem ic_len (zs : List Int) : (ic zs).length = zs.length := by simp [ic]
theorem ic_app (a b : List Int) : ic (a ++ b) = ic a ++ ic b := by simp [ic]
theorem ic_one (zs : List Int) : ∀ u ∈ ic zs, u.oneCell' = true := by
  intro u hu
  obtain ⟨_, _, rfl⟩ := List.mem_map.1 hu
  rfl
def gz (zs : List Int) (i : Nat) : Int := zs.getD i 0
theorem gz_lt {zs : List Int} {i : Nat} (h : i < zs.length) : gz zs i = zs[i] := by unfold gz; simp [h]
theorem gz_tail (a : List Int) (i : Nat) : gz a.tail i = gz a (i + 1) := by
  unfold gz; cases a <;> simp
theorem gz_init {a : List Int} {i : Nat} (h : i + 1 < a.length) : gz a.dropLast i = gz a i := by
  unfold gz; rw [List.getD_eq_getElem?_getD, List.getD_eq_getElem?_getD, List.getElem?_dropLast, if_pos (by omega)]
theorem ic_at {zs : List Int} {j : Nat} (h : j < zs.length) : (ic zs)[j]? = some (.int .i64 (gz zs j)) := by
  rw [gz_lt h]; simp [ic, h]
theorem gz_eq {xs ys : List Int} (hl : xs.length = ys.length) (h : ∀ i, i < xs.length → gz xs i = gz ys i) : xs = ys := by
  apply List.ext_getElem hl
  intro i h1 h2
  have := h i h1
  rwa [gz_lt h1, gz_lt h2] at this

/-- The value v reads as the ints zs. -/
def Iz (w : World) (v : Value) (zs : List Int) : Prop := RowV w v zs.length 1 (ic zs)
theorem Iz.below {w w' : World} {v : Value} {zs : List Int} (h : Iz w v zs) (hb : Below w.heap.size w w') : Iz w' v zs := RowV.below h hb
theorem Iz.cases {w : World} {v : Value} {zs : List Int} (h : Iz w v zs) : zs.length ≤ maxLen ∧ ∃ ao cap, v = .slice ao zs.length cap ∧ zs.length ≤ cap ∧ ((zs = [] ∧ (ao = none → cap = 0)) ∨ ∃ b off, ao = some ⟨b, off, none⟩ ∧ b < w.heap.size ∧ ∀ j, j < zs.length → w.cell? ⟨b, off + j, none⟩ = some (.int .i64 (gz zs j))) := by
  obtain ⟨_, hm, ao, cap, hv, hc, hr⟩ := h
  refine ⟨hm, ao, cap, hv, hc, ?_⟩
  rcases hr with ⟨h0, h1⟩ | ⟨b, off, h1, h2, h3⟩
  · exact .inl ⟨List.eq_nil_of_length_eq_zero h0, h1⟩
  · exact .inr ⟨b, off, h1, h2, fun j hj => h3 j _ (ic_at hj)⟩
theorem Iz.mk {w : World} {zs : List Int} {n cap b off : Nat} (hn : n = zs.length) (hm : n ≤ maxLen) (hc : n ≤ cap) (hb : b < w.heap.size) (h : ∀ j, j < n → w.cell? ⟨b, off + j, none⟩ = some (.int .i64 (gz zs j))) : Iz w (.slice (some ⟨b, off, none⟩) n cap) zs := by
  subst hn
  refine ⟨by rw [ic_len]; omega, hm, some ⟨b, off, none⟩, cap, rfl, hc, .inr ⟨b, off, rfl, hb, fun j u hu => ?_⟩⟩
  have hj : j < zs.length := by rw [← ic_len zs]; exact (List.getElem?_eq_some_iff.1 hu).1
  rw [h j hj, ← hu, ic_at hj]
theorem Iz.nil (w : World) : Iz w (.slice none 0 0) [] := ⟨rfl, Nat.zero_le _, none, 0, rfl, Nat.le_refl _, .inl ⟨rfl, fun _ => rfl⟩⟩
theorem Iz.empty (w : World) (a : Addr) (cap : Nat) : Iz w (.slice (some a) 0 cap) [] := ⟨rfl, Nat.zero_le _, some a, cap, rfl, Nat.zero_le _, .inl ⟨rfl, fun h => by cases h⟩⟩
theorem Iz.of_own {w : World} {base : Nat} {e : TypeId} {v : Value} {n : Nat} {zs : List Int} (h : w.ownsRow base e 1 v n (ic zs)) : Iz w v zs := by
  have h1 := h.1
  rw [ic_len] at h1
  have : n = zs.length := by omega
  subst this
  exact RowV.of_own h
/-- Without the last one. -/
theorem Iz.init {w : World} {b off n cap : Nat} {zs : List Int} (h : Iz w (.slice (some ⟨b, off, none⟩) n cap) zs) : Iz w (.slice (some ⟨b, off, none⟩) (n - 1) cap) zs.dropLast := by
  obtain ⟨hm, ao, cap2, hv, hc, hr⟩ := h.cases
  injection hv with e1 e2 e3
  subst e1 e2 e3
  rcases hr with ⟨rfl, _⟩ | ⟨b2, off2, e1, hb, hcell⟩
  · exact Iz.empty _ _ _
  · injection e1 with e1
    injection e1 with e1 e2
    subst e1 e2
    refine Iz.mk (by simp) (by omega) (by omega) hb fun j hj => ?_
    rw [hcell j (by omega), gz_init (by omega)]
/-- Without the first one. -/
theorem Iz.rest {w : World} {b off n cap : Nat} {zs : List Int} (h : Iz w (.slice (some ⟨b, off, none⟩) n cap) zs) (hn : 0 < n) : Iz w (.slice (some ⟨b, off + 1, none⟩) (n - 1) (cap - 1)) zs.tail := by
  obtain ⟨hm, ao, cap2, hv, hc, hr⟩ := h.cases
  injection hv with e1 e2 e3
  subst e1 e2 e3
  rcases hr with ⟨rfl, _⟩ | ⟨b2, off2, e1, hb, hcell⟩
  · simp at hn
  · injection e1 with e1
    injection e1 with e1 e2
    subst e1 e2
    refine Iz.mk (by simp) (by omega) (by omega) hb fun j hj => ?_
    rw [Nat.add_assoc, Nat.add_comm 1 j, hcell (j + 1) (by omega), gz_tail]

/-- May it be a mark there? -/
def markB (n : Int) (i : Nat) : Bool := decide (0 < n) || (decide (n = -1) && decide (i = 0))
def mksB (m : List Int) : Bool := (List.range m.length).all fun j => markB (gz m j) j
theorem mksB_true {m : List Int} (h : ∀ j, j < m.length → markB (gz m j) j = true) : mksB m = true := by
  unfold mksB; rw [List.all_eq_true]; exact fun j hj => h j (List.mem_range.1 hj)
theorem mksB_at {m : List Int} (h : mksB m = true) {j : Nat} (hj : j < m.length) : markB (gz m j) j = true := by
  unfold mksB at h; rw [List.all_eq_true] at h; exact h j (List.mem_range.2 hj)
theorem mksB_false {m : List Int} {j : Nat} (hj : j < m.length) (h : markB (gz m j) j = false) : mksB m = false := by
  cases hm : mksB m with
  | false => rfl
  | true => rw [mksB_at hm hj] at h; cases h
/-- Shifts. -/
def zc (ss : List Int) : Nat := ss.countP fun z => z == 0
theorem zc_le (ss : List Int) : zc ss ≤ ss.length := List.countP_le_length
theorem zc_step {ss : List Int} {k : Nat} (h : k < ss.length) : zc (ss.take (k + 1)) = zc (ss.take k) + if gz ss k = 0 then 1 else 0 := by
  rw [gz_lt h]
  unfold zc
  rw [← List.take_append_getElem h, List.countP_append]
  congr 1
  by_cases h0 : ss[k] = 0
  · simp [h0]
  · simp [h0]
def sbsB (ss : List Int) : Bool := ss.all fun z => decide (0 ≤ z)
theorem sbsB_true {ss : List Int} (h : ∀ j, j < ss.length → 0 ≤ gz ss j) : sbsB ss = true := by
  unfold sbsB; rw [List.all_eq_true]
  intro z hz
  obtain ⟨i, hi, rfl⟩ := List.getElem_of_mem hz
  have := h i hi
  rw [gz_lt hi] at this
  simpa using this
theorem sbsB_at {ss : List Int} (h : sbsB ss = true) {j : Nat} (hj : j < ss.length) : 0 ≤ gz ss j := by
  unfold sbsB at h; rw [List.all_eq_true] at h
  have := h ss[j] (List.getElem_mem hj)
  rw [gz_lt hj]; simpa using this
theorem sbsB_false {ss : List Int} {j : Nat} (hj : j < ss.length) (h : gz ss j < 0) : sbsB ss = false := by
  cases hm : sbsB ss with
  | false => rfl
  | true => have := sbsB_at hm hj; omega
/-- Is it a wrap, whatever its size? -/
def sndS (m s : List Int) : Bool := mksB m && (sbsB s && decide (zc s = m.length))
def lrgB (m s : List Int) : Bool := decide (256 < m.length) || decide (256 < s.length)
def sndW (m s : List Int) : Bool := !lrgB m s && sndS m s
theorem sndW_len {m s : List Int} (h : sndW m s = true) : m.length ≤ 256 ∧ s.length ≤ 256 := by
  unfold sndW lrgB at h
  simp at h
  omega
theorem sndW_snd {m s : List Int} (h : sndW m s = true) : sndS m s = true := by
  unfold sndW at h
  rw [Bool.and_eq_true] at h
  exact h.2
theorem sndS_le {m s : List Int} (h : sndS m s = true) : m.length ≤ s.length := by
  unfold sndS at h
  simp at h
  have := zc_le s
  omega
/-- Do they take away a mark where they meet? -/
def endB (m s : List Int) : Bool := decide (0 < m.length) && (decide (gz m (m.length - 1) ≠ -1) && decide (gz s (s.length - 1) = 0))
def begB (n t : List Int) : Bool := decide (0 < n.length) && (decide (gz n 0 = -1) && decide (gz t 0 = 0))
def cutL (b : Bool) (m : List Int) : List Int := if b then m.dropLast else m
def cutF (b : Bool) (m : List Int) : List Int := if b then m.tail else m
def marryA (b : Bool) (m s n t : List Int) : List Int × List Int := (cutL b m ++ cutF b n, cutL b s ++ cutF b t)
def closeA (x : List Int × List Int) : List Int × List Int × Int := if lrgB x.1 x.2 then ([], [], 6) else if sndS x.1 x.2 then (x.1, x.2, 0) else ([], [], 2)
def wjA (m s n t : List Int) : List Int × List Int × Int := if sndW m s && sndW n t then closeA (marryA (endB m s && begB n t) m s n t) else ([], [], 2)
theorem joinA_bad {m s n t : List Int} (h : (sndW m s && sndW n t) = false) : wjA m s n t = ([], [], 2) := by unfold wjA; rw [h]; rfl
theorem joinA_ok {m s n t : List Int} (h1 : sndW m s = true) (h2 : sndW n t = true) : wjA m s n t = closeA (marryA (endB m s && begB n t) m s n t) := by unfold wjA; rw [h1, h2]; rfl
theorem closeA_large {x : List Int × List Int} (h : lrgB x.1 x.2 = true) : closeA x = ([], [], 6) := by unfold closeA; rw [h]; rfl
theorem closeA_bad {x : List Int × List Int} (h : lrgB x.1 x.2 = false) (h2 : sndS x.1 x.2 = false) : closeA x = ([], [], 2) := by unfold closeA; rw [h, h2]; rfl
theorem closeA_ok {x : List Int × List Int} (h : lrgB x.1 x.2 = false) (h2 : sndS x.1 x.2 = true) : closeA x = (x.1, x.2, 0) := by unfold closeA; rw [h, h2]; rfl
/-- A wrap's value. -/
structure Wr (w : World) (x : Value) (m s : List Int) : Prop where
  cells : ∃ mv sv, x = .agg #[mv, sv] ∧ Iz w mv m ∧ Iz w sv s
theorem Wr.below {w w' : World} {x : Value} {m s : List Int} (h : Wr w x m s) (hb : Below w.heap.size w w') : Wr w' x m s := by
  obtain ⟨mv, sv, h1, h2, h3⟩ := h.cells
  exact ⟨mv, sv, h1, h2.below hb, h3.below hb⟩
end Go.Proofs.YtbfcbicbeagjkaaDoor
namespace Go.Proofs.YtbfcbicbeagjkaaDoor
open Go.RowKit

theorem row6 {W : World} {g : Nat} {a0 a1 a2 a3 a4 a5 : Value} {e : TypeId} (h : W.heap[g]? = some (.cells #[a0, a1, a2, a3, a4, a5] e (0, 0))) :
    W.cell? ⟨g, 0, none⟩ = some a0 ∧ W.cell? ⟨g, 1, none⟩ = some a1 ∧ W.cell? ⟨g, 2, none⟩ = some a2 ∧ W.cell? ⟨g, 3, none⟩ = some a3 ∧ W.cell? ⟨g, 4, none⟩ = some a4 ∧ W.cell? ⟨g, 5, none⟩ = some a5 :=
  ⟨cell_heap h 0, cell_heap h 1, cell_heap h 2, cell_heap h 3, cell_heap h 4, cell_heap h 5⟩

/-- Only block g of the old ones has changed. -/
structure Ks (g : Nat) (w w' : World) : Prop where
  bel : Below g w w'
  oth : ∀ b, b < w.heap.size → b ≠ g → w'.heap[b]? = w.heap[b]?
theorem Ks.refl (g : Nat) (w : World) : Ks g w w := ⟨Below.refl _ _, fun _ _ _ => rfl⟩
theorem Ks.size {g : Nat} {w w' : World} (h : Ks g w w') : w.heap.size ≤ w'.heap.size := h.bel.size
theorem Ks.trans {g : Nat} {w w' w'' : World} (h : Ks g w w') (h' : Ks g w' w'') : Ks g w w'' :=
  ⟨h.bel.trans h'.bel, fun b hb hne => (h'.oth b (Nat.lt_of_lt_of_le hb h.size) hne).trans (h.oth b hb hne)⟩
theorem Ks.alloc {g : Nat} {w w' : World} (h : Ks g w w') (hg : g < w.heap.size) (o : Obj) : Ks g w (w'.alloc o) :=
  ⟨h.bel.alloc (by have := h.size; omega) o, fun b hb hne => (Below.heap_alloc _ _ _ (Nat.lt_of_lt_of_le hb h.size)).trans (h.oth b hb hne)⟩
theorem Ks.set {g : Nat} {w w' : World} (h : Ks g w w') (j : Nat) (u : Value) : Ks g w (w'.setCell ⟨g, j, none⟩ u) :=
  ⟨h.bel.setCell (Nat.le_refl _) u, fun b hb hne => (Below.heap_setCell _ _ _ _ hne).trans (h.oth b hb hne)⟩
theorem Ks.drew {g : Nat} {w w' : World} (h : Ks g w w') : Ks g w w'.drew := ⟨h.bel.drew, h.oth⟩
theorem Ks.drewN {g : Nat} {w w' : World} (h : Ks g w w') (n : Nat) : Ks g w (w'.drewN n) := ⟨below_drewN h.bel n, h.oth⟩
/-- Whatever leaves all that was there leaves the scanner, too. -/
theorem Ks.below {g : Nat} {w w' w'' : World} (h : Ks g w w') (hg : g < w.heap.size) (hb : Below w'.heap.size w' w'') : Ks g w w'' :=
  ⟨h.bel.trans (hb.mono (by have := h.size; omega)), fun b hb' hne => (hb.block b (Nat.lt_of_lt_of_le hb' h.size)).trans (h.oth b hb' hne)⟩
theorem Ks.frame {g B : Nat} {w w' : World} (h : Ks g w w') (hB : B ≤ g) : Below B w w' := h.bel.mono hB

/-- Sl, through whatever leaves the slice's block as it was. -/
theorem Sl.ks {k : IntKind} {g : Nat} {w w' : World} {v : Value} {xs : List Nat} (h : Sl k w v xs) (hk : Ks g w w') (hn : xs ≠ [] → v.ownBlock ≠ some g) : Sl k w' v xs := by
  obtain ⟨h1, ao, c, rfl, h2, h3⟩ := h
  refine ⟨h1, ao, c, rfl, h2, ?_⟩
  rcases h3 with ⟨h3, h4⟩ | ⟨b, off, rfl, h4, h5⟩
  · exact .inl ⟨h3, h4⟩
  · refine .inr ⟨b, off, rfl, Nat.lt_of_lt_of_le h4 hk.size, fun j hj => ?_⟩
    rw [← h5 j hj]
    exact World.cell?_of_block (hk.oth b h4 (fun e => hn (by intro h; rw [h] at hj; simp at hj) (by rw [← e]; rfl)))

end Go.Proofs.YtbfcbicbeagjkaaDoor
namespace Go.Proofs.YtbfcbicbeagjkaaDoor
open Go.RowKit

end Go.Proofs.YtbfcbicbeagjkaaDoor
namespace Go.Proofs.YtbfcbicbeagjkaaDoor
open Go.RowKit

/-- All limbs that lie in w lie in w', too. -/
structure U32S (w w' : World) : Prop where
  size : w.heap.size ≤ w'.heap.size
  cell : ∀ b o x, w.cell? ⟨b, o, none⟩ = some (.int .u32 x) → w'.cell? ⟨b, o, none⟩ = some (.int .u32 x)
theorem U32S.refl (w : World) : U32S w w := ⟨Nat.le_refl _, fun _ _ _ h => h⟩
theorem U32S.trans {w w' w'' : World} (h : U32S w w') (h' : U32S w' w'') : U32S w w'' := ⟨Nat.le_trans h.size h'.size, fun b o x e => h'.cell b o x (h.cell b o x e)⟩
theorem U32S.below {w w' : World} (h : Below w.heap.size w w') : U32S w w' := by
  refine ⟨h.size, fun b o x e => ?_⟩
  rw [h.cell (p := ⟨b, o, none⟩) (World.block_lt_of_cell? w _ e)]; exact e
/-- Block g holds no limb. -/
def NoU (w : World) (g : Nat) : Prop := ∀ o x, w.cell? ⟨g, o, none⟩ ≠ some (.int .u32 x)
theorem U32S.ks {g : Nat} {w w' : World} (h : Ks g w w') (hg : NoU w g) : U32S w w' := by
  refine ⟨h.size, fun b o x e => ?_⟩
  have hb : b < w.heap.size := World.block_lt_of_cell? w ⟨b, o, none⟩ e
  by_cases hbg : b = g
  · subst hbg; exact absurd e (hg o x)
  · rw [World.cell?_of_block (w := w) (h.oth b hb hbg)]; exact e
theorem NoU.of_cells {w : World} {g : Nat} {cs : Array Value} {e : TypeId} {fz : Nat × Nat} (h : w.heap[g]? = some (.cells cs e fz)) (hcs : ∀ v ∈ cs, ∀ x, v ≠ .int .u32 x) : NoU w g := by
  intro o x hx
  rw [cell_of_row w g o cs e fz h] at hx
  exact hcs _ (Array.mem_of_getElem? hx) x rfl
theorem Sl.u32s {w w' : World} {v : Value} {xs : List Nat} (h : Sl .u32 w v xs) (hk : U32S w w') : Sl .u32 w' v xs := by
  obtain ⟨h1, ao, c, rfl, h2, h3⟩ := h
  refine ⟨h1, ao, c, rfl, h2, ?_⟩
  rcases h3 with h3 | ⟨b, off, rfl, h4, h5⟩
  · exact .inl h3
  · exact .inr ⟨b, off, rfl, Nat.lt_of_lt_of_le h4 hk.size, fun j hj => hk.cell _ _ _ (h5 j hj)⟩
end Go.Proofs.YtbfcbicbeagjkaaDoor
