/- The scanner in memory: its three cells, its text, and what its methods leave as it was. | Places in a text, and the words that are always written alike. No walk here. | Limbs stay through stores into blocks that hold none. No walk here. -/
import Derived.Test.YtocladhggcaokaaGreatDoorBase
import Derived.BigQuiet
import Derived.LoopTactic
import Derived.Deep.LoopGhost
import Derived.Deep.QuietTactic
namespace Go.Proofs.YtocladhggcaokaaGreatDoor
open Go.RowKit

theorem row6 {W : World} {g : Nat} {a0 a1 a2 a3 a4 a5 : Value} {e : TypeId} (h : W.heap[g]? = some (.cells #[a0, a1, a2, a3, a4, a5] e (0, 0))) :
    W.cell? ⟨g, 0, none⟩ = some a0 ∧ W.cell? ⟨g, 1, none⟩ = some a1 ∧ W.cell? ⟨g, 2, none⟩ = some a2 ∧ W.cell? ⟨g, 3, none⟩ = some a3 ∧ W.cell? ⟨g, 4, none⟩ = some a4 ∧ W.cell? ⟨g, 5, none⟩ = some a5 :=
  ⟨cell_heap h 0, cell_heap h 1, cell_heap h 2, cell_heap h 3, cell_heap h 4, cell_heap h 5⟩

/-- Only block g of the old ones has changed. -/
structure Ks (g : Nat) (w w' : World) : Prop where
  bel : Below g w w'
  oth : ∀ b, b < w.heap.size → b ≠ g → w'.heap[b]? = w.heap[b]?
theorem Ks.refl (g : Nat) (w : World) : Ks g w w := ⟨Below.refl _ _, fun _ _ _ => rfl⟩
theorem Ks.size {g : Nat} {w w' : World} (h : Ks g w w') : w.heap.size ≤ w'.heap.size := h.bel.size
theorem Ks.trans {g : Nat} {w w' w'' : World} (h : Ks g w w') (h' : Ks g w' w'') : Ks g w w'' :=
  ⟨h.bel.trans h'.bel, fun b hb hne => (h'.oth b (Nat.lt_of_lt_of_le hb h.size) hne).trans (h.oth b hb hne)⟩
theorem Ks.alloc {g : Nat} {w w' : World} (h : Ks g w w') (hg : g < w.heap.size) (o : Obj) : Ks g w (w'.alloc o) :=
  ⟨h.bel.alloc (by have := h.size; omega) o, fun b hb hne => (Below.heap_alloc _ _ _ (Nat.lt_of_lt_of_le hb h.size)).trans (h.oth b hb hne)⟩
theorem Ks.set {g : Nat} {w w' : World} (h : Ks g w w') (j : Nat) (u : Value) : Ks g w (w'.setCell ⟨g, j, none⟩ u) :=
  ⟨h.bel.setCell (Nat.le_refl _) u, fun b hb hne => (Below.heap_setCell _ _ _ _ hne).trans (h.oth b hb hne)⟩
/-- A store into a new block. -/
theorem Ks.setNew {g : Nat} {w w' : World} (h : Ks g w w') (hg : g < w.heap.size) {p : Addr} (hp : w.heap.size ≤ p.block) (u : Value) : Ks g w (w'.setCell p u) :=
  ⟨h.bel.setCell (by omega) u, fun b hb hne => (Below.heap_setCell _ _ _ _ (by omega)).trans (h.oth b hb hne)⟩
theorem Ks.drew {g : Nat} {w w' : World} (h : Ks g w w') : Ks g w w'.drew := ⟨h.bel.drew, h.oth⟩
theorem Ks.drewN {g : Nat} {w w' : World} (h : Ks g w w') (n : Nat) : Ks g w (w'.drewN n) := ⟨below_drewN h.bel n, h.oth⟩
/-- Whatever leaves all that was there leaves the scanner, too. -/
theorem Ks.below {g : Nat} {w w' w'' : World} (h : Ks g w w') (hg : g < w.heap.size) (hb : Below w'.heap.size w' w'') : Ks g w w'' :=
  ⟨h.bel.trans (hb.mono (by have := h.size; omega)), fun b hb' hne => (hb.block b (Nat.lt_of_lt_of_le hb' h.size)).trans (h.oth b hb' hne)⟩
theorem Ks.frame {g B : Nat} {w w' : World} (h : Ks g w w') (hB : B ≤ g) : Below B w w' := h.bel.mono hB

/-- Sl, through whatever leaves the slice's block as it was. -/
theorem Sl.ks {k : IntKind} {g : Nat} {w w' : World} {v : Value} {xs : List Nat} (h : Sl k w v xs) (hk : Ks g w w') (hn : xs ≠ [] → v.ownBlock ≠ some g) : Sl k w' v xs := by
  obtain ⟨h1, ao, c, rfl, h2, h3⟩ := h
  refine ⟨h1, ao, c, rfl, h2, ?_⟩
  rcases h3 with ⟨h3, h4⟩ | ⟨b, off, rfl, h4, h5⟩
  · exact .inl ⟨h3, h4⟩
  · refine .inr ⟨b, off, rfl, Nat.lt_of_lt_of_le h4 hk.size, fun j hj => ?_⟩
    rw [← h5 j hj]
    exact World.cell?_of_block (hk.oth b h4 (fun e => hn (by intro h; rw [h] at hj; simp at hj) (by rw [← e]; rfl)))

/-- A character. -/
def ScQ (c : Nat) : Prop := c < 55296 ∨ (57343 < c ∧ c ≤ 1114111)
end Go.Proofs.YtocladhggcaokaaGreatDoor
namespace Go.Proofs.YtocladhggcaokaaGreatDoor
open Go.RowKit

/-- The first place from i on where p holds, or the end. -/
def til (p : Nat → Bool) (cs : List Nat) (i : Nat) : Nat :=
  if i < cs.length then if p (limb cs i) then i else til p cs (i + 1) else i
termination_by cs.length - i
theorem til_end {p : Nat → Bool} {cs : List Nat} {i : Nat} (h : cs.length ≤ i) : til p cs i = i := by rw [til, if_neg (by omega)]
theorem til_stop {p : Nat → Bool} {cs : List Nat} {i : Nat} (h : i < cs.length) (hp : p (limb cs i) = true) : til p cs i = i := by rw [til, if_pos h, if_pos hp]
theorem til_step {p : Nat → Bool} {cs : List Nat} {i : Nat} (h : i < cs.length) (hp : p (limb cs i) = false) : til p cs i = til p cs (i + 1) := by
  rw [til, if_pos h, if_neg (by simp [hp])]
theorem til_ge (p : Nat → Bool) (cs : List Nat) : ∀ (n i : Nat), cs.length - i = n → i ≤ til p cs i
  | 0, i, h => by rw [til_end (by omega)]; omega
  | n + 1, i, h => by
    cases hp : p (limb cs i) with
    | true => rw [til_stop (by omega) hp]; omega
    | false => rw [til_step (by omega) hp]; have := til_ge p cs n (i + 1) (by omega); omega
theorem til_le' {p : Nat → Bool} {cs : List Nat} : ∀ (n i : Nat), cs.length - i = n → i ≤ cs.length → til p cs i ≤ cs.length
  | 0, i, h, hi => by rw [til_end (by omega)]; omega
  | n + 1, i, h, hi => by
    cases hp : p (limb cs i) with
    | true => rw [til_stop (by omega) hp]; omega
    | false => rw [til_step (by omega) hp]; exact til_le' n (i + 1) (by omega) (by omega)
theorem til_le {p : Nat → Bool} {cs : List Nat} {i : Nat} (hi : i ≤ cs.length) : til p cs i ≤ cs.length := til_le' _ i rfl hi
theorem til_ge' {p : Nat → Bool} {cs : List Nat} {i : Nat} : i ≤ til p cs i := til_ge p cs _ i rfl
theorem til_at' {p : Nat → Bool} {cs : List Nat} : ∀ (n i : Nat), cs.length - i = n → til p cs i < cs.length → p (limb cs (til p cs i)) = true
  | 0, i, h, hl => by rw [til_end (by omega)] at hl; omega
  | n + 1, i, h, hl => by
    cases hp : p (limb cs i) with
    | true => rw [til_stop (by omega) hp]; exact hp
    | false => rw [til_step (by omega) hp] at hl ⊢; exact til_at' n (i + 1) (by omega) hl
theorem til_at {p : Nat → Bool} {cs : List Nat} {i : Nat} (h : til p cs i < cs.length) : p (limb cs (til p cs i)) = true := til_at' _ i rfl h
theorem til_no' {p : Nat → Bool} {cs : List Nat} : ∀ (n i : Nat), cs.length - i = n → ∀ j, i ≤ j → j < til p cs i → p (limb cs j) = false
  | 0, i, h, j, h1, h2 => by rw [til_end (by omega)] at h2; omega
  | n + 1, i, h, j, h1, h2 => by
    cases hp : p (limb cs i) with
    | true => rw [til_stop (by omega) hp] at h2; omega
    | false =>
      rw [til_step (by omega) hp] at h2
      rcases Nat.eq_or_lt_of_le h1 with rfl | h3
      · exact hp
      · exact til_no' n (i + 1) (by omega) j h3 h2
theorem til_no {p : Nat → Bool} {cs : List Nat} {i j : Nat} (h1 : i ≤ j) (h2 : j < til p cs i) : p (limb cs j) = false := til_no' _ i rfl j h1 h2
/-- A place that stands so is the one. -/
theorem til_is {p : Nat → Bool} {cs : List Nat} : ∀ (n i k : Nat), k - i = n → i ≤ k → k ≤ cs.length → (∀ j, i ≤ j → j < k → p (limb cs j) = false) → (k < cs.length → p (limb cs k) = true) → til p cs i = k
  | 0, i, k, h, hi, hk, _, h2 => by
    obtain rfl : k = i := by omega
    rcases Nat.lt_or_ge k cs.length with hl | hl
    · exact til_stop hl (h2 hl)
    · exact til_end hl
  | n + 1, i, k, h, hi, hk, h1, h2 => by
    rw [til_step (by omega) (h1 i (Nat.le_refl _) (by omega))]
    exact til_is n (i + 1) k (by omega) (by omega) hk (fun j a b => h1 j (by omega) b) h2

/-- The words that are always written alike: text, kind, name. -/
def mtab : List (List Nat × Nat × List Nat) := [([40], 1, []), ([41], 2, []), ([39], 6, [113, 117, 111, 116, 101]), ([96], 6, [113, 117, 97, 115, 105, 113, 117, 111, 116, 101]),
  ([44, 64], 6, [117, 110, 113, 117, 111, 116, 101, 45, 115, 112, 108, 105, 99, 105, 110, 103]), ([44], 6, [117, 110, 113, 117, 111, 116, 101]), ([35, 40], 3, []), ([35, 59], 5, []),
  ([35, 39], 6, [115, 121, 110, 116, 97, 120]), ([35, 96], 6, [113, 117, 97, 115, 105, 115, 121, 110, 116, 97, 120]),
  ([35, 44, 64], 6, [117, 110, 115, 121, 110, 116, 97, 120, 45, 115, 112, 108, 105, 99, 105, 110, 103]), ([35, 44], 6, [117, 110, 115, 121, 110, 116, 97, 120])]
def mText (k : Nat) : List Nat := (mtab.getD k ([], 0, [])).1
def mKind (k : Nat) : Nat := (mtab.getD k ([], 0, [])).2.1
def mName (k : Nat) : List Nat := (mtab.getD k ([], 0, [])).2.2
/-- Does t stand at i? -/
def pfx (t cs : List Nat) (i : Nat) : Bool := decide ((cs.drop i).take t.length = t)
def markA (cs : List Nat) (i : Nat) : Option Nat := (List.range 12).find? fun k => pfx (mText k) cs i
theorem markA_hit {cs : List Nat} {i k : Nat} (hk : k < 12) (h : pfx (mText k) cs i = true) (hno : ∀ j, j < k → pfx (mText j) cs i = false) : markA cs i = some k := by
  unfold markA
  rw [List.find?_range_eq_some]
  exact ⟨h, by simp [hk], fun j hj => by simp [hno j hj]⟩
theorem markA_none {cs : List Nat} {i : Nat} (hno : ∀ j, j < 12 → pfx (mText j) cs i = false) : markA cs i = none := by
  unfold markA
  rw [List.find?_range_eq_none]
  exact fun j hj => by simp [hno j hj]
theorem pfx_iff {t cs : List Nat} {i : Nat} : pfx t cs i = true ↔ (i + t.length ≤ cs.length ∧ ∀ j, j < t.length → limb cs (i + j) = limb t j) ∨ t = [] := by
  unfold pfx
  rw [decide_eq_true_iff]
  constructor
  · intro h
    by_cases ht : t = []
    · exact .inr ht
    left
    have hl := congrArg List.length h
    have h0 : 0 < t.length := List.length_pos_iff.2 ht
    simp at hl
    refine ⟨by omega, fun j hj => ?_⟩
    have e : limb ((cs.drop i).take t.length) j = limb t j := by rw [h]
    rw [← e]
    unfold limb
    simp [hj]
  · rintro (⟨h1, h2⟩ | rfl)
    · apply List.ext_getElem (by simp; omega)
      intro j a b
      have := h2 j b
      rw [limb_lt (by omega), limb_lt b] at this
      simpa using this
    · simp

/-- From i on, before k. -/
def cutN (cs : List Nat) (i k : Nat) : List Nat := (cs.drop i).take (k - i)
theorem cutN_len {cs : List Nat} {i k : Nat} (h : i ≤ k) (hk : k ≤ cs.length) : (cutN cs i k).length = k - i := by unfold cutN; simp; omega
theorem cutN_limb {cs : List Nat} {i k j : Nat} (hj : j < k - i) : limb (cutN cs i k) j = limb cs (i + j) := by unfold cutN limb; simp [hj]
theorem cutN_nil {cs : List Nat} (i : Nat) : cutN cs i i = [] := by unfold cutN; simp

end Go.Proofs.YtocladhggcaokaaGreatDoor
namespace Go.Proofs.YtocladhggcaokaaGreatDoor
open Go.RowKit

/-- All limbs that lie in w lie in w', too. -/
structure U32S (w w' : World) : Prop where
  size : w.heap.size ≤ w'.heap.size
  cell : ∀ b o x, w.cell? ⟨b, o, none⟩ = some (.int .u32 x) → w'.cell? ⟨b, o, none⟩ = some (.int .u32 x)
theorem U32S.refl (w : World) : U32S w w := ⟨Nat.le_refl _, fun _ _ _ h => h⟩
theorem U32S.trans {w w' w'' : World} (h : U32S w w') (h' : U32S w' w'') : U32S w w'' := ⟨Nat.le_trans h.size h'.size, fun b o x e => h'.cell b o x (h.cell b o x e)⟩
theorem U32S.below {w w' : World} (h : Below w.heap.size w w') : U32S w w' := by
  refine ⟨h.size, fun b o x e => ?_⟩
  rw [h.cell (p := ⟨b, o, none⟩) (World.block_lt_of_cell? w _ e)]; exact e
/-- Block g holds no limb. -/
def NoU (w : World) (g : Nat) : Prop := ∀ o x, w.cell? ⟨g, o, none⟩ ≠ some (.int .u32 x)
theorem U32S.ks {g : Nat} {w w' : World} (h : Ks g w w') (hg : NoU w g) : U32S w w' := by
  refine ⟨h.size, fun b o x e => ?_⟩
  have hb : b < w.heap.size := World.block_lt_of_cell? w ⟨b, o, none⟩ e
  by_cases hbg : b = g
  · subst hbg; exact absurd e (hg o x)
  · rw [World.cell?_of_block (w := w) (h.oth b hb hbg)]; exact e
theorem NoU.of_cells {w : World} {g : Nat} {cs : Array Value} {e : TypeId} {fz : Nat × Nat} (h : w.heap[g]? = some (.cells cs e fz)) (hcs : ∀ v ∈ cs, ∀ x, v ≠ .int .u32 x) : NoU w g := by
  intro o x hx
  rw [cell_of_row w g o cs e fz h] at hx
  exact hcs _ (Array.mem_of_getElem? hx) x rfl
theorem Sl.u32s {w w' : World} {v : Value} {xs : List Nat} (h : Sl .u32 w v xs) (hk : U32S w w') : Sl .u32 w' v xs := by
  obtain ⟨h1, ao, c, rfl, h2, h3⟩ := h
  refine ⟨h1, ao, c, rfl, h2, ?_⟩
  rcases h3 with h3 | ⟨b, off, rfl, h4, h5⟩
  · exact .inl h3
  · exact .inr ⟨b, off, rfl, Nat.lt_of_lt_of_le h4 hk.size, fun j hj => hk.cell _ _ _ (h5 j hj)⟩
end Go.Proofs.YtocladhggcaokaaGreatDoor
