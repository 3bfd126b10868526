/- What words a text has. No walk here. -/
import Derived.Test.YtocladhggcaokaaGreatDoorTkSc
import Derived.Test.YtocladhggcaokaaGreatDoorUEncMath
import Derived.Test.YtocladhggcaokaaGreatDoorAnsU
namespace Go.Proofs.YtocladhggcaokaaGreatDoor
open Go.RowKit

def enN (c : Nat) : Bool := enB (c : Int)
def blN (c : Nat) : Bool := blB (c : Int)
def nlN (c : Nat) : Bool := c == 10
def semN (c : Nat) : Bool := c == 59

/-- Behind what stands between words. -/
def skp (cs : List Nat) (i : Nat) : Nat :=
  if i < cs.length then if limb cs i = 59 then skp cs (til nlN cs (i + 1)) else if blN (limb cs i) then skp cs (i + 1) else i else i
termination_by cs.length - i
decreasing_by
  · have := @til_ge' nlN cs (i + 1); omega
  · omega
theorem skp_end {cs : List Nat} {i : Nat} (h : cs.length ≤ i) : skp cs i = i := by rw [skp, if_neg (by omega)]
theorem skp_semi {cs : List Nat} {i : Nat} (h : i < cs.length) (h1 : limb cs i = 59) : skp cs i = skp cs (til nlN cs (i + 1)) := by rw [skp, if_pos h, if_pos h1]
theorem skp_blank {cs : List Nat} {i : Nat} (h : i < cs.length) (h1 : limb cs i ≠ 59) (h2 : blN (limb cs i) = true) : skp cs i = skp cs (i + 1) := by rw [skp, if_pos h, if_neg h1, if_pos h2]
theorem skp_stop {cs : List Nat} {i : Nat} (h : i < cs.length) (h1 : limb cs i ≠ 59) (h2 : blN (limb cs i) = false) : skp cs i = i := by rw [skp, if_pos h, if_neg h1, if_neg (by simp [h2])]
theorem nl_semi {cs : List Nat} {i : Nat} (h : i < cs.length) (h1 : limb cs i = 59) : til nlN cs i = til nlN cs (i + 1) := til_step h (by rw [h1]; rfl)
theorem skp_facts {cs : List Nat} : ∀ (n i : Nat), cs.length - i = n → i ≤ skp cs i ∧ (i ≤ cs.length → skp cs i ≤ cs.length) ∧ (skp cs i < cs.length → limb cs (skp cs i) ≠ 59 ∧ blN (limb cs (skp cs i)) = false) := by
  intro n
  induction n using Nat.strongRecOn with
  | ind n ih =>
    intro i h
    rcases Nat.lt_or_ge i cs.length with hl | hl
    · by_cases h1 : limb cs i = 59
      · rw [skp_semi hl h1]
        have hg := @til_ge' nlN cs (i + 1)
        have hle := @til_le nlN cs (i + 1) (by omega)
        obtain ⟨a, b, c⟩ := ih (cs.length - til nlN cs (i + 1)) (by omega) _ rfl
        exact ⟨by omega, fun _ => b hle, c⟩
      · cases h2 : blN (limb cs i) with
        | true =>
          rw [skp_blank hl h1 h2]
          obtain ⟨a, b, c⟩ := ih (cs.length - (i + 1)) (by omega) _ rfl
          exact ⟨by omega, fun _ => b (by omega), c⟩
        | false =>
          rw [skp_stop hl h1 h2]
          exact ⟨Nat.le_refl _, fun _ => by omega, fun _ => ⟨h1, h2⟩⟩
    · rw [skp_end hl]
      exact ⟨Nat.le_refl _, fun h => h, fun h => by omega⟩

/-- What stands behind the x of an escape: the character, and the place behind it. -/
def numA (cs : List Nat) (i : Nat) : Option (Nat × Nat) :=
  if til semN cs i < cs.length then
    if til semN cs i = i then none else (namedA (120 :: encL (cutN cs i (til semN cs i)))).map fun c => (c, til semN cs i + 1)
  else none
/-- Behind the backslash. -/
def escA (cs : List Nat) (i : Nat) : Option (Nat × Nat) :=
  if i < cs.length then
    if limb cs i = 110 then some (10, i + 1) else if limb cs i = 116 then some (9, i + 1) else if limb cs i = 114 then some (13, i + 1)
    else if limb cs i = 92 ∨ limb cs i = 34 then some (limb cs i, i + 1) else if limb cs i = 120 then numA cs (i + 1) else none
  else none
theorem numA_gt {cs : List Nat} {i c j : Nat} (h : numA cs i = some (c, j)) : i < j ∧ j ≤ cs.length := by
  unfold numA at h
  have hg := @til_ge' semN cs i
  split at h
  · split at h
    · cases h
    · rename_i h1 h2
      rw [Option.map_eq_some_iff] at h
      obtain ⟨x, _, h⟩ := h
      injection h with h3 h4
      omega
  · cases h
theorem escA_gt {cs : List Nat} {i c j : Nat} (h : escA cs i = some (c, j)) : i < j ∧ j ≤ cs.length := by
  unfold escA at h
  split at h
  · rename_i hl
    repeat' split at h
    all_goals first
      | (injection h with h; injection h with h3 h4; omega)
      | (have := numA_gt h; omega)
      | cases h
  · cases h

/-- A string's characters behind its quote, and the place behind the other one. -/
def quoA (cs : List Nat) (i : Nat) (acc : List Nat) : Option (List Nat × Nat) :=
  if i < cs.length then
    if limb cs i = 34 then some (acc, i + 1)
    else match (if limb cs i = 92 then escA cs (i + 1) else some (limb cs i, i + 1)) with
      | none => none
      | some (c, j) => if acc.length = 4096 then none else if i < j then quoA cs j (acc ++ [c]) else none
  else none
termination_by cs.length - i
decreasing_by omega
/-- The next character of a string. -/
def nxA (cs : List Nat) (i : Nat) : Option (Nat × Nat) := if limb cs i = 92 then escA cs (i + 1) else some (limb cs i, i + 1)
theorem nxA_gt {cs : List Nat} {i c j : Nat} (hi : i < cs.length) (h : nxA cs i = some (c, j)) : i < j ∧ j ≤ cs.length := by
  unfold nxA at h
  split at h
  · have := escA_gt h; omega
  · injection h with h; injection h with h1 h2; omega
theorem quoA_out {cs : List Nat} {i : Nat} {acc : List Nat} (h : cs.length ≤ i) : quoA cs i acc = none := by rw [quoA, if_neg (by omega)]
theorem quoA_quote {cs : List Nat} {i : Nat} {acc : List Nat} (h : i < cs.length) (h1 : limb cs i = 34) : quoA cs i acc = some (acc, i + 1) := by rw [quoA, if_pos h, if_pos h1]
theorem quoA_bad {cs : List Nat} {i : Nat} {acc : List Nat} (h : i < cs.length) (h1 : limb cs i ≠ 34) (h2 : nxA cs i = none) : quoA cs i acc = none := by
  unfold nxA at h2
  rw [quoA, if_pos h, if_neg h1, h2]
theorem quoA_long {cs : List Nat} {i c j : Nat} {acc : List Nat} (h : i < cs.length) (h1 : limb cs i ≠ 34) (h2 : nxA cs i = some (c, j)) (h3 : acc.length = 4096) : quoA cs i acc = none := by
  unfold nxA at h2
  rw [quoA, if_pos h, if_neg h1, h2]
  exact if_pos h3
theorem quoA_step {cs : List Nat} {i c j : Nat} {acc : List Nat} (h : i < cs.length) (h1 : limb cs i ≠ 34) (h2 : nxA cs i = some (c, j)) (h3 : acc.length ≠ 4096) : quoA cs i acc = quoA cs j (acc ++ [c]) := by
  have hg := (nxA_gt h h2).1
  unfold nxA at h2
  rw [quoA, if_pos h, if_neg h1, h2]
  show (if acc.length = 4096 then none else if i < j then quoA cs j (acc ++ [c]) else none) = _
  rw [if_neg h3, if_pos hg]
theorem quoA_gt {cs : List Nat} : ∀ (n i : Nat) (acc l : List Nat) (j : Nat), cs.length - i = n → quoA cs i acc = some (l, j) → i < j ∧ j ≤ cs.length := by
  intro n
  induction n using Nat.strongRecOn with
  | ind n ih =>
    intro i acc l j hn h
    rcases Nat.lt_or_ge i cs.length with hl | hl
    · by_cases h1 : limb cs i = 34
      · rw [quoA_quote hl h1] at h
        injection h with h; injection h with h2 h3; omega
      · cases h2 : nxA cs i with
        | none => rw [quoA_bad hl h1 h2] at h; cases h
        | some p =>
          obtain ⟨c, k⟩ := p
          have hg := nxA_gt hl h2
          by_cases h3 : acc.length = 4096
          · rw [quoA_long hl h1 h2 h3] at h; cases h
          · rw [quoA_step hl h1 h2 h3] at h
            have := ih (cs.length - k) (by omega) k _ _ _ rfl h
            omega
    · rw [quoA_out hl] at h; cases h

/-- Behind the backslash of a character. -/
def chrA (cs : List Nat) (i : Nat) : Option (Nat × Nat) :=
  if i < cs.length then (namedA (encL (cutN cs i (til enN cs (i + 1))))).map fun c => (c, til enN cs (i + 1)) else none
theorem chrA_gt {cs : List Nat} {i c j : Nat} (h : chrA cs i = some (c, j)) : i < j ∧ j ≤ cs.length := by
  unfold chrA at h
  have hg := @til_ge' enN cs (i + 1)
  split at h
  · rename_i hl
    have := @til_le enN cs (i + 1) (by omega)
    rw [Option.map_eq_some_iff] at h
    obtain ⟨x, _, h⟩ := h
    injection h with h3 h4
    omega
  · cases h

/-- A datum of a word: kind, text, sign, limbs. -/
structure Dt where
  k : Nat
  t : List Nat
  n : Bool
  r : List Nat

/-- What num.Parse says of a text. -/
def ParR (s : ByteArray) (x : Bool × List Nat × Bool) : Prop :=
  (okA s ∧ x.2.2 = true ∧ Snd x.1 x.2.1 ∧ val x.2.1 = dval (bodyA s) ∧ (x.2.1 ≠ [] → x.1 = negA s)) ∨ (x.2.2 = false ∧ x.1 = false ∧ x.2.1 = [] ∧ (okA s → 1000000000 ^ 64 ≤ dval (bodyA s)))
open Classical in
/-- The number that a text is. -/
noncomputable def parA (s : ByteArray) : Bool × List Nat × Bool := if h : ∃ x, ParR s x then h.choose else (false, [], false)
theorem parA_eq {s : ByteArray} {n o : Bool} {r : List Nat} (h : ParR s (n, r, o)) : parA s = (n, r, o) := by
  have hx : ∃ x, ParR s x := ⟨_, h⟩
  unfold parA
  rw [dif_pos hx]
  have h2 := hx.choose_spec
  generalize hx.choose = y at *
  obtain ⟨a, b, c⟩ := y
  obtain ⟨rfl, rfl, rfl⟩ := parse_unique h2 h
  rfl

def digN (c : Nat) : Bool := decide (48 ≤ c ∧ c ≤ 57)
def sgnN (c : Nat) : Bool := decide (c = 43 ∨ c = 45)
/-- Does it begin like a number? -/
def numeA (bs : List Nat) : Bool := digN (limb bs 0) || (sgnN (limb bs 0) && digN (limb bs 1))
/-- Is it a symbol's text? -/
def symA (bs : List Nat) : Bool := decide (bs ≠ [] ∧ bs ≠ [46] ∧ bs.length ≤ 64 ∧ limb bs 0 ≠ 35) && !numeA bs && decide ((chars bs 0).2 = none) && (chars bs 0).1.all fun c => !enN c
def tTrue : List Nat := [35, 116]
def tTrue' : List Nat := [35, 116, 114, 117, 101]
def tFalse : List Nat := [35, 102]
def tFalse' : List Nat := [35, 102, 97, 108, 115, 101]
/-- What a word is by itself. -/
noncomputable def atmA (bs : List Nat) : Option Dt :=
  if bs = tTrue ∨ bs = tTrue' then some ⟨8, [], false, []⟩ else if bs = tFalse ∨ bs = tFalse' then some ⟨9, [], false, []⟩
  else if (parA (mkB bs)).2.2 then some ⟨7, [], (parA (mkB bs)).1, (parA (mkB bs)).2.1⟩ else if symA bs then some ⟨4, bs, false, []⟩ else none

/-- A word. -/
structure Wd where
  kind : Nat
  txt : List Nat
  d : Dt
  dat : Nat
  pl : Nat
def zD : Dt := ⟨0, [], false, []⟩
def leafW (d : Dt) (i : Nat) : Wd := ⟨7, [], d, i, i⟩
def markW (k i : Nat) : Wd := ⟨mKind k, mName k, zD, 0, i⟩
def dotW (i : Nat) : Wd := ⟨4, [], zD, 0, i⟩
/-- The word at i, and the place behind it. -/
noncomputable def wrdA (cs : List Nat) (i : Nat) : Option (Wd × Nat) :=
  match markA cs i with
  | some k => some (markW k i, i + (mText k).length)
  | none =>
    if limb cs i = 34 then (quoA cs (i + 1) []).map fun p => (leafW ⟨5, encL p.1, false, []⟩ i, p.2)
    else if pfx [35, 92] cs i then (chrA cs (i + 2)).map fun p => (leafW ⟨6, encN p.1, false, []⟩ i, p.2)
    else if encL (cutN cs i (til enN cs i)) = [46] then some (dotW i, til enN cs i)
    else (atmA (encL (cutN cs i (til enN cs i)))).map fun d => (leafW d i, til enN cs i)
/-- The words from i on, behind acc; the place where one begins that is none. -/
noncomputable def wdsA (cs : List Nat) (i : Nat) (acc : List Wd) : List Wd × Option Nat :=
  if skp cs i < cs.length then
    match wrdA cs (skp cs i) with
    | none => ([], some (skp cs i))
    | some (w, j) => if i < j then wdsA cs j (acc ++ [w]) else ([], some (skp cs i))
  else (acc, none)
termination_by cs.length - i
decreasing_by
  have h1 := (skp_facts _ i rfl (cs := cs)).1
  omega
end Go.Proofs.YtocladhggcaokaaGreatDoor
namespace Go.Proofs.YtocladhggcaokaaGreatDoor
open Go.RowKit

/-- A datum's box that holds nothing yet. -/
def DB (W : World) (g : Nat) : Prop := W.heap[g]? = some (.cells #[.int .i64 0, .string ⟨#[]⟩, .bool false, .slice none 0 0, .slice none 0 0, .int .i64 0] 27 (0, 0))
theorem DB.lt {W : World} {g : Nat} (h : DB W g) : g < W.heap.size := (Array.getElem?_eq_some_iff.1 h).1
theorem DB.step {W W' : World} {g : Nat} (h : DB W g) (hb : Below W.heap.size W W') : DB W' g := (hb.block g h.lt).trans h
theorem DB.new (W : World) : DB (W.alloc (.cells #[.int .i64 0, .string ⟨#[]⟩, .bool false, .slice none 0 0, .slice none 0 0, .int .i64 0] 27)) W.heap.size := heap_alloc_new W _
structure DBF (W : World) (g : Nat) : Prop where
  c0 : W.cell? ⟨g, 0, none⟩ = some (.int .i64 0)
  c1 : W.cell? ⟨g, 1, none⟩ = some (.string ⟨#[]⟩)
  c2 : W.cell? ⟨g, 2, none⟩ = some (.bool false)
  c3 : W.cell? ⟨g, 3, none⟩ = some (.slice none 0 0)
  c4 : W.cell? ⟨g, 4, none⟩ = some (.slice none 0 0)
  c5 : W.cell? ⟨g, 5, none⟩ = some (.int .i64 0)
  f0 : W.frozen? ⟨g, 0, none⟩ = false
  f1 : W.frozen? ⟨g, 1, none⟩ = false
  f2 : W.frozen? ⟨g, 2, none⟩ = false
  f3 : W.frozen? ⟨g, 3, none⟩ = false
  f4 : W.frozen? ⟨g, 4, none⟩ = false
  f5 : W.frozen? ⟨g, 5, none⟩ = false
theorem DB.facts {W : World} {g : Nat} (h : DB W g) : DBF W g :=
  ⟨cell_heap h 0, cell_heap h 1, cell_heap h 2, cell_heap h 3, cell_heap h 4, cell_heap h 5, frozen_heap h 0, frozen_heap h 1, frozen_heap h 2, frozen_heap h 3, frozen_heap h 4, frozen_heap h 5⟩

theorem DB.noU {W : World} {g : Nat} (h : DB W g) : NoU W g := by
  refine NoU.of_cells h fun v hv x => ?_
  simp at hv
  rcases hv with rfl | rfl | rfl | rfl | rfl | rfl <;> simp

/-- A datum stored into its box. -/
theorem DB.fill {W : World} {g : Nat} (h : DB W g) (a0 a1 a2 a3 a4 a5 : Value) :
    ((((((W.setCell ⟨g, 0, none⟩ a0).setCell ⟨g, 1, none⟩ a1).setCell ⟨g, 2, none⟩ a2).setCell ⟨g, 3, none⟩ a3).setCell ⟨g, 4, none⟩ a4).setCell ⟨g, 5, none⟩ a5).heap[g]? = some (.cells #[a0, a1, a2, a3, a4, a5] 27 (0, 0)) ∧
    Ks g W ((((((W.setCell ⟨g, 0, none⟩ a0).setCell ⟨g, 1, none⟩ a1).setCell ⟨g, 2, none⟩ a2).setCell ⟨g, 3, none⟩ a3).setCell ⟨g, 4, none⟩ a4).setCell ⟨g, 5, none⟩ a5) := by
  refine ⟨?_, ((((((Ks.refl g W).set 0 _).set 1 _).set 2 _).set 3 _).set 4 _).set 5 _⟩
  unfold DB at h
  simp only [World.setCell, Array.getElem?_modify, if_true, h]
  rfl
end Go.Proofs.YtocladhggcaokaaGreatDoor
