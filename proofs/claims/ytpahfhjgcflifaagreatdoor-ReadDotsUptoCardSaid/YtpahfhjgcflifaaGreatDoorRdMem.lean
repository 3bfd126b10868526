/- What the reader has open, as it lies in memory. No walk here. -/
import Derived.Test.YtpahfhjgcflifaaGreatDoorRdMath
import Derived.Test.YtpahfhjgcflifaaGreatDoorDm
import Derived.Test.YtpahfhjgcflifaaGreatDoorTkRows
namespace Go.Proofs.YtpahfhjgcflifaaGreatDoor
open Go.RowKit

/-- What has no end yet, where it lies: its word's limbs, its row, the row's cells. -/
structure PM where
  q : Pt
  lv : Value
  av : Value
  us : List Value
def pmL (m : PM) : List Value := wdL m.q.w m.lv ++ [m.av, .int .i64 (m.q.dot : Nat)]
theorem pmL_len (m : PM) : (pmL m).length = 11 := rfl
def pcells (ms : List PM) : List Value := ms.reverse.flatMap pmL
theorem pcells_cons (m : PM) (ms : List PM) : pcells (m :: ms) = pcells ms ++ pmL m := by simp [pcells]
theorem pcells_len (ms : List PM) : (pcells ms).length = ms.length * 11 := by
  induction ms with
  | nil => rfl
  | cons m ms ih => rw [pcells_cons, List.length_append, ih, pmL_len, List.length_cons]; omega
/-- No block that the reader writes. -/
def Free (g : Nat) (ov : Value) (ms : List PM) (b : Nat) : Prop := b ≠ g ∧ ov.ownBlock ≠ some b ∧ ∀ m ∈ ms, m.av.ownBlock ≠ some b
structure RdM (w : World) (g B : Nat) (ov : Value) (ms : List PM) : Prop where
  gB : B ≤ g
  sep : ov.ownBlock ≠ some g ∧ ∀ m ∈ ms, m.av.ownBlock ≠ some g
  row : w.ownsRow B 63 11 ov ms.length (pcells ms)
  lists : ∀ m ∈ ms, w.ownsRow B 27 6 m.av m.q.l.length m.us
  each : ∀ m ∈ ms, DmRow (Free g ov ms) w m.q.l m.us
  ovA : ∀ m ∈ ms, ∀ b, ov.ownBlock = some b → m.av.ownBlock ≠ some b
  avA : ms.Pairwise fun x y => ∀ b, x.av.ownBlock = some b → y.av.ownBlock ≠ some b
  lvs : ∀ m ∈ ms, ∃ o n c, m.lv = .slice o n c
/-- All but these blocks are as they were. -/
theorem ownsRow_keep {w w' : World} {base : Nat} {e : TypeId} {size n : Nat} {v : Value} {xs : List Value} (h : w.ownsRow base e size v n xs) {P : Nat → Prop} (hk : Keeps P w w') (hp : ∀ b, v.ownBlock = some b → P b) : w'.ownsRow base e size v n xs := by
  refine ⟨h.1, ?_⟩
  rcases h.2 with hn | ⟨g, cap, cur, rfl, hb, hgg, rest⟩
  · exact .inl hn
  · exact .inr ⟨g, cap, cur, rfl, hb, (hk.2 g (Array.getElem?_eq_some_iff.1 hgg).1 (hp g rfl)).trans hgg, rest⟩
theorem RdM.keep {w w' : World} {g B : Nat} {ov : Value} {ms : List PM} (h : RdM w g B ov ms) (hk : Keeps (fun b => b ≠ g) w w') : RdM w' g B ov ms := by
  have hgB := h.gB
  refine ⟨h.gB, h.sep, ownsRow_keep h.row hk (fun b hb e => h.sep.1 (e ▸ hb)), fun m hm => ownsRow_keep (h.lists m hm) hk (fun b hb e => h.sep.2 m hm (e ▸ hb)), fun m hm => (h.each m hm).move (hk.mono fun b _ hb => hb.1), h.ovA, h.avA, h.lvs⟩
theorem RdM.below {w w' : World} {g B : Nat} {ov : Value} {ms : List PM} (h : RdM w g B ov ms) (hb : Below w.heap.size w w') : RdM w' g B ov ms := h.keep (Keeps.of_below hb)
theorem RdM.ne {w : World} {g B : Nat} {ov : Value} {ms : List PM} (h : RdM w g B ov ms) : ov.ownBlock ≠ some g := h.sep.1
theorem RdM.free_ge {w : World} {g B : Nat} {ov : Value} {ms : List PM} (h : RdM w g B ov ms) {b : Nat} (hb : b < B) : Free g ov ms b :=
  ⟨by have := h.gB; omega, fun e => by have := (h.row.lt b e).1; have := h.gB; omega, fun m hm e => by have := ((h.lists m hm).lt b e).1; have := h.gB; omega⟩
theorem RdM.free_new {w : World} {g B : Nat} {ov : Value} {ms : List PM} (h : RdM w g B ov ms) (hg : g < w.heap.size) {b : Nat} (hb : w.heap.size ≤ b) : Free g ov ms b :=
  ⟨by omega, fun e => by have := (h.row.lt b e).2; omega, fun m hm e => by have := ((h.lists m hm).lt b e).2; omega⟩
/-- Where the innermost is. -/
theorem RdM.top {w : World} {g B : Nat} {ov : Value} {m : PM} {ms : List PM} (h : RdM w g B ov (m :: ms)) : ∃ b cap, ov = .slice (some ⟨b, 0, none⟩) (ms.length + 1) cap ∧ ms.length + 1 ≤ cap ∧ B ≤ b ∧ b < w.heap.size ∧ (∀ j u, (pmL m)[j]? = some u → w.cell? ⟨b, ms.length * 11 + j, none⟩ = some u) ∧ ∀ j, w.frozen? ⟨b, j, none⟩ = false := by
  have hl := pcells_len ms
  rcases h.row.2 with ⟨_, h0⟩ | ⟨b, cap, cur, e, hb, hc, hn, _, _, ht⟩
  · simp at h0
  · refine ⟨b, cap, e, hn, hb, (Array.getElem?_eq_some_iff.1 hc).1, fun j u hu => ?_, fun j => frozen_heap hc j⟩
    rw [cell_of_row w b _ cur _ (0, 0) hc, ← Array.getElem?_toList]
    have hj : j < 11 := by have := (List.getElem?_eq_some_iff.1 hu).1; rwa [pmL_len] at this
    have h2 : (cur.toList.take ((m :: ms).length * 11))[ms.length * 11 + j]? = some u := by
      rw [ht, pcells_cons, List.getElem?_append_right (by omega), hl]
      rw [show ms.length * 11 + j - ms.length * 11 = j by omega]
      exact hu
    rw [List.getElem?_take] at h2
    split at h2
    · exact h2
    · cases h2
/-- Its dot is set. -/
theorem RdM.setDot {w : World} {g B : Nat} {m : PM} {ms : List PM} {b cap : Nat} (h : RdM w g B (.slice (some ⟨b, 0, none⟩) (ms.length + 1) cap) (m :: ms)) (d : Nat) {u : Int} (hu : u = (d : Int)) : RdM (w.setCell ⟨b, ms.length * 11 + 10, none⟩ (.int .i64 u)) g B (.slice (some ⟨b, 0, none⟩) (ms.length + 1) cap) ({ m with q := { m.q with dot := d } } :: ms) := by
  subst hu
  have hl := pcells_len ms
  have hrow := ownsRow_set (j := ms.length * 11 + 10) h.row (by rw [pcells_len, List.length_cons]; omega) (.int .i64 ((d : Nat) : Int))
  have he : (pcells (m :: ms)).set (ms.length * 11 + 10) (.int .i64 ((d : Nat) : Int)) = pcells ({ m with q := { m.q with dot := d } } :: ms) := by
    rw [pcells_cons, pcells_cons, List.set_append_right _ _ (by omega), hl, show ms.length * 11 + 10 - ms.length * 11 = 10 by omega]
    simp [pmL, wdL]
  rw [he] at hrow
  have hk : Keeps (fun x => x ≠ b) w (w.setCell ⟨b, ms.length * 11 + 10, none⟩ (.int .i64 ((d : Nat) : Int))) := (Keeps.refl _ _).set (fun h => h rfl) _
  have hne : ∀ x ∈ m :: ms, ∀ b', x.av.ownBlock = some b' → b' ≠ b := fun x hx b' hb' e => h.ovA x hx b rfl (e ▸ hb')
  have hfr : ∀ b', Free g (.slice (some ⟨b, 0, none⟩) (ms.length + 1) cap) (m :: ms) b' → Free g (.slice (some ⟨b, 0, none⟩) (ms.length + 1) cap) ({ m with q := { m.q with dot := d } } :: ms) b' := fun b' hf => ⟨hf.1, hf.2.1, fun x hx => by
    rcases List.mem_cons.1 hx with rfl | hx
    · exact hf.2.2 m (by simp)
    · exact hf.2.2 x (List.mem_cons_of_mem _ hx)⟩
  have hmv : ∀ x ∈ m :: ms, DmRow (Free g (.slice (some ⟨b, 0, none⟩) (ms.length + 1) cap) ({ m with q := { m.q with dot := d } } :: ms)) (w.setCell ⟨b, ms.length * 11 + 10, none⟩ (.int .i64 ((d : Nat) : Int))) x.q.l x.us := fun x hx =>
    ((h.each x hx).move (hk.mono fun b' _ hf e => hf.2.1 (by rw [e]; rfl))).mono fun b' _ hf => hfr b' hf
  refine ⟨h.gB, ⟨h.sep.1, fun x hx => by
    rcases List.mem_cons.1 hx with rfl | hx
    · exact h.sep.2 m (by simp)
    · exact h.sep.2 x (List.mem_cons_of_mem _ hx)⟩, hrow, fun x hx => ?_, fun x hx => ?_, fun x hx => ?_, ?_, fun x hx => by
    rcases List.mem_cons.1 hx with rfl | hx
    · exact h.lvs m (by simp)
    · exact h.lvs x (List.mem_cons_of_mem _ hx)⟩
  · rcases List.mem_cons.1 hx with rfl | hx
    · exact ownsRow_keep (h.lists m (by simp)) hk (hne m (by simp))
    · exact ownsRow_keep (h.lists x (List.mem_cons_of_mem _ hx)) hk (hne x (List.mem_cons_of_mem _ hx))
  · rcases List.mem_cons.1 hx with rfl | hx
    · exact hmv m (by simp)
    · exact hmv x (List.mem_cons_of_mem _ hx)
  · rcases List.mem_cons.1 hx with rfl | hx
    · exact h.ovA m (by simp)
    · exact h.ovA x (List.mem_cons_of_mem _ hx)
  · have := h.avA
    rw [List.pairwise_cons] at this ⊢
    exact this
/-- A datum more in it. -/
theorem RdM.snoc {w w' : World} {g B : Nat} {m : PM} {ms : List PM} {b cap : Nat} (h : RdM w g B (.slice (some ⟨b, 0, none⟩) (ms.length + 1) cap) (m :: ms)) {d : Dm} {cs : List Value} (hd : LayP (Free g (.slice (some ⟨b, 0, none⟩) (ms.length + 1) cap) (m :: ms)) w d cs)
    {av' : Value} (ho : w'.ownsRow B 27 6 av' (m.q.l.length + 1) (m.us ++ cs)) (hg : w.grownBy w' m.av.ownBlock) (hm : MovedTo w m.av av') (hgw : g < w.heap.size) :
    RdM (w'.setCell ⟨b, ms.length * 11 + 9, none⟩ av') g B (.slice (some ⟨b, 0, none⟩) (ms.length + 1) cap) ({ m with q := { m.q with l := m.q.l ++ [d] }, av := av', us := m.us ++ cs } :: ms) := by
  have hl := pcells_len ms
  have hbw : b < w.heap.size := (h.row.lt b rfl).2
  have hmb : ∀ x ∈ m :: ms, ∀ b', x.av.ownBlock = some b' → b' ≠ b := fun x hx b' hb' e => h.ovA x hx b rfl (e ▸ hb')
  have hrow1 : w'.ownsRow B 63 11 (.slice (some ⟨b, 0, none⟩) (ms.length + 1) cap) (m :: ms).length (pcells (m :: ms)) := by
    refine h.row.kept hg ?_
    right
    intro e
    exact h.ovA m (by simp) b rfl e.symm
  have hrow := ownsRow_set (j := ms.length * 11 + 9) hrow1 (by rw [pcells_len, List.length_cons]; omega) av'
  have he : (pcells (m :: ms)).set (ms.length * 11 + 9) av' = pcells ({ m with q := { m.q with l := m.q.l ++ [d] }, av := av', us := m.us ++ cs } :: ms) := by
    rw [pcells_cons, pcells_cons, List.set_append_right _ _ (by omega), hl, show ms.length * 11 + 9 - ms.length * 11 = 9 by omega]
    simp [pmL, wdL]
  rw [he] at hrow
  have hav : ∀ b', av'.ownBlock = some b' → m.av.ownBlock = some b' ∨ w.heap.size ≤ b' := fun b' hb' => by
    rcases hm with e | ⟨b2, e, hge⟩
    · exact .inl (e ▸ hb')
    · rw [e] at hb'; injection hb' with hb'; exact .inr (by omega)
  have havb : ∀ b', av'.ownBlock = some b' → b' ≠ b := fun b' hb' => by
    rcases hav b' hb' with e | e
    · exact hmb m (by simp) b' e
    · omega
  have havo : ∀ x ∈ ms, ∀ b', av'.ownBlock = some b' → x.av.ownBlock ≠ some b' := fun x hx b' hb' e => by
    rcases hav b' hb' with e2 | e2
    · exact (List.pairwise_cons.1 h.avA).1 x hx b' e2 e
    · have := ((h.lists x (List.mem_cons_of_mem _ hx)).lt b' e).2; omega
  have hk1 : Keeps (fun x => m.av.ownBlock ≠ some x) w w' := Keeps.of_grown hg fun g' e hn => hn e
  have hk2 : Keeps (fun x => x ≠ b) w' (w'.setCell ⟨b, ms.length * 11 + 9, none⟩ av') := (Keeps.refl _ _).set (fun h => h rfl) _
  have hk : Keeps (fun x => m.av.ownBlock ≠ some x ∧ x ≠ b) w (w'.setCell ⟨b, ms.length * 11 + 9, none⟩ av') := (hk1.mono fun _ _ h => h.1).trans (hk2.mono fun _ _ h => h.2)
  have hfr : ∀ b', b' < w.heap.size → Free g (.slice (some ⟨b, 0, none⟩) (ms.length + 1) cap) (m :: ms) b' → Free g (.slice (some ⟨b, 0, none⟩) (ms.length + 1) cap) ({ m with q := { m.q with l := m.q.l ++ [d] }, av := av', us := m.us ++ cs } :: ms) b' := fun b' hlt hf => ⟨hf.1, hf.2.1, fun x hx => by
    rcases List.mem_cons.1 hx with rfl | hx
    · intro e
      rcases hav b' e with e2 | e2
      · exact hf.2.2 m (by simp) e2
      · omega
    · exact hf.2.2 x (List.mem_cons_of_mem _ hx)⟩
  have hin : ∀ b', Free g (.slice (some ⟨b, 0, none⟩) (ms.length + 1) cap) (m :: ms) b' → m.av.ownBlock ≠ some b' ∧ b' ≠ b := fun b' hf => ⟨hf.2.2 m (by simp), fun e => hf.2.1 (by rw [e]; rfl)⟩
  have hmv : ∀ x ∈ m :: ms, DmRow (Free g (.slice (some ⟨b, 0, none⟩) (ms.length + 1) cap) ({ m with q := { m.q with l := m.q.l ++ [d] }, av := av', us := m.us ++ cs } :: ms)) (w'.setCell ⟨b, ms.length * 11 + 9, none⟩ av') x.q.l x.us := fun x hx =>
    ((h.each x hx).mono fun b' hlt hf => ⟨hfr b' hlt hf, hin b' hf⟩).move (P := fun b' => Free g (.slice (some ⟨b, 0, none⟩) (ms.length + 1) cap) ({ m with q := { m.q with l := m.q.l ++ [d] }, av := av', us := m.us ++ cs } :: ms) b' ∧ m.av.ownBlock ≠ some b' ∧ b' ≠ b) (hk.mono fun b' _ hf => hf.2) |>.mono fun b' _ hf => hf.1
  refine ⟨h.gB, ⟨h.sep.1, fun x hx => by
    rcases List.mem_cons.1 hx with rfl | hx
    · intro e
      rcases hav g e with e2 | e2
      · exact h.sep.2 m (by simp) e2
      · omega
    · exact h.sep.2 x (List.mem_cons_of_mem _ hx)⟩, hrow, fun x hx => ?_, fun x hx => ?_, fun x hx => ?_, ?_, fun x hx => by
    rcases List.mem_cons.1 hx with rfl | hx
    · exact h.lvs m (by simp)
    · exact h.lvs x (List.mem_cons_of_mem _ hx)⟩
  · rcases List.mem_cons.1 hx with rfl | hx
    · have : w'.ownsRow B 27 6 av' (m.q.l ++ [d]).length (m.us ++ cs) := by rw [List.length_append]; exact ho
      exact ownsRow_keep this hk2 havb
    · exact ownsRow_keep (h.lists x (List.mem_cons_of_mem _ hx)) hk fun b' hb' => ⟨fun e => (List.pairwise_cons.1 h.avA).1 x hx b' e hb', hmb x (List.mem_cons_of_mem _ hx) b' hb'⟩
  · rcases List.mem_cons.1 hx with rfl | hx
    · refine DmRow.snoc (hmv m (by simp)) ?_
      exact (((hd.mono fun b' hlt hf => ⟨hfr b' hlt hf, hin b' hf⟩).move (P := fun b' => Free g (.slice (some ⟨b, 0, none⟩) (ms.length + 1) cap) ({ m with q := { m.q with l := m.q.l ++ [d] }, av := av', us := m.us ++ cs } :: ms) b' ∧ m.av.ownBlock ≠ some b' ∧ b' ≠ b) (hk.mono fun b' _ hf => hf.2)).mono fun b' _ hf => hf.1)
    · exact hmv x (List.mem_cons_of_mem _ hx)
  · rcases List.mem_cons.1 hx with rfl | hx
    · intro b' hb' e
      injection hb' with hb'
      exact havb b' e hb'.symm
    · exact h.ovA x (List.mem_cons_of_mem _ hx)
  · rw [List.pairwise_cons]
    exact ⟨fun x hx b' hb' => havo x hx b' hb', (List.pairwise_cons.1 h.avA).2⟩
/-- Something more is open. -/
theorem RdM.push {w w' : World} {g B : Nat} {ov ov' : Value} {ms : List PM} (h : RdM w g B ov ms) (q : Pt) (lv : Value) (hlv : ∃ o n c, lv = .slice o n c) (hq : q.l = []) (ho : w'.ownsRow B 63 11 ov' (ms.length + 1) (pcells ms ++ pmL ⟨q, lv, .slice none 0 0, []⟩)) (hg : w.grownBy w' ov.ownBlock) (hm : MovedTo w ov ov') (hgw : g < w.heap.size) :
    RdM w' g B ov' (⟨q, lv, .slice none 0 0, []⟩ :: ms) := by
  have hov : ∀ b', ov'.ownBlock = some b' → ov.ownBlock = some b' ∨ w.heap.size ≤ b' := fun b' hb' => by
    rcases hm with e | ⟨b2, e, hge⟩
    · exact .inl (e ▸ hb')
    · rw [e] at hb'; injection hb' with hb'; exact .inr (by omega)
  have hk : Keeps (fun x => ov.ownBlock ≠ some x) w w' := Keeps.of_grown hg fun g' e hn => hn e
  have hfr : ∀ b', b' < w.heap.size → Free g ov ms b' → Free g ov' (⟨q, lv, .slice none 0 0, []⟩ :: ms) b' := fun b' hlt hf => ⟨hf.1, fun e => by
      rcases hov b' e with e2 | e2
      · exact hf.2.1 e2
      · omega, fun x hx => by
    rcases List.mem_cons.1 hx with rfl | hx
    · intro e; cases e
    · exact hf.2.2 x hx⟩
  refine ⟨h.gB, ⟨fun e => by
      rcases hov g e with e2 | e2
      · exact h.sep.1 e2
      · omega, fun x hx => by
    rcases List.mem_cons.1 hx with rfl | hx
    · intro e; cases e
    · exact h.sep.2 x hx⟩, by rw [pcells_cons]; exact ho, fun x hx => ?_, fun x hx => ?_, fun x hx => ?_, ?_, fun x hx => by
    rcases List.mem_cons.1 hx with rfl | hx
    · exact hlv
    · exact h.lvs x hx⟩
  · rcases List.mem_cons.1 hx with rfl | hx
    · show w'.ownsRow B _ 6 (.slice none 0 0) q.l.length []
      rw [hq]
      exact World.ownsRow_nil _ _ _ _
    · exact ownsRow_keep (h.lists x hx) hk fun b' hb' e => h.ovA x hx b' e hb'
  · rcases List.mem_cons.1 hx with rfl | hx
    · show DmRow _ w' q.l []
      rw [hq]
      exact DmRow.nil _ _
    · exact (((h.each x hx).mono fun b' hlt hf => ⟨hfr b' hlt hf, hf.2.1⟩).move (P := fun b' => Free g ov' (⟨q, lv, .slice none 0 0, []⟩ :: ms) b' ∧ ov.ownBlock ≠ some b') (hk.mono fun b' _ hf => hf.2)).mono fun b' _ hf => hf.1
  · rcases List.mem_cons.1 hx with rfl | hx
    · intro b' _ e; cases e
    · intro b' hb' e
      rcases hov b' hb' with e2 | e2
      · exact h.ovA x hx b' e2 e
      · have := ((h.lists x hx).lt b' e).2; omega
  · rw [List.pairwise_cons]
    exact ⟨fun x hx b' hb' => (by cases hb'), h.avA⟩
/-- The innermost is no more open; its row is nobody's. -/
theorem RdM.pop {w : World} {g B : Nat} {m : PM} {ms : List PM} {b cap : Nat} (h : RdM w g B (.slice (some ⟨b, 0, none⟩) (ms.length + 1) cap) (m :: ms)) : RdM w g B (.slice (some ⟨b, 0, none⟩) ms.length cap) ms ∧ w.ownsRow B 27 6 m.av m.q.l.length m.us ∧ DmRow (fun x => Free g (.slice (some ⟨b, 0, none⟩) ms.length cap) ms x ∧ m.av.ownBlock ≠ some x) w m.q.l m.us ∧ (∀ x, m.av.ownBlock = some x → Free g (.slice (some ⟨b, 0, none⟩) ms.length cap) ms x) := by
  have hl := pcells_len ms
  have hfr : ∀ b', Free g (.slice (some ⟨b, 0, none⟩) (ms.length + 1) cap) (m :: ms) b' → Free g (.slice (some ⟨b, 0, none⟩) ms.length cap) ms b' := fun b' hf => ⟨hf.1, hf.2.1, fun x hx => hf.2.2 x (List.mem_cons_of_mem _ hx)⟩
  refine ⟨⟨h.gB, ⟨h.sep.1, fun x hx => h.sep.2 x (List.mem_cons_of_mem _ hx)⟩, ?_, fun x hx => h.lists x (List.mem_cons_of_mem _ hx), fun x hx => (h.each x (List.mem_cons_of_mem _ hx)).mono fun b' _ hf => hfr b' hf, fun x hx => h.ovA x (List.mem_cons_of_mem _ hx), (List.pairwise_cons.1 h.avA).2, fun x hx => h.lvs x (List.mem_cons_of_mem _ hx)⟩, h.lists m (by simp), (h.each m (by simp)).mono fun b' _ hf => ⟨hfr b' hf, hf.2.2 m (by simp)⟩, fun x hx => ⟨?_, ?_, fun y hy e => ?_⟩⟩
  · have := ownsRow_take (k := ms.length) h.row (by simp)
    rw [pcells_cons, ← hl, List.take_left] at this
    exact this
  · exact fun e => h.sep.2 m (by simp) (e ▸ hx)
  · exact fun e => h.ovA m (by simp) x e hx
  · exact (List.pairwise_cons.1 h.avA).1 y hy x hx e
end Go.Proofs.YtpahfhjgcflifaaGreatDoor
