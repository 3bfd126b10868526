/- What own answers, and a row of datums that grows: no walk. -/
import Derived.Test.YtbfcbicbeagjkaaDoorRdMath
import Derived.Test.YtbfcbicbeagjkaaDoorDm
import Derived.StillTailTactics
namespace Go.Proofs.YtbfcbicbeagjkaaDoor
open Go.RowKit

theorem infoDat : (Tryd.prog.info? 40).map (fun i => (i.zero, i.size, i.bytes)) = some (some (.agg #[.int .i64 0, .string ⟨#[]⟩, .bool false, .slice none 0 0, .slice none 0 0, .int .i64 0]), 6, 88) := by kernel_rfl
/-- A row of datums, and one more behind it. -/
theorem DmRow.appended {P : Nat → Prop} {w w' : World} {v v' : Value} {l : List Dm} {us : List Value} {d : Dm} {cs : List Value} (h : DmRow (fun b => P b ∧ v.ownBlock ≠ some b) w l us) (hd : LayP (fun b => P b ∧ v.ownBlock ≠ some b) w d cs) (hg : w.grownBy w' v.ownBlock) (hm : MovedTo w v v') :
    DmRow (fun b => P b ∧ v'.ownBlock ≠ some b) w' (l ++ [d]) (us ++ cs) := by
  have hk : Keeps (fun b => P b ∧ v.ownBlock ≠ some b) w w' := (Keeps.of_grown (P := fun b => v.ownBlock ≠ some b) hg fun g e hn => hn e).mono fun b _ h => h.2
  have hs := hg.size
  have hq : ∀ b, b < w.heap.size → (P b ∧ v.ownBlock ≠ some b) → (P b ∧ v.ownBlock ≠ some b) ∧ v'.ownBlock ≠ some b := fun b hb hp => ⟨hp, fun e => by
    rcases hm with e2 | ⟨b2, e2, hge⟩
    · rw [e2] at e; exact hp.2 e
    · rw [e2] at e; injection e with e; omega⟩
  have hk2 : Keeps (fun b => (P b ∧ v.ownBlock ≠ some b) ∧ v'.ownBlock ≠ some b) w w' := hk.mono fun b _ h => h.1
  have h2 := ((h.mono hq).move hk2).snoc ((hd.mono hq).move hk2)
  exact h2.mono fun b _ hp => ⟨hp.1.1, hp.2⟩
theorem one_cells {w : World} {P : Nat → Prop} {d : Dm} {us : List Value} (h : LayP P w d us) : ∀ u ∈ us, u.oneCell' = true := by
  obtain ⟨k, t, n, r, l, a⟩ := d
  obtain ⟨lv, av, vs, rfl, _, _, _, ⟨_, _, _, rfl, _⟩, _, ⟨_, _, _, _, rfl, _⟩, _⟩ := h.row
  intro u hu
  simp at hu
  rcases hu with rfl | rfl | rfl | rfl | rfl | rfl <;> rfl
theorem dm_cells6 {w : World} {P : Nat → Prop} {d : Dm} {us : List Value} (h : LayP P w d us) : ∃ u0 u1 u2 u3 u4 u5, us = [u0, u1, u2, u3, u4, u5] := by
  have := h.len
  match us, this with
  | [u0, u1, u2, u3, u4, u5], _ => exact ⟨u0, u1, u2, u3, u4, u5, rfl⟩

/-- What own answers. -/
def OwnPost (D : Dm) (w : World) (e : Ending) (w' : World) : Prop := ∃ us, e = .returned (.agg us.toArray) ∧ LayP (fun b => w.heap.size ≤ b) w' D us ∧ Below w.heap.size w w'
/-- Its box, and the other one. -/
structure OwB (w : World) (g : Nat) (k : Int) (t : List Nat) (n : Bool) (lv av : Value) (a : Int) : Prop where
  r0 : w.heap[g]? = some (.cells #[.int .i64 k, .string (mkB t), .bool n, lv, av, .int .i64 a] 40 (0, 0))
  r1 : w.heap[g + 1]? = some (.cells #[.int .i64 0, .string ⟨#[]⟩, .bool false, .slice none 0 0, .slice none 0 0, .int .i64 0] 40 (0, 0))
theorem OwB.setL {w : World} {g : Nat} {k : Int} {t : List Nat} {n : Bool} {lv av : Value} {a : Int} (h : OwB w g k t n lv av a) (u : Value) : OwB (w.setCell ⟨g, 3, none⟩ u) g k t n u av a := by
  refine ⟨?_, (Below.heap_setCell _ _ _ _ (by simp)).trans h.r1⟩
  simp only [World.setCell, Array.getElem?_modify, if_true, h.r0]
  rfl
theorem OwB.setA {w : World} {g : Nat} {k : Int} {t : List Nat} {n : Bool} {lv av : Value} {a : Int} (h : OwB w g k t n lv av a) (u : Value) : OwB (w.setCell ⟨g, 4, none⟩ u) g k t n lv u a := by
  refine ⟨?_, (Below.heap_setCell _ _ _ _ (by simp)).trans h.r1⟩
  simp only [World.setCell, Array.getElem?_modify, if_true, h.r0]
  rfl
theorem OwB.below {w w' : World} {g : Nat} {k : Int} {t : List Nat} {n : Bool} {lv av : Value} {a : Int} (h : OwB w g k t n lv av a) (hb : Below (g + 2) w w') : OwB w' g k t n lv av a := ⟨(hb.block g (by omega)).trans h.r0, (hb.block (g + 1) (by omega)).trans h.r1⟩

end Go.Proofs.YtbfcbicbeagjkaaDoor
