/- The list of objects: Eqv. -/
import Derived.Test.YtioidaojnbenbaaRsRead
import Derived.Test.YtioidaojnbenbaaSmEqv2
namespace Go.Proofs.Ytioidaojnbenbaa
open Go.RowKit

theorem slots_len (s : St) (v : Int × Int) : (s.slots v).length = s.len v := by
  unfold St.slots St.len
  cases s.obj v <;> rfl
theorem slots_get (s : St) (v : Int × Int) (i : Nat) : (s.get v ((i : Nat) : Int)).1 = ((s.slots v)[i]?).getD (0, 0) := by
  unfold St.get St.slots
  cases s.obj v with
  | none => simp
  | some o =>
    simp only
    rw [if_pos (by omega), Int.toNat_natCast]
    cases o.s[i]? <;> rfl
theorem slotsEq_slots (s : St) (a b : Int × Int) : s.slotsEq a b = decide (s.slots a = s.slots b) := by
  unfold St.slotsEq
  rw [decide_eq_decide]
  constructor
  · intro h
    refine List.ext_getElem (by rw [slots_len, slots_len]; exact h.1) fun i h1 h2 => ?_
    have := h.2 i (by rw [← slots_len]; exact h1)
    rw [slots_get, slots_get, List.getElem?_eq_getElem h1, List.getElem?_eq_getElem h2] at this
    exact this
  · intro h
    exact ⟨by rw [← slots_len, h, slots_len], fun i _ => by rw [slots_get, slots_get, h]⟩
theorem row_pair {W : World} {v : Value} {n : Nat} {l : List (Int × Int)} (h : RowV W v n 2 (vcs l)) (hn : n = l.length) {i : Nat} (hi : i < l.length) :
    ∃ b off cap, v = .slice (some ⟨b, off, none⟩) n cap ∧ b < W.heap.size ∧ W.cell? ⟨b, off + i * 2, none⟩ = some (.int .i64 (l[i]'hi).1) ∧ W.cell? ⟨b, off + i * 2 + 1, none⟩ = some (.int .i64 (l[i]'hi).2) := by
  obtain ⟨_, _, ao, cap, rfl, _, hr⟩ := h
  rcases hr with ⟨h0, _⟩ | ⟨b, off, rfl, hb, hc⟩
  · omega
  · have h2 := vcs_get l i hi
    have k1 := hc _ _ h2.1
    have k2 := hc _ _ h2.2
    exact ⟨b, off, cap, rfl, hb, k1, k2⟩

end Go.Proofs.Ytioidaojnbenbaa
