/- What an operation answers of any two numbers, sound or not. No walk here. -/
import Derived.Test.YtocladhggcaokaaGreatDoorAns
import Derived.Test.YtocladhggcaokaaGreatDoorRSum
namespace Go.Proofs.YtocladhggcaokaaGreatDoor
open Go.RowKit

/-- What an operation answers of numbers that are sound just if G holds. -/
def AnyPost (G : Prop) (N : Int) (w : World) (e : Ending) (w' : World) : Prop :=
  ∃ v neg rs c, e = .returned (.tuple #[v, .int .i64 c]) ∧ IntV w' v neg rs ∧ Below w.heap.size w w' ∧
    ((G ∧ c = 0 ∧ Snd neg rs ∧ ival neg rs = N) ∨ (G ∧ c = 6 ∧ neg = false ∧ rs = [] ∧ 1000000000 ^ 64 ≤ N.natAbs) ∨ (¬ G ∧ c = 2 ∧ neg = false ∧ rs = []))
theorem ResPost.any {G : Prop} {N : Int} {w : World} {e : Ending} {w' : World} (g : G) (h : ResPost N w e w') : AnyPost G N w e w' := by
  obtain ⟨v, neg, rs, c, he, hv, hb, h⟩ := h
  refine ⟨v, neg, rs, c, he, hv, hb, ?_⟩
  rcases h with h | h
  · exact .inl ⟨g, h⟩
  · exact .inr (.inl ⟨g, h⟩)
theorem AnyPost.bad {G : Prop} {N : Int} {w w' : World} (g : ¬ G) (hb : Below w.heap.size w w') : AnyPost G N w (.returned (.tuple #[.agg #[.bool false, .slice none 0 0], .int .i64 2])) w' :=
  ⟨_, false, [], 2, rfl, ⟨_, rfl, Sl.nil _ _⟩, hb, .inr (.inr ⟨g, rfl, rfl, rfl⟩)⟩
theorem snd_val_lt {neg : Bool} {rs : List Nat} (h : Snd neg rs) : (ival neg rs).natAbs < 1000000000 ^ 64 := by
  have h1 : val rs < 1000000000 ^ 64 := Nat.lt_of_lt_of_le (val_lt h.2.1) (Nat.pow_le_pow_right (by omega) h.1)
  unfold ival
  split
  · rw [Int.natAbs_neg, Int.natAbs_natCast]; exact h1
  · rw [Int.natAbs_natCast]; exact h1
/-- Both answers are the same. -/
theorem any_unique {G : Prop} {N : Int} {n1 n2 : Bool} {xs ys : List Nat} {c d : Int}
    (h1 : (G ∧ c = 0 ∧ Snd n1 xs ∧ ival n1 xs = N) ∨ (G ∧ c = 6 ∧ n1 = false ∧ xs = [] ∧ 1000000000 ^ 64 ≤ N.natAbs) ∨ (¬ G ∧ c = 2 ∧ n1 = false ∧ xs = []))
    (h2 : (G ∧ d = 0 ∧ Snd n2 ys ∧ ival n2 ys = N) ∨ (G ∧ d = 6 ∧ n2 = false ∧ ys = [] ∧ 1000000000 ^ 64 ≤ N.natAbs) ∨ (¬ G ∧ d = 2 ∧ n2 = false ∧ ys = [])) :
    n1 = n2 ∧ xs = ys ∧ c = d := by
  rcases h1 with ⟨g, rfl, h1, e1⟩ | ⟨g, rfl, rfl, rfl, e1⟩ | ⟨g, rfl, rfl, rfl⟩
  · rcases h2 with ⟨_, rfl, h2, e2⟩ | ⟨_, rfl, rfl, rfl, e2⟩ | ⟨g2, _⟩
    · obtain ⟨r1, r2⟩ := snd_unique h1 h2 (by rw [e1, e2])
      exact ⟨r1, r2, rfl⟩
    · have := snd_val_lt h1
      rw [e1] at this
      omega
    · exact absurd g g2
  · rcases h2 with ⟨_, rfl, h2, e2⟩ | ⟨_, rfl, rfl, rfl, e2⟩ | ⟨g2, _⟩
    · have := snd_val_lt h2
      rw [e2] at this
      omega
    · exact ⟨rfl, rfl, rfl⟩
    · exact absurd g g2
  · rcases h2 with ⟨g2, _⟩ | ⟨g2, _⟩ | ⟨_, rfl, rfl, rfl⟩
    · exact absurd g2 g
    · exact absurd g2 g
    · exact ⟨rfl, rfl, rfl⟩
theorem dig_len {xs ds : List Nat} (hx : Lb xs) (hl : xs.length ≤ 64) (hb : Db ds) (ht : Top ds) (hv : dval ds = val xs) : ds.length < 1000000 := by
  obtain ⟨n, hn⟩ : ∃ n, n = 64 := ⟨_, rfl⟩
  rw [← hn] at hl
  have h1 : dval ds < 10 ^ (9 * n) := by
    rw [hv, pow9]
    exact Nat.lt_of_lt_of_le (val_lt hx) (Nat.pow_le_pow_right (by omega) hl)
  have := (ht.len hb).2 h1
  clear h1
  omega
end Go.Proofs.YtocladhggcaokaaGreatDoor
