/- Which number a text is. No walk here. -/
import Derived.Test.YtommakdomnaclaaDoorDec
import Derived.Test.YtommakdomnaclaaDoorAns
import Derived.Lib.TrimByte
namespace Go.Proofs.YtommakdomnaclaaDoor
open Go.RowKit

/-- A sign's byte. -/
def sgB (n : Nat) : Bool := decide (n = 43 ∨ n = 45)
/-- What stands behind the sign. -/
def fromA (s : ByteArray) : Nat := if 0 < s.size ∧ (bt s 0 = 43 ∨ bt s 0 = 45) then 1 else 0
def negA (s : ByteArray) : Bool := decide (bt s 0 = 45)
/-- The digits behind the sign, the lowest first. -/
def bodyA (s : ByteArray) : List Nat := (List.range (s.size - fromA s)).map fun j => bt s (s.size - 1 - j) - 48
/-- Is it a number's text? -/
def okA (s : ByteArray) : Prop := fromA s < s.size ∧ ∀ j, fromA s ≤ j → j < s.size → 48 ≤ bt s j ∧ bt s j ≤ 57
theorem bodyA_len (s : ByteArray) : (bodyA s).length = s.size - fromA s := by simp [bodyA]
theorem bodyA_at {s : ByteArray} {p n : Nat} (h : p + (n + 1) = s.size) (hf : fromA s ≤ p) : limb (bodyA s) n = bt s p - 48 := by
  have hn : n < (bodyA s).length := by rw [bodyA_len]; omega
  rw [limb_lt hn]
  simp only [bodyA, List.getElem_map, List.getElem_range]
  rw [show s.size - 1 - n = p by omega]
theorem bodyA_db {s : ByteArray} (h : okA s) : Db (bodyA s) := by
  intro i
  by_cases hi : i < s.size - fromA s
  · rw [bodyA_at (p := s.size - 1 - i) (by omega) (by omega)]
    have := h.2 (s.size - 1 - i) (by omega) (by omega)
    omega
  · rw [limb_out (by rw [bodyA_len]; omega)]; omega
/-- What Parse answers. -/
def PPost (s : ByteArray) (w : World) (e : Ending) (w' : World) : Prop :=
  ∃ v neg rs ok, e = .returned (.tuple #[v, .bool ok]) ∧ IntV w' v neg rs ∧ Below w.heap.size w w' ∧
    ((okA s ∧ ok = true ∧ Snd neg rs ∧ val rs = dval (bodyA s) ∧ (rs ≠ [] → neg = negA s)) ∨ (ok = false ∧ neg = false ∧ rs = [] ∧ (okA s → 1000000000 ^ 64 ≤ dval (bodyA s))))
theorem PPost.no {s : ByteArray} {w w' : World} {v : Value} (hv : IntV w' v false []) (hb : Below w.heap.size w w') (h : ¬ okA s) : PPost s w (.returned (.tuple #[v, .bool false])) w' :=
  ⟨v, false, [], false, rfl, hv, hb, .inr ⟨rfl, rfl, rfl, fun g => absurd g h⟩⟩
theorem parse_unique {s : ByteArray} {n1 n2 o1 o2 : Bool} {r1 r2 : List Nat}
    (h1 : (okA s ∧ o1 = true ∧ Snd n1 r1 ∧ val r1 = dval (bodyA s) ∧ (r1 ≠ [] → n1 = negA s)) ∨ (o1 = false ∧ n1 = false ∧ r1 = [] ∧ (okA s → 1000000000 ^ 64 ≤ dval (bodyA s))))
    (h2 : (okA s ∧ o2 = true ∧ Snd n2 r2 ∧ val r2 = dval (bodyA s) ∧ (r2 ≠ [] → n2 = negA s)) ∨ (o2 = false ∧ n2 = false ∧ r2 = [] ∧ (okA s → 1000000000 ^ 64 ≤ dval (bodyA s)))) :
    n1 = n2 ∧ r1 = r2 ∧ o1 = o2 := by
  have key : ∀ {n : Bool} {r : List Nat}, Snd n r → val r = dval (bodyA s) → ¬ 1000000000 ^ 64 ≤ dval (bodyA s) := by
    intro n r hs hv
    have h1 : val r < 1000000000 ^ 64 := Nat.lt_of_lt_of_le (val_lt hs.2.1) (Nat.pow_le_pow_right (by omega) hs.1)
    omega
  rcases h1 with ⟨a, rfl, b, c, d⟩ | ⟨rfl, rfl, rfl, a⟩
  · rcases h2 with ⟨_, rfl, f, g, h⟩ | ⟨_, _, _, e⟩
    · have hl := snd_list b f (by rw [c, g])
      subst hl
      refine ⟨?_, rfl, rfl⟩
      by_cases hr : r1 = []
      · rw [b.2.2.1 hr, f.2.2.1 hr]
      · rw [d hr, h hr]
    · exact absurd (e a) (key b c)
  · rcases h2 with ⟨e, _, f, g, _⟩ | ⟨rfl, rfl, rfl, _⟩
    · exact absurd (a e) (key f g)
    · exact ⟨rfl, rfl, rfl⟩
end Go.Proofs.YtommakdomnaclaaDoor
