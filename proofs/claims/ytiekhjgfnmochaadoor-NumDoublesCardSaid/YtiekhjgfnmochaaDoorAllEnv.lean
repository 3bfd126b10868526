/- What laws do with operations on any two numbers: their variables' boxes. -/
import Derived.Test.YtiekhjgfnmochaaDoorOps
import Derived.Test.YtiekhjgfnmochaaDoorAnyOps
import Derived.Test.YtiekhjgfnmochaaDoorRAdd
import Derived.Test.YtiekhjgfnmochaaDoorCmpMath
namespace Go.Proofs.YtiekhjgfnmochaaDoor
open Go.RowKit

/-- What stands behind 'x, e := an operation': x's box, and what it came to. -/
def MadeA (G : Prop) (L : List (Nat × Bool × Value × List Nat)) (N : Int) (w : World) (sx se : Value) (W : World) : Prop :=
  ∃ g n ao l cap rs c, sx = .pointer (some ⟨g, 0, none⟩) ∧ se = .int .i64 c ∧ Env ((g, n, .slice ao l cap, rs) :: L) W ∧ w.heap.size ≤ g ∧ Below w.heap.size w W ∧
    ((G ∧ c = 0 ∧ Snd n rs ∧ ival n rs = N) ∨ (G ∧ c = 6 ∧ n = false ∧ rs = [] ∧ 1000000000 ^ 64 ≤ N.natAbs) ∨ (¬ G ∧ c = 2 ∧ n = false ∧ rs = []))
def AllPost (G : Prop) (N : Int) (w : World) (e : Ending) (w' : World) : Prop :=
  ∃ neg ao l cap rs c, e = .returned (.tuple #[.agg #[.bool neg, .slice ao l cap], .int .i64 c]) ∧ Sl .u32 w' (.slice ao l cap) rs ∧ Below w.heap.size w w' ∧
    ((G ∧ c = 0 ∧ Snd neg rs ∧ ival neg rs = N) ∨ (G ∧ c = 6 ∧ neg = false ∧ rs = [] ∧ 1000000000 ^ 64 ≤ N.natAbs) ∨ (¬ G ∧ c = 2 ∧ neg = false ∧ rs = []))
theorem any_open {G : Prop} {N : Int} {w : World} {e : Ending} {w' : World} (h : AnyPost G N w e w') : AllPost G N w e w' := by
  obtain ⟨v, neg, rs, c, rfl, ⟨sv, rfl, hs⟩, hb, hr⟩ := h
  obtain ⟨hm, ao, cap, rfl, hh⟩ := hs
  exact ⟨neg, ao, _, cap, rs, c, rfl, ⟨hm, ao, cap, rfl, hh⟩, hb, hr⟩
section
variable (n1 n2 : Bool) (s1 s2 : Value) (xs ys : List Nat) (w : World) (hs1 : Sl .u32 w s1 xs) (hs2 : Sl .u32 w s2 ys) (hx : ∀ i, limb xs i < 4294967296) (hy : ∀ i, limb ys i < 4294967296)
include hs1 hs2 hx hy
theorem add_allo : Calls Tryd.prog 26 #[.agg #[.bool n1, s1], .agg #[.bool n2, s2]] w (AllPost (Snd n1 xs ∧ Snd n2 ys) (ival n1 xs + ival n2 ys) w) := (add_all n1 n2 s1 s2 xs ys w hs1 hs2 hx hy).mono fun _ _ h => any_open h
theorem radd_allo : Calls Tryd.prog 27 #[.agg #[.bool n1, s1], .agg #[.bool n2, s2]] w (AllPost (Snd n1 xs ∧ Snd n2 ys) (ival n1 xs + ival n2 ys) w) := (radd_any n1 n2 s1 s2 xs ys w hs1 hs2 hx hy).mono fun _ _ h => any_open h
theorem sub_allo : Calls Tryd.prog 28 #[.agg #[.bool n1, s1], .agg #[.bool n2, s2]] w (AllPost (Snd n1 xs ∧ Snd n2 ys) (ival n1 xs - ival n2 ys) w) := (sub_all n1 n2 s1 s2 xs ys w hs1 hs2 hx hy).mono fun _ _ h => any_open h
theorem rsub_allo : Calls Tryd.prog 29 #[.agg #[.bool n1, s1], .agg #[.bool n2, s2]] w (AllPost (Snd n1 xs ∧ Snd n2 ys) (ival n1 xs - ival n2 ys) w) := (rsub_any n1 n2 s1 s2 xs ys w hs1 hs2 hx hy).mono fun _ _ h => any_open h
theorem mul_allo : Calls Tryd.prog 32 #[.agg #[.bool n1, s1], .agg #[.bool n2, s2]] w (AllPost (Snd n1 xs ∧ Snd n2 ys) (ival n1 xs * ival n2 ys) w) := (mul_all n1 n2 s1 s2 xs ys w hs1 hs2 hx hy).mono fun _ _ h => any_open h
end

set_option maxRecDepth 100000 in
set_option maxHeartbeats 1000000 in
theorem light_yes (n : Bool) (ao : Option Addr) (cap : Nat) (xs : List Nat) (w : World) (h : xs.length ≤ 70) :
    Calls Tryd.prog 13 #[.agg #[.bool n, .slice ao xs.length cap]] w fun e w' => e = .returned (.bool true) ∧ Below w.heap.size w w' := by
  have hd : decide ((xs.length : Int) ≤ 70) = true := by simp; omega
  go_enter Tryd.func13, Tryd.ntmps13
  go_wp2
  go_ret
  exact ⟨by first | rfl | exact ret_bool hd, below1 w _⟩
set_option maxRecDepth 100000 in
set_option maxHeartbeats 1000000 in
theorem light_no (n : Bool) (ao : Option Addr) (cap : Nat) (xs : List Nat) (w : World) (h : 70 < xs.length) :
    Calls Tryd.prog 13 #[.agg #[.bool n, .slice ao xs.length cap]] w fun e w' => e = .returned (.bool false) ∧ Below w.heap.size w w' := by
  have hd : decide ((xs.length : Int) ≤ 70) = false := by rw [decide_eq_false_iff_not]; omega
  go_enter Tryd.func13, Tryd.ntmps13
  go_wp2
  go_ret
  exact ⟨by first | rfl | exact ret_bool hd, below1 w _⟩
end Go.Proofs.YtiekhjgfnmochaaDoor
