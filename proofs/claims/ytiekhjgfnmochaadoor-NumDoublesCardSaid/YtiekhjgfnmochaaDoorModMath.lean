/- Quotients, rests and moduli, with signs. No walk here. -/
import Derived.Test.YtiekhjgfnmochaaDoorDivide
import Derived.Test.YtiekhjgfnmochaaDoorAnyRes
namespace Go.Proofs.YtiekhjgfnmochaaDoor
open Go.RowKit

theorem ival_sg {m b : Bool} {q : List Nat} {N : Nat} (hs : Snd m q) (hv : val q = N) (hm : q ≠ [] → m = b) : ival m q = sg b N := by
  subst hv
  by_cases e : q = []
  · rw [hs.2.2.1 e, e]
    unfold ival sg val
    simp [V]
  · rw [hm e]; rfl

/-- What Divide is, of any two numbers. -/
def DivR (n1 n2 : Bool) (xs ys : List Nat) (c : Int) (m1 : Bool) (q : List Nat) (m2 : Bool) (r : List Nat) : Prop :=
  ((Snd n1 xs ∧ Snd n2 ys) ∧ ys ≠ [] ∧ c = 0 ∧ Snd m1 q ∧ Snd m2 r ∧ ival m1 q = sg (!(n1 == n2)) (val xs / val ys) ∧ ival m2 r = sg n1 (val xs % val ys)) ∨
  ((Snd n1 xs ∧ Snd n2 ys) ∧ ys = [] ∧ c = 13 ∧ m1 = false ∧ q = [] ∧ m2 = false ∧ r = []) ∨
  (¬ (Snd n1 xs ∧ Snd n2 ys) ∧ c = 2 ∧ m1 = false ∧ q = [] ∧ m2 = false ∧ r = [])
/-- What Divide answers, the structs opened. -/
def DivV (n1 n2 : Bool) (xs ys : List Nat) (w : World) (e : Ending) (w' : World) : Prop :=
  ∃ m1 a1 l1 c1 q m2 a2 l2 c2 r c, e = .returned (.tuple #[.agg #[.bool m1, .slice a1 l1 c1], .agg #[.bool m2, .slice a2 l2 c2], .int .i64 c]) ∧ Sl .u32 w' (.slice a1 l1 c1) q ∧ Sl .u32 w' (.slice a2 l2 c2) r ∧ Below w.heap.size w w' ∧ DivR n1 n2 xs ys c m1 q m2 r

theorem DivPost.open {n1 n2 : Bool} {xs ys : List Nat} {w : World} {e : Ending} {w' : World} (hx : Snd n1 xs) (hy : Snd n2 ys) (hne : ys ≠ []) (h : DivPost n1 n2 xs ys w e w') : DivV n1 n2 xs ys w e w' := by
  obtain ⟨v1, m1, q, v2, m2, r, rfl, ⟨sv1, rfl, h1⟩, ⟨sv2, rfl, h2⟩, g1, g2, e1, e2, k1, k2, hb⟩ := h
  have H1 := h1
  have H2 := h2
  obtain ⟨_, a1, c1, rfl, _, _⟩ := h1
  obtain ⟨_, a2, c2, rfl, _, _⟩ := h2
  exact ⟨m1, a1, _, c1, q, m2, a2, _, c2, r, 0, rfl, H1, H2, hb, .inl ⟨⟨hx, hy⟩, hne, rfl, g1, g2, ival_sg g1 e1 k1, ival_sg g2 e2 k2⟩⟩
theorem DivV.bad {n1 n2 : Bool} {xs ys : List Nat} {w w' : World} {a1 a2 : Option Addr} {c1 c2 : Nat} (g : ¬ (Snd n1 xs ∧ Snd n2 ys)) (h1 : a1 = none ∧ c1 = 0) (h2 : a2 = none ∧ c2 = 0) (hb : Below w.heap.size w w') :
    DivV n1 n2 xs ys w (.returned (.tuple #[.agg #[.bool false, .slice a1 0 c1], .agg #[.bool false, .slice a2 0 c2], .int .i64 2])) w' := by
  obtain ⟨rfl, rfl⟩ := h1
  obtain ⟨rfl, rfl⟩ := h2
  exact ⟨false, none, 0, 0, [], false, none, 0, 0, [], 2, rfl, Sl.nil _ _, Sl.nil _ _, hb, .inr (.inr ⟨g, rfl, rfl, rfl, rfl, rfl⟩)⟩
theorem DivV.nought {n1 n2 : Bool} {xs ys : List Nat} {w w' : World} (hx : Snd n1 xs) (hy : Snd n2 ys) (hne : ys = []) (hb : Below w.heap.size w w') :
    DivV n1 n2 xs ys w (.returned (.tuple #[.agg #[.bool false, .slice none 0 0], .agg #[.bool false, .slice none 0 0], .int .i64 13])) w' :=
  ⟨false, none, 0, 0, [], false, none, 0, 0, [], 13, rfl, Sl.nil _ _, Sl.nil _ _, hb, .inr (.inl ⟨⟨hx, hy⟩, hne, rfl, rfl, rfl, rfl, rfl⟩)⟩

theorem divR_unique {n1 n2 : Bool} {xs ys : List Nat} {c d : Int} {m1 k1 m2 k2 : Bool} {q r s t : List Nat} (h : DivR n1 n2 xs ys c m1 q m2 r) (h' : DivR n1 n2 xs ys d k1 s k2 t) : m1 = k1 ∧ q = s ∧ m2 = k2 ∧ r = t ∧ c = d := by
  rcases h with ⟨g, hne, rfl, a1, a2, a3, a4⟩ | ⟨g, hne, rfl, rfl, rfl, rfl, rfl⟩ | ⟨g, rfl, rfl, rfl, rfl, rfl⟩ <;> rcases h' with ⟨g', hne', rfl, b1, b2, b3, b4⟩ | ⟨g', hne', rfl, rfl, rfl, rfl, rfl⟩ | ⟨g', rfl, rfl, rfl, rfl, rfl⟩
  · obtain ⟨rfl, rfl⟩ := snd_unique a1 b1 (a3.trans b3.symm)
    obtain ⟨rfl, rfl⟩ := snd_unique a2 b2 (a4.trans b4.symm)
    exact ⟨rfl, rfl, rfl, rfl, rfl⟩
  · exact absurd hne' hne
  · exact absurd g g'
  · exact absurd hne hne'
  · exact ⟨rfl, rfl, rfl, rfl, rfl⟩
  · exact absurd g g'
  · exact absurd g' g
  · exact absurd g' g
  · exact ⟨rfl, rfl, rfl, rfl, rfl⟩

/-- The modulo of two sizes with signs. -/
def modN (n1 n2 : Bool) (X Y : Nat) : Int := if X % Y = 0 ∨ n1 = n2 then sg n1 (X % Y) else sg n1 (X % Y) + sg n2 Y
/-- What Modulo is, of any two numbers. -/
def ModR (n1 n2 : Bool) (xs ys : List Nat) (c : Int) (m : Bool) (r : List Nat) : Prop :=
  ((Snd n1 xs ∧ Snd n2 ys) ∧ ys ≠ [] ∧ c = 0 ∧ Snd m r ∧ ival m r = modN n1 n2 (val xs) (val ys)) ∨
  ((Snd n1 xs ∧ Snd n2 ys) ∧ ys = [] ∧ c = 13 ∧ m = false ∧ r = []) ∨
  (¬ (Snd n1 xs ∧ Snd n2 ys) ∧ c = 2 ∧ m = false ∧ r = [])
/-- What Modulo answers, the struct opened. -/
def ModV (n1 n2 : Bool) (xs ys : List Nat) (w : World) (e : Ending) (w' : World) : Prop :=
  ∃ m a l cap r c, e = .returned (.tuple #[.agg #[.bool m, .slice a l cap], .int .i64 c]) ∧ Sl .u32 w' (.slice a l cap) r ∧ Below w.heap.size w w' ∧ ModR n1 n2 xs ys c m r
theorem modR_unique {n1 n2 : Bool} {xs ys : List Nat} {c d : Int} {m k : Bool} {r t : List Nat} (h : ModR n1 n2 xs ys c m r) (h' : ModR n1 n2 xs ys d k t) : m = k ∧ r = t ∧ c = d := by
  rcases h with ⟨g, hne, rfl, a1, a2⟩ | ⟨g, hne, rfl, rfl, rfl⟩ | ⟨g, rfl, rfl, rfl⟩ <;> rcases h' with ⟨g', hne', rfl, b1, b2⟩ | ⟨g', hne', rfl, rfl, rfl⟩ | ⟨g', rfl, rfl, rfl⟩
  · obtain ⟨rfl, rfl⟩ := snd_unique a1 b1 (a2.trans b2.symm)
    exact ⟨rfl, rfl, rfl⟩
  · exact absurd hne' hne
  · exact absurd g g'
  · exact absurd hne hne'
  · exact ⟨rfl, rfl, rfl⟩
  · exact absurd g g'
  · exact absurd g' g
  · exact absurd g' g
  · exact ⟨rfl, rfl, rfl⟩

theorem sg_neg_add (n1 n2 : Bool) (R Y : Nat) (h : R < Y) : (sg n1 R + sg n2 Y).natAbs ≤ Y + Y := by
  cases n1 <;> cases n2 <;> simp [sg] <;> omega
/-- The rest, as it stands, is the modulo: where it is nought, or has the other's sign. -/
theorem ModR.rest {n1 n2 : Bool} {xs ys : List Nat} {m1 m2 : Bool} {q r : List Nat} (h : DivR n1 n2 xs ys 0 m1 q m2 r) (hc : r = [] ∨ m2 = n2) : ModR n1 n2 xs ys 0 m2 r := by
  rcases h with ⟨g, hne, _, _, a2, _, a4⟩ | ⟨_, _, h, _⟩ | ⟨_, h, _⟩
  · refine .inl ⟨g, hne, rfl, a2, ?_⟩
    rw [a4]
    unfold modN
    by_cases e : r = []
    · have h0 : sg n1 (val xs % val ys) = 0 := by rw [← a4, e]; unfold ival val; simp [V]
      have : val xs % val ys = 0 := by
        generalize val xs % val ys = R at *
        revert h0; cases n1 <;> simp [sg]
      rw [if_pos (.inl this)]
    · rcases hc with hc | rfl
      · exact absurd hc e
      · have hp := snd_pos a2 e
        have : n1 = m2 := by
          revert a4
          unfold ival sg
          cases n1 <;> cases m2 <;> simp <;> omega
        rw [if_pos (.inr this)]
  · cases h
  · cases h
/-- Else the other number is put to it. -/
theorem ModR.more {n1 n2 : Bool} {xs ys : List Nat} {m1 m2 m3 : Bool} {q r s : List Nat} {c : Int} (h : DivR n1 n2 xs ys 0 m1 q m2 r) (hr : r ≠ []) (hm : m2 ≠ n2)
    (hres : ((Snd m2 r ∧ Snd n2 ys) ∧ c = 0 ∧ Snd m3 s ∧ ival m3 s = ival m2 r + ival n2 ys) ∨ ((Snd m2 r ∧ Snd n2 ys) ∧ c = 6 ∧ m3 = false ∧ s = [] ∧ 1000000000 ^ 64 ≤ (ival m2 r + ival n2 ys).natAbs) ∨ (¬ (Snd m2 r ∧ Snd n2 ys) ∧ c = 2 ∧ m3 = false ∧ s = [])) :
    ModR n1 n2 xs ys c m3 s := by
  rcases h with ⟨g, hne, _, _, a2, _, a4⟩ | ⟨_, _, h, _⟩ | ⟨_, h, _⟩
  · have hY : 0 < val ys := snd_pos g.2 hne
    have hlt := Nat.mod_lt (val xs) hY
    have hp := snd_pos a2 hr
    have hn : n1 = m2 ∧ val r = val xs % val ys := by
      revert a4
      unfold ival sg
      cases n1 <;> cases m2 <;> simp <;> omega
    obtain ⟨rfl, hv⟩ := hn
    rw [a4] at hres
    have e2 : ival n2 ys = sg n2 (val ys) := rfl
    rw [e2] at hres
    have hb : val ys < 1000000000 ^ 64 := Nat.lt_of_lt_of_le (val_lt g.2.2.1) (Nat.pow_le_pow_right (by omega) g.2.1)
    rcases hres with ⟨_, rfl, h1, h2⟩ | ⟨_, _, _, _, h1⟩ | ⟨h1, _⟩
    · refine .inl ⟨g, hne, rfl, h1, ?_⟩
      rw [h2]
      unfold modN
      rw [if_neg (by rintro (h | h); · omega
                     · exact hm h)]
    · exfalso
      generalize 1000000000 ^ 64 = B at *
      revert h1 hm
      cases n1 <;> cases n2 <;> simp [sg] <;> omega
    · exact absurd ⟨a2, g.2⟩ h1
  · cases h
  · cases h
end Go.Proofs.YtiekhjgfnmochaaDoor
