/- Doubling and halving. No walk here. -/
import Derived.Test.YtiekhjgfnmochaaDoorWholeMath
namespace Go.Proofs.YtiekhjgfnmochaaDoor
open Go.RowKit

theorem val_cons0 (xs : List Nat) : val (0 :: xs) = 1000000000 * val xs := by
  unfold val
  rw [List.length_cons, V_shift]
  have e : (fun i => limb (0 :: xs) (i + 1)) = limb xs := by funext i; simp [limb]
  rw [e]
  simp [limb]
theorem val_noughts (xs : List Nat) (n : Nat) : val (List.replicate n 0 ++ xs) = val xs * 1000000000 ^ n := by
  induction n with
  | zero => simp
  | succ n ih =>
    rw [List.replicate_succ, List.cons_append, val_cons0, ih, Nat.pow_succ]
    rw [Nat.mul_comm 1000000000, Nat.mul_assoc]
/-- The number that is doubled first. -/
def firstN (n : Nat) : List Nat := List.replicate 60 0 ++ [n + 1]
theorem val_one (d : Nat) : val [d] = d := by simp [val, V, limb]
theorem firstN_snd {n : Nat} (hn : n ≤ 65535) (neg : Bool) : Snd neg (firstN n) := by
  refine ⟨by simp [firstN], Lb.of_mem (fun x hx => ?_), fun h => by simp [firstN] at h, fun _ => ?_⟩
  · rcases List.mem_append.1 hx with h | h
    · rw [(List.mem_replicate.1 h).2]; omega
    · rw [List.mem_singleton.1 h]; omega
  · simp [firstN, limb]
theorem firstN_val (n : Nat) : val (firstN n) = (n + 1) * 1000000000 ^ 60 := by
  unfold firstN
  rw [val_noughts, val_one]
theorem one_list {n : Nat} (hn : n ≤ 65535) {m : Bool} {rs : List Nat} (h : Snd m rs) (hv : ival m rs = (n : Int) + 1) : m = false ∧ rs = [n + 1] := by
  have hs : Snd false [n + 1] := ⟨by simp, Lb.of_mem (fun x hx => by rw [List.mem_singleton.1 hx]; omega), fun _ => rfl, fun _ => by simp [limb]⟩
  refine snd_unique h hs ?_
  rw [hv]
  show _ = ((val [n + 1] : Nat) : Int)
  rw [val_one]
  omega
theorem two_list {m : Bool} {rs : List Nat} (h : Snd m rs) (hv : ival m rs = 2) : m = false ∧ rs = [2] := one_list (n := 1) (by omega) h hv

theorem EnvD.fillAt {L : List Ent} {W : World} (h : EnvD L W) {g : Nat} {n0 : Bool} {s0 : Option Addr} {l0 c0 : Nat} {xs0 : List Nat} (hz : (g, n0, .slice s0 l0 c0, xs0) ∈ L) {s : Value} {xs : List Nat} (hs : Sl .u32 W s xs) (n : Bool) :
    ∃ L', EnvD L' ((W.setCell ⟨g, 0, none⟩ (.bool n)).setCell ⟨g, 1, none⟩ s) ∧ (g, n, s, xs) ∈ L' ∧ ∀ e ∈ L, e.1 ≠ g → e ∈ L' := by
  refine ⟨L.map fun e => if e.1 = g then (g, n, s, xs) else e, ⟨env_fill h.1 hz hs fun e he => ?_, ?_⟩, ?_, fun e he hne => ?_⟩
  · obtain ⟨e0, h0, rfl⟩ := List.mem_map.1 he
    by_cases hg : e0.1 = g
    · exact .inl (by simp [hg])
    · exact .inr (by rw [if_neg hg]; exact ⟨h0, hg⟩)
  · refine List.pairwise_map.2 (h.2.imp fun {a b} hab => ?_)
    have e : ∀ x : Ent, (if x.1 = g then ((g, n, s, xs) : Ent) else x).1 = x.1 := fun x => by
      by_cases hx : x.1 = g
      · rw [if_pos hx]; exact hx.symm
      · rw [if_neg hx]
    rw [e a, e b]
    exact hab
  · exact List.mem_map.2 ⟨_, hz, by simp⟩
  · exact List.mem_map.2 ⟨e, he, by rw [if_neg hne]⟩
theorem any_g {G : Prop} {N c : Int} {n : Bool} {q : List Nat} (h : (G ∧ c = 0 ∧ Snd n q ∧ ival n q = N) ∨ (G ∧ c = 6 ∧ n = false ∧ q = [] ∧ 1000000000 ^ 64 ≤ N.natAbs) ∨ (¬ G ∧ c = 2 ∧ n = false ∧ q = [])) (g : G) :
    (True ∧ c = 0 ∧ Snd n q ∧ ival n q = N) ∨ (True ∧ c = 6 ∧ n = false ∧ q = [] ∧ 1000000000 ^ 64 ≤ N.natAbs) ∨ (¬ True ∧ c = 2 ∧ n = false ∧ q = []) := by
  rcases h with ⟨_, h⟩ | ⟨_, h⟩ | ⟨h, _⟩
  · exact .inl ⟨trivial, h⟩
  · exact .inr (.inl ⟨trivial, h⟩)
  · exact absurd g h
theorem ival_two : ival false [2] = 2 := by show ((val [2] : Nat) : Int) = 2; rw [val_one]; rfl
theorem snd_two : Snd false [2] := ⟨by simp, Lb.of_mem (fun x hx => by rw [List.mem_singleton.1 hx]; omega), fun _ => rfl, fun _ => by simp [limb]⟩

/-- Doubled k times. -/
structure Dbl (neg : Bool) (X k : Nat) (rs : List Nat) : Prop where
  snd : Snd neg rs
  eq : val rs = X * 2 ^ k
theorem Dbl.next {neg n : Bool} {X k : Nat} {rs q : List Nat} (h : Dbl neg X k rs) (hX : 0 < X) (hq : Snd n q) (hv : ival n q = ival neg rs + ival neg rs) : n = neg ∧ Dbl neg X (k + 1) q := by
  have hp : 0 < val rs := by rw [h.eq]; exact Nat.mul_pos hX (Nat.pow_pos (by omega))
  have hh : n = neg ∧ val q = val rs + val rs := by
    revert hv
    unfold ival
    cases n <;> cases neg <;> simp <;> omega
  obtain ⟨rfl, hh⟩ := hh
  refine ⟨rfl, hq, ?_⟩
  rw [hh, h.eq, Nat.pow_succ, ← Nat.mul_assoc]
  omega
theorem pow64 : (1000000000 : Nat) ^ 64 = 1000000000 ^ 60 * 1000000000000000000000000000000000000 := by
  rw [show (64 : Nat) = 60 + 4 from rfl, Nat.pow_add]
theorem Dbl.less {neg : Bool} {X k : Nat} {rs : List Nat} (h : Dbl neg X k rs) (hX : 1000000000 ^ 60 ≤ X) : k < 120 := by
  have h1 : val rs < 1000000000 ^ 64 := Nat.lt_of_lt_of_le (val_lt h.snd.2.1) (Nat.pow_le_pow_right (by omega) h.snd.1)
  rw [h.eq, pow64] at h1
  have hP : 0 < 1000000000 ^ 60 := Nat.pow_pos (by omega)
  generalize 1000000000 ^ 60 = P at *
  have h2 : P * 2 ^ k < P * 1000000000000000000000000000000000000 := Nat.lt_of_le_of_lt (Nat.mul_le_mul_right _ hX) h1
  have h3 := Nat.lt_of_mul_lt_mul_left h2
  apply Classical.byContradiction
  intro hk
  have h4 : 2 ^ 120 ≤ 2 ^ k := Nat.pow_le_pow_right (by omega) (by omega)
  have h5 : (2 : Nat) ^ 120 = 1329227995784915872903807060280344576 := by decide
  rw [h5] at h4
  omega
theorem Dbl.last {neg : Bool} {X k : Nat} {rs : List Nat} (h : Dbl neg X k rs) (hX : X ≤ 65536 * 1000000000 ^ 60) (hl : 1000000000 ^ 64 ≤ (ival neg rs + ival neg rs).natAbs) : rs.length = 64 ∧ 90 < k := by
  have h1 : (ival neg rs + ival neg rs).natAbs = 2 * val rs := by
    unfold ival
    cases neg <;> simp <;> omega
  rw [h1] at hl
  constructor
  · apply Classical.byContradiction
    intro hne
    have hlen : rs.length ≤ 63 := by have := h.snd.1; omega
    have h2 : val rs < 1000000000 ^ 63 := Nat.lt_of_lt_of_le (val_lt h.snd.2.1) (Nat.pow_le_pow_right (by omega) hlen)
    rw [show (64 : Nat) = 63 + 1 from rfl, Nat.pow_succ] at hl
    generalize 1000000000 ^ 63 = Q at *
    omega
  · rw [h.eq, pow64] at hl
    have hP : 0 < 1000000000 ^ 60 := Nat.pow_pos (by omega)
    generalize 1000000000 ^ 60 = P at *
    have h2 : X * 2 ^ k ≤ 65536 * P * 2 ^ k := Nat.mul_le_mul_right _ hX
    have h3 : P * 1000000000000000000000000000000000000 ≤ P * (131072 * 2 ^ k) := by
      refine Nat.le_trans hl (Nat.le_trans (Nat.mul_le_mul_left 2 h2) (Nat.le_of_eq ?_))
      generalize 2 ^ k = K
      rw [Nat.mul_comm 65536 P, Nat.mul_assoc P, Nat.mul_left_comm 2 P, ← Nat.mul_assoc 2 65536 K]
    have h4 := Nat.le_of_mul_le_mul_left h3 hP
    apply Classical.byContradiction
    intro hk
    have h5 : 2 ^ k ≤ 2 ^ 90 := Nat.pow_le_pow_right (by omega) (by omega)
    have h6 : (2 : Nat) ^ 90 = 1237940039285380274899124224 := by decide
    rw [h6] at h5
    omega
theorem Dbl.half {neg : Bool} {X k : Nat} {rs : List Nat} (h : Dbl neg X (k + 1) rs) (hX : 0 < X) {c : Int} {m1 m2 : Bool} {q r : List Nat} (hd : DivR neg false rs [2] c m1 q m2 r) : c = 0 ∧ m1 = neg ∧ Dbl neg X k q ∧ r = [] := by
  have hs : Snd false [2] := ⟨by simp, Lb.of_mem (fun x hx => by rw [List.mem_singleton.1 hx]; omega), fun _ => rfl, fun _ => by simp [limb]⟩
  obtain ⟨hc, g1, g2, e1, e2⟩ := hd.good h.snd hs (by simp)
  have hv : val rs = 2 * (X * 2 ^ k) := by rw [h.eq, Nat.pow_succ]; rw [← Nat.mul_assoc]; omega
  have e3 : val rs / val [2] = X * 2 ^ k := by rw [val_one, hv]; omega
  have e4 : val rs % val [2] = 0 := by rw [val_one, hv]; omega
  rw [e3] at e1
  rw [e4] at e2
  have hr : r = [] := ival_zero g2 (by rw [e2]; cases neg <;> rfl)
  have hq0 : 0 < X * 2 ^ k := Nat.mul_pos hX (Nat.pow_pos (by omega))
  have hq : m1 = neg ∧ val q = X * 2 ^ k := by
    revert e1
    generalize X * 2 ^ k = Y at *
    unfold ival sg
    cases m1 <;> cases neg <;> simp <;> omega
  obtain ⟨rfl, hq⟩ := hq
  exact ⟨hc, rfl, ⟨g1, hq⟩, hr⟩
theorem Dbl.back {neg : Bool} {X : Nat} {rs xs : List Nat} (h : Dbl neg X 0 rs) (h0 : Snd neg xs) (hv : val xs = X) : rs = xs := snd_list h.snd h0 (by rw [h.eq, hv]; omega)
end Go.Proofs.YtiekhjgfnmochaaDoor
