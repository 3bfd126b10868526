/- Bytes of characters, and slices of any ints. No walk here. -/
import Derived.Test.YtkocmjmmflphnaaGreatDoorUMath2
import Derived.Test.YtkocmjmmflphnaaGreatDoorApp
namespace Go.Proofs.YtkocmjmmflphnaaGreatDoor
open Go.RowKit

/-- The slice value v reads as these cells. -/
def SlV (w : World) (v : Value) (us : List Value) : Prop :=
  us.length ≤ maxLen ∧ ∃ ao cap, v = .slice ao us.length cap ∧ us.length ≤ cap ∧ ((us = [] ∧ (ao = none → cap = 0)) ∨ ∃ b off, ao = some ⟨b, off, none⟩ ∧ b < w.heap.size ∧ ∀ j u, us[j]? = some u → w.cell? ⟨b, off + j, none⟩ = some u)
theorem SlV.below {w w' : World} {v : Value} {us : List Value} (h : SlV w v us) (hb : Below w.heap.size w w') : SlV w' v us := by
  obtain ⟨hm, ao, cap, hv, hc, h⟩ := h
  refine ⟨hm, ao, cap, hv, hc, ?_⟩
  rcases h with h | ⟨b, off, ha, hlt, hcell⟩
  · exact .inl h
  · refine .inr ⟨b, off, ha, Nat.lt_of_lt_of_le hlt hb.size, fun j u hu => ?_⟩
    rw [hb.cell (p := ⟨b, off + j, none⟩) hlt]
    exact hcell j u hu
theorem wpList_append_slv {P : Program} {w : World} {ops : Array Oper} {rest : List Oper} {o : Oper} {a : Act} {Q : Exit → Act → World → Prop} (hgd : o.guard = none) (s x : Operand) (t : TypeId)
    (ho : o.op = .call { callee := .builtin .append, args := #[s, x], argTypes := #[t, t] })
    (base : Nat) (e : TypeId) (i : TypeInfo) (z : Value) (bytes : Nat) (ht : P.underlying t = some (.slice e)) (hi : P.info? e = some i) (hz : i.zero = some z)
    (hsize : i.size = 1) (hby : i.bytes = bytes) (hzs : z.cells.size = 1)
    (v : Value) (n : Nat) (ys : List Value) (hs : a.eval s = v) (hown : w.ownsRow base e 1 v n ys)
    (sv : Value) (us : List Value) (hone : ∀ u ∈ us, u.oneCell' = true) (hx : a.eval x = sv) (hsl : SlV w sv us)
    (h63 : n + us.length ≤ maxLen) (hbytes : (n + us.length) * bytes ≤ 140737488355328) (hbase : base ≤ w.heap.size)
    (h : ∀ v' w', w'.ownsRow base e 1 v' (n + us.length) (ys ++ us) → w.grownBy w' v.ownBlock → wpList P ops Q rest (a.put o.dst v') w') : wpList P ops Q (o :: rest) a w := by
  obtain ⟨hm, ao, cap, hv, hc, hh⟩ := hsl
  cases ao with
  | none =>
    rcases hh with ⟨h1, h2⟩ | ⟨b, off, h1, _⟩
    · subst h1
      have := h2 rfl
      subst this
      refine wpList_append_own_none hgd s x t ho base e i 1 ht hi v n ys hs hown (by rw [hx, hv]; rfl) (h v w ?_ (grown_refl w _))
      simpa using hown
    · cases h1
  | some ad =>
    refine wpList_append_own _ hgd s x t ho base e i z 1 bytes ht hi hz hsize hby hzs (by decide) v n ys hs hown ad us.length cap us (by rw [hx, hv]) (by simp) ?_ hone h63 hbytes hbase (fun v' w' h1 h2 _ => h v' w' h1 h2)
    intro j u hu
    rcases hh with ⟨h1, _⟩ | ⟨b, off, h1, hb, hcell⟩
    · rw [h1] at hu; simp at hu
    · obtain rfl := Option.some.inj h1
      rw [Addr.add_lit]
      exact hcell j u hu
theorem owns_slv {w : World} {base : Nat} {v : Value} {n : Nat} {us : List Value} {e : TypeId} (h : w.ownsRow base e 1 v n us) : SlV w v us := by
  have hn : n = us.length := by have := h.1; omega
  rcases h.2 with ⟨rfl, h0⟩ | ⟨g, cap, cur, hv, hg, hh, hc1, hc2, hs, ht⟩
  · obtain rfl : us = [] := List.eq_nil_of_length_eq_zero (by omega)
    exact ⟨by simp, none, 0, rfl, by simp, .inl ⟨rfl, fun _ => rfl⟩⟩
  · have hcell := h.cells (g := g) (by rw [hv]; rfl)
    refine ⟨by omega, some ⟨g, 0, none⟩, cap, by rw [hv, hn], by omega, .inr ⟨g, 0, rfl, (Array.getElem?_eq_some_iff.1 hh).1, fun j u hu => ?_⟩⟩
    have := hcell j u hu
    rw [Addr.add_lit] at this
    exact this

/-- Ints as cells. -/
def intCells (zs : List Int) : List Value := zs.map fun z => Value.int .i64 z
theorem intCells_len (zs : List Int) : (intCells zs).length = zs.length := by simp [intCells]
theorem intCells_one (zs : List Int) : ∀ u ∈ intCells zs, u.oneCell' = true := by
  intro u hu
  obtain ⟨_, _, rfl⟩ := List.mem_map.1 hu
  rfl
theorem intCells_at {zs : List Int} {j : Nat} (h : j < zs.length) : (intCells zs)[j]? = some (.int .i64 (zs.getD j 0)) := by
  simp [intCells, h]
/-- Ints that are all numbers from 0 on. -/
theorem slv_nat {w : World} {v : Value} {xs : List Nat} (h : Sl .i64 w v xs) : SlV w v (intCells (xs.map fun (x : Nat) => (x : Int))) := by
  have hl : (intCells (xs.map fun (x : Nat) => (x : Int))).length = xs.length := by simp [intCells]
  obtain ⟨hm, ao, cap, hv, hc, hh⟩ := h
  refine ⟨by omega, ao, cap, by rw [hl]; exact hv, by omega, ?_⟩
  rcases hh with ⟨rfl, h2⟩ | ⟨b, off, h1, h2, h3⟩
  · exact .inl ⟨rfl, h2⟩
  · refine .inr ⟨b, off, h1, h2, fun j u hu => ?_⟩
    have hj : j < xs.length := by rw [← hl]; exact (List.getElem?_eq_some_iff.1 hu).1
    rw [h3 j hj, limb_lt hj]
    simpa [intCells, hj] using hu
theorem nat_slv {w : World} {v : Value} {zs : List Int} (h : SlV w v (intCells zs)) (hp : ∀ z ∈ zs, 0 ≤ z) : Sl .i64 w v (zs.map Int.toNat) := by
  have hl : (zs.map Int.toNat).length = (intCells zs).length := by simp [intCells]
  obtain ⟨hm, ao, cap, hv, hc, hh⟩ := h
  refine ⟨by omega, ao, cap, by rw [hl]; exact hv, by omega, ?_⟩
  rcases hh with ⟨h1, h2⟩ | ⟨b, off, h1, h2, h3⟩
  · refine .inl ⟨?_, h2⟩
    have : zs = [] := by simpa [intCells] using h1
    rw [this]; rfl
  · refine .inr ⟨b, off, h1, h2, fun j hj => ?_⟩
    have hz : j < zs.length := by simpa using hj
    rw [h3 j _ (intCells_at hz), limb_lt hj]
    have := hp zs[j] (List.getElem_mem hz)
    simp [hz]
    omega

/-- The bytes of characters. -/
def encL (l : List Nat) : List Nat := l.flatMap encN
theorem encL_snoc (l : List Nat) (c : Nat) : encL (l ++ [c]) = encL l ++ encN c := by simp [encL]
theorem blen_le (c : Nat) : 1 ≤ blen c ∧ blen c ≤ 4 := by
  unfold blen
  repeat' split
  all_goals omega
theorem encN_by {c : Nat} (h : c ≤ 1114111) : By (encN c) := by
  have key : ∀ l : List Nat, (∀ x ∈ l, x < 256) → By l := by
    intro l hl i
    by_cases hi : i < l.length
    · rw [limb_lt hi]; exact hl _ (List.getElem_mem hi)
    · rw [limb_out (by omega)]; omega
  refine key _ fun x hx => ?_
  unfold encN at hx
  split at hx
  · simp at hx; omega
  · split at hx
    · simp at hx; omega
    · split at hx
      · simp at hx; omega
      · simp at hx; omega
theorem By.nil : By [] := fun i => by rw [limb_out (by simp)]; omega
/-- What Encode answers. -/
def encA (zs : List Int) : List Nat × Nat := if zs.all scB then (encL (zs.map Int.toNat), 0) else ([], 1)
theorem scB_range {z : Int} (h : scB z = true) : 0 ≤ z ∧ z ≤ 1114111 := by
  unfold scB at h
  simp only [decide_eq_true_iff] at h
  omega
/-- What a loop over ints holds. -/
structure EncS (zs : List Int) (bs : List Nat) (k : Nat) : Prop where
  le : k ≤ zs.length
  all : ∀ j, j < k → scB (zs.getD j 0) = true
  eq : bs = encL ((zs.take k).map Int.toNat)
  len : bs.length ≤ 4 * k
  by' : By bs
theorem EncS.start (zs : List Int) : EncS zs [] 0 := ⟨by omega, fun j hj => by omega, by simp [encL], by simp, By.nil⟩
theorem EncS.step {zs : List Int} {bs : List Nat} {k : Nat} (h : EncS zs bs k) (hk : k < zs.length) (hs : scB (zs.getD k 0) = true) : EncS zs (bs ++ encN (zs.getD k 0).toNat) (k + 1) := by
  have hr := scB_range hs
  have hb := blen_le (zs.getD k 0).toNat
  refine ⟨hk, fun j hj => ?_, ?_, ?_, h.by'.app (encN_by (by omega))⟩
  · by_cases e : j = k
    · subst e; exact hs
    · exact h.all j (by omega)
  · have e : zs.take (k + 1) = zs.take k ++ [zs.getD k 0] := by rw [List.take_succ_eq_append_getElem hk]; simp [hk]
    rw [e, List.map_append, List.map_singleton, encL_snoc, h.eq]
  · rw [List.length_append, encN_len]; have := h.len; omega
theorem EncS.bad {zs : List Int} {k : Nat} (hk : k < zs.length) (hs : scB (zs.getD k 0) = false) : encA zs = ([], 1) := by
  unfold encA
  rw [if_neg]
  intro h
  rw [List.all_eq_true] at h
  have := h zs[k] (List.getElem_mem hk)
  have e : zs.getD k 0 = zs[k] := by simp [hk]
  rw [e, this] at hs
  cases hs
theorem EncS.done {zs : List Int} {bs : List Nat} (h : EncS zs bs zs.length) : encA zs = (bs, 0) := by
  unfold encA
  rw [if_pos]
  · rw [h.eq, List.take_length]
  · rw [List.all_eq_true]
    intro z hz
    obtain ⟨i, hi, rfl⟩ := List.getElem_of_mem hz
    have := h.all i hi
    simpa [hi] using this
theorem runeCells_enc {z : Int} (h : scB z = true) : Lib.runeCells z = cellsOf .u8 (encN z.toNat) := by
  unfold scB at h
  simp only [decide_eq_true_iff] at h
  unfold Lib.runeCells cellsOf encN
  by_cases h1 : z.toNat < 128
  · rw [Lib.encodeRuneZ_one (by omega) (by omega), if_pos h1]
    simp; omega
  by_cases h2 : z.toNat < 2048
  · rw [Lib.encodeRuneZ_two (by omega) (by omega), if_neg h1, if_pos h2]
    simp; omega
  by_cases h3 : z.toNat < 65536
  · rw [Lib.encodeRuneZ_three (by omega), if_neg h1, if_neg h2, if_pos h3]
    simp; omega
  · rw [Lib.encodeRuneZ_four (by omega) (by omega), if_neg h1, if_neg h2, if_neg h3]
    simp; omega
end Go.Proofs.YtkocmjmmflphnaaGreatDoor
