/- Bytes of characters, and slices of any ints. No walk here. | There and back. No walk here. | Names of characters: words, hexadecimal digits, and the characters themselves. No walk here. -/
import Derived.Test.YtocladhggcaokaaGreatDoorUOne
import Derived.Test.YtocladhggcaokaaGreatDoorApp
import Derived.Shelf.Strings.Cut
import Derived.Lib.Case
import Derived.Lib.MapU
namespace Go.Proofs.YtocladhggcaokaaGreatDoor
open Go.RowKit

/-- The slice value v reads as these cells. -/
def SlV (w : World) (v : Value) (us : List Value) : Prop :=
  us.length ≤ maxLen ∧ ∃ ao cap, v = .slice ao us.length cap ∧ us.length ≤ cap ∧ ((us = [] ∧ (ao = none → cap = 0)) ∨ ∃ b off, ao = some ⟨b, off, none⟩ ∧ b < w.heap.size ∧ ∀ j u, us[j]? = some u → w.cell? ⟨b, off + j, none⟩ = some u)
theorem SlV.below {w w' : World} {v : Value} {us : List Value} (h : SlV w v us) (hb : Below w.heap.size w w') : SlV w' v us := by
  obtain ⟨hm, ao, cap, hv, hc, h⟩ := h
  refine ⟨hm, ao, cap, hv, hc, ?_⟩
  rcases h with h | ⟨b, off, ha, hlt, hcell⟩
  · exact .inl h
  · refine .inr ⟨b, off, ha, Nat.lt_of_lt_of_le hlt hb.size, fun j u hu => ?_⟩
    rw [hb.cell (p := ⟨b, off + j, none⟩) hlt]
    exact hcell j u hu
theorem wpList_append_slv {P : Program} {w : World} {ops : Array Oper} {rest : List Oper} {o : Oper} {a : Act} {Q : Exit → Act → World → Prop} (hgd : o.guard = none) (s x : Operand) (t : TypeId)
    (ho : o.op = .call { callee := .builtin .append, args := #[s, x], argTypes := #[t, t] })
    (base : Nat) (e : TypeId) (i : TypeInfo) (z : Value) (bytes : Nat) (ht : P.underlying t = some (.slice e)) (hi : P.info? e = some i) (hz : i.zero = some z)
    (hsize : i.size = 1) (hby : i.bytes = bytes) (hzs : z.cells.size = 1)
    (v : Value) (n : Nat) (ys : List Value) (hs : a.eval s = v) (hown : w.ownsRow base e 1 v n ys)
    (sv : Value) (us : List Value) (hone : ∀ u ∈ us, u.oneCell' = true) (hx : a.eval x = sv) (hsl : SlV w sv us)
    (h63 : n + us.length ≤ maxLen) (hbytes : (n + us.length) * bytes ≤ 140737488355328) (hbase : base ≤ w.heap.size)
    (h : ∀ v' w', w'.ownsRow base e 1 v' (n + us.length) (ys ++ us) → w.grownBy w' v.ownBlock → wpList P ops Q rest (a.put o.dst v') w') : wpList P ops Q (o :: rest) a w := by
  obtain ⟨hm, ao, cap, hv, hc, hh⟩ := hsl
  cases ao with
  | none =>
    rcases hh with ⟨h1, h2⟩ | ⟨b, off, h1, _⟩
    · subst h1
      have := h2 rfl
      subst this
      refine wpList_append_own_none hgd s x t ho base e i 1 ht hi v n ys hs hown (by rw [hx, hv]; rfl) (h v w ?_ (grown_refl w _))
      simpa using hown
    · cases h1
  | some ad =>
    refine wpList_append_own _ hgd s x t ho base e i z 1 bytes ht hi hz hsize hby hzs (by decide) v n ys hs hown ad us.length cap us (by rw [hx, hv]) (by simp) ?_ hone h63 hbytes hbase (fun v' w' h1 h2 _ => h v' w' h1 h2)
    intro j u hu
    rcases hh with ⟨h1, _⟩ | ⟨b, off, h1, hb, hcell⟩
    · rw [h1] at hu; simp at hu
    · obtain rfl := Option.some.inj h1
      rw [Addr.add_lit]
      exact hcell j u hu
theorem owns_slv {w : World} {base : Nat} {v : Value} {n : Nat} {us : List Value} {e : TypeId} (h : w.ownsRow base e 1 v n us) : SlV w v us := by
  have hn : n = us.length := by have := h.1; omega
  rcases h.2 with ⟨rfl, h0⟩ | ⟨g, cap, cur, hv, hg, hh, hc1, hc2, hs, ht⟩
  · obtain rfl : us = [] := List.eq_nil_of_length_eq_zero (by omega)
    exact ⟨by simp, none, 0, rfl, by simp, .inl ⟨rfl, fun _ => rfl⟩⟩
  · have hcell := h.cells (g := g) (by rw [hv]; rfl)
    refine ⟨by omega, some ⟨g, 0, none⟩, cap, by rw [hv, hn], by omega, .inr ⟨g, 0, rfl, (Array.getElem?_eq_some_iff.1 hh).1, fun j u hu => ?_⟩⟩
    have := hcell j u hu
    rw [Addr.add_lit] at this
    exact this

/-- Ints as cells. -/
def intCells (zs : List Int) : List Value := zs.map fun z => Value.int .i64 z
theorem intCells_len (zs : List Int) : (intCells zs).length = zs.length := by simp [intCells]
theorem intCells_one (zs : List Int) : ∀ u ∈ intCells zs, u.oneCell' = true := by
  intro u hu
  obtain ⟨_, _, rfl⟩ := List.mem_map.1 hu
  rfl
theorem intCells_at {zs : List Int} {j : Nat} (h : j < zs.length) : (intCells zs)[j]? = some (.int .i64 (zs.getD j 0)) := by
  simp [intCells, h]
/-- Ints that are all numbers from 0 on. -/
theorem slv_nat {w : World} {v : Value} {xs : List Nat} (h : Sl .i64 w v xs) : SlV w v (intCells (xs.map fun (x : Nat) => (x : Int))) := by
  have hl : (intCells (xs.map fun (x : Nat) => (x : Int))).length = xs.length := by simp [intCells]
  obtain ⟨hm, ao, cap, hv, hc, hh⟩ := h
  refine ⟨by omega, ao, cap, by rw [hl]; exact hv, by omega, ?_⟩
  rcases hh with ⟨rfl, h2⟩ | ⟨b, off, h1, h2, h3⟩
  · exact .inl ⟨rfl, h2⟩
  · refine .inr ⟨b, off, h1, h2, fun j u hu => ?_⟩
    have hj : j < xs.length := by rw [← hl]; exact (List.getElem?_eq_some_iff.1 hu).1
    rw [h3 j hj, limb_lt hj]
    simpa [intCells, hj] using hu
theorem nat_slv {w : World} {v : Value} {zs : List Int} (h : SlV w v (intCells zs)) (hp : ∀ z ∈ zs, 0 ≤ z) : Sl .i64 w v (zs.map Int.toNat) := by
  have hl : (zs.map Int.toNat).length = (intCells zs).length := by simp [intCells]
  obtain ⟨hm, ao, cap, hv, hc, hh⟩ := h
  refine ⟨by omega, ao, cap, by rw [hl]; exact hv, by omega, ?_⟩
  rcases hh with ⟨h1, h2⟩ | ⟨b, off, h1, h2, h3⟩
  · refine .inl ⟨?_, h2⟩
    have : zs = [] := by simpa [intCells] using h1
    rw [this]; rfl
  · refine .inr ⟨b, off, h1, h2, fun j hj => ?_⟩
    have hz : j < zs.length := by simpa using hj
    rw [h3 j _ (intCells_at hz), limb_lt hj]
    have := hp zs[j] (List.getElem_mem hz)
    simp [hz]
    omega

/-- The bytes of characters. -/
def encL (l : List Nat) : List Nat := l.flatMap encN
theorem encL_snoc (l : List Nat) (c : Nat) : encL (l ++ [c]) = encL l ++ encN c := by simp [encL]
theorem blen_le (c : Nat) : 1 ≤ blen c ∧ blen c ≤ 4 := by
  unfold blen
  repeat' split
  all_goals omega
theorem encN_by {c : Nat} (h : c ≤ 1114111) : By (encN c) := by
  have key : ∀ l : List Nat, (∀ x ∈ l, x < 256) → By l := by
    intro l hl i
    by_cases hi : i < l.length
    · rw [limb_lt hi]; exact hl _ (List.getElem_mem hi)
    · rw [limb_out (by omega)]; omega
  refine key _ fun x hx => ?_
  unfold encN at hx
  split at hx
  · simp at hx; omega
  · split at hx
    · simp at hx; omega
    · split at hx
      · simp at hx; omega
      · simp at hx; omega
theorem By.nil : By [] := fun i => by rw [limb_out (by simp)]; omega
/-- What Encode answers. -/
def encA (zs : List Int) : List Nat × Nat := if zs.all scB then (encL (zs.map Int.toNat), 0) else ([], 1)
theorem scB_range {z : Int} (h : scB z = true) : 0 ≤ z ∧ z ≤ 1114111 := by
  unfold scB at h
  simp only [decide_eq_true_iff] at h
  omega
/-- What a loop over ints holds. -/
structure EncS (zs : List Int) (bs : List Nat) (k : Nat) : Prop where
  le : k ≤ zs.length
  all : ∀ j, j < k → scB (zs.getD j 0) = true
  eq : bs = encL ((zs.take k).map Int.toNat)
  len : bs.length ≤ 4 * k
  by' : By bs
theorem EncS.start (zs : List Int) : EncS zs [] 0 := ⟨by omega, fun j hj => by omega, by simp [encL], by simp, By.nil⟩
theorem EncS.step {zs : List Int} {bs : List Nat} {k : Nat} (h : EncS zs bs k) (hk : k < zs.length) (hs : scB (zs.getD k 0) = true) : EncS zs (bs ++ encN (zs.getD k 0).toNat) (k + 1) := by
  have hr := scB_range hs
  have hb := blen_le (zs.getD k 0).toNat
  refine ⟨hk, fun j hj => ?_, ?_, ?_, h.by'.app (encN_by (by omega))⟩
  · by_cases e : j = k
    · subst e; exact hs
    · exact h.all j (by omega)
  · have e : zs.take (k + 1) = zs.take k ++ [zs.getD k 0] := by rw [List.take_succ_eq_append_getElem hk]; simp [hk]
    rw [e, List.map_append, List.map_singleton, encL_snoc, h.eq]
  · rw [List.length_append, encN_len]; have := h.len; omega
theorem EncS.bad {zs : List Int} {k : Nat} (hk : k < zs.length) (hs : scB (zs.getD k 0) = false) : encA zs = ([], 1) := by
  unfold encA
  rw [if_neg]
  intro h
  rw [List.all_eq_true] at h
  have := h zs[k] (List.getElem_mem hk)
  have e : zs.getD k 0 = zs[k] := by simp [hk]
  rw [e, this] at hs
  cases hs
theorem EncS.done {zs : List Int} {bs : List Nat} (h : EncS zs bs zs.length) : encA zs = (bs, 0) := by
  unfold encA
  rw [if_pos]
  · rw [h.eq, List.take_length]
  · rw [List.all_eq_true]
    intro z hz
    obtain ⟨i, hi, rfl⟩ := List.getElem_of_mem hz
    have := h.all i hi
    simpa [hi] using this
theorem runeCells_enc {z : Int} (h : scB z = true) : Lib.runeCells z = cellsOf .u8 (encN z.toNat) := by
  unfold scB at h
  simp only [decide_eq_true_iff] at h
  unfold Lib.runeCells cellsOf encN
  by_cases h1 : z.toNat < 128
  · rw [Lib.encodeRuneZ_one (by omega) (by omega), if_pos h1]
    simp; omega
  by_cases h2 : z.toNat < 2048
  · rw [Lib.encodeRuneZ_two (by omega) (by omega), if_neg h1, if_pos h2]
    simp; omega
  by_cases h3 : z.toNat < 65536
  · rw [Lib.encodeRuneZ_three (by omega), if_neg h1, if_neg h2, if_pos h3]
    simp; omega
  · rw [Lib.encodeRuneZ_four (by omega) (by omega), if_neg h1, if_neg h2, if_neg h3]
    simp; omega
end Go.Proofs.YtocladhggcaokaaGreatDoor
namespace Go.Proofs.YtocladhggcaokaaGreatDoor
open Go.RowKit

theorem limb_cons0 (a : Nat) (l : List Nat) : limb (a :: l) 0 = a := rfl
theorem limb_cons1 (a b : Nat) (l : List Nat) : limb (a :: b :: l) 1 = b := rfl
theorem limb_cons2 (a b c : Nat) (l : List Nat) : limb (a :: b :: c :: l) 2 = c := rfl
theorem limb_cons3 (a b c d : Nat) (l : List Nat) : limb (a :: b :: c :: d :: l) 3 = d := rfl
/-- A character's bytes are it. -/
theorem dc_enc {c : Nat} (h : scN c) (bs : List Nat) : dc (encN c ++ bs) 0 = (c, blen c) := by
  unfold scN at h
  by_cases h1 : c < 128
  · have e : encN c = [c] := by unfold encN; rw [if_pos h1]
    have e2 : blen c = 1 := by unfold blen; rw [if_pos h1]
    rw [e, e2]
    exact dc_one (bs := c :: bs) (i := 0) h1
  by_cases h2 : c < 2048
  · have e : encN c = [192 + c / 64, 128 + c % 64] := by unfold encN; rw [if_neg h1, if_pos h2]
    have e2 : blen c = 2 := by unfold blen; rw [if_neg h1, if_pos h2]
    rw [e, e2]
    have := dc_two (bs := [192 + c / 64, 128 + c % 64] ++ bs) (i := 0) (by simp only [List.cons_append, limb_cons0]; omega) (by simp) (by simp only [List.cons_append, Nat.zero_add, limb_cons1]; omega)
    rw [this]
    simp only [List.cons_append, limb_cons0, Nat.zero_add, limb_cons1]
    have e3 : (192 + c / 64 - 192) * 64 + (128 + c % 64 - 128) = c := by omega
    rw [e3, if_pos (by omega)]
  by_cases h3 : c < 65536
  · have e : encN c = [224 + c / 4096, 128 + c / 64 % 64, 128 + c % 64] := by unfold encN; rw [if_neg h1, if_neg h2, if_pos h3]
    have e2 : blen c = 3 := by unfold blen; rw [if_neg h1, if_neg h2, if_pos h3]
    rw [e, e2]
    have := dc_three (bs := [224 + c / 4096, 128 + c / 64 % 64, 128 + c % 64] ++ bs) (i := 0) (by simp only [List.cons_append, limb_cons0]; omega) (by simp) (by simp only [List.cons_append, Nat.zero_add, limb_cons1]; omega) (by simp only [List.cons_append, Nat.zero_add, limb_cons2]; omega) c (by simp only [List.cons_append, limb_cons0, Nat.zero_add, limb_cons1, limb_cons2]; omega)
    rw [this, if_pos ⟨by omega, h⟩]
  · have e : encN c = [240 + c / 262144, 128 + c / 4096 % 64, 128 + c / 64 % 64, 128 + c % 64] := by unfold encN; rw [if_neg h1, if_neg h2, if_neg h3]
    have e2 : blen c = 4 := by unfold blen; rw [if_neg h1, if_neg h2, if_neg h3]
    rw [e, e2]
    have := dc_four (bs := [240 + c / 262144, 128 + c / 4096 % 64, 128 + c / 64 % 64, 128 + c % 64] ++ bs) (i := 0) (by simp only [List.cons_append, limb_cons0]; omega) (by simp) (by simp only [List.cons_append, Nat.zero_add, limb_cons1]; omega) (by simp only [List.cons_append, Nat.zero_add, limb_cons2]; omega) (by simp only [List.cons_append, Nat.zero_add, limb_cons3]; omega) c (by simp only [List.cons_append, limb_cons0, Nat.zero_add, limb_cons1, limb_cons2, limb_cons3]; omega)
    rw [this, if_pos ⟨by omega, h⟩]
theorem enc_good {c : Nat} : badB (c, blen c) = false := by
  rw [badB_false]
  unfold blen
  repeat' split
  all_goals (simp only []; omega)
/-- Characters' bytes are these characters. -/
theorem chars_enc : ∀ l : List Nat, (∀ c ∈ l, scN c) → chars (encL l) 0 = (l, none) := by
  intro l
  induction l with
  | nil => intro _; exact chars_end (by simp [encL])
  | cons c l ih =>
    intro h
    have e : encL (c :: l) = encN c ++ encL l := by simp [encL]
    rw [e]
    have hd := dc_enc (h c (by simp)) (encL l)
    have hg : badB (dc (encN c ++ encL l) 0) = false := by rw [hd]; exact enc_good
    have hb := blen_le c
    have hs := chars_shift (encN c) (encL l) _ 0 (Nat.le_refl _)
    rw [ih (fun x hx => h x (by simp [hx])), encN_len] at hs
    rw [chars_step (by rw [List.length_append, encN_len]; omega) hg, hd]
    simp only [Nat.zero_add, Nat.add_zero] at hs ⊢
    rw [hs]
    rfl

theorem drop_take1 {bs : List Nat} {i : Nat} (h : i + 1 ≤ bs.length) : (bs.drop i).take 1 = [limb bs i] := by
  rw [limb_lt (by omega), List.drop_eq_getElem_cons (show i < bs.length by omega), List.take_succ_cons, List.take_zero]
theorem drop_takeS {bs : List Nat} {i n : Nat} (h : i + (n + 1) ≤ bs.length) : (bs.drop i).take (n + 1) = limb bs i :: (bs.drop (i + 1)).take n := by
  rw [limb_lt (by omega), List.drop_eq_getElem_cons (show i < bs.length by omega), List.take_succ_cons]
theorem enc_dc {bs : List Nat} (hby : By bs) {i : Nat} (hi : i < bs.length) (hg : badB (dc bs i) = false) : encN (dc bs i).1 = (bs.drop i).take (dc bs i).2 ∧ scN (dc bs i).1 := by
  have hin := dc_in hi
  have q0 := hby i
  have q1 := hby (i + 1)
  have q2 := hby (i + 2)
  have q3 := hby (i + 3)
  have ha1 : i + 1 + 1 = i + 2 := by omega
  have ha2 : i + 2 + 1 = i + 3 := by omega
  have hg' := hg
  rw [badB_false] at hg'
  unfold dc Lib.decodeN at hin hg' ⊢
  by_cases a0 : limb bs i < 128
  · rw [if_pos a0] at hin ⊢
    simp only [] at hin ⊢
    rw [drop_take1 hin]
    exact ⟨by unfold encN; rw [if_pos a0], by unfold scN; omega⟩
  rw [if_neg a0] at hin hg' ⊢
  by_cases a1 : limb bs i / 32 = 6 ∧ (1 < bs.length - i ∧ limb bs (i + 1) / 64 = 2)
  · rw [if_pos a1] at hin hg' ⊢
    by_cases hc : limb bs i % 32 * 64 + limb bs (i + 1) % 64 ≥ 128
    · rw [if_pos hc] at hin ⊢
      simp only [] at hin ⊢
      rw [drop_takeS (n := 1) hin, drop_take1 (by omega)]
      refine ⟨?_, by unfold scN; omega⟩
      unfold encN
      rw [if_neg (by omega), if_pos (by omega)]
      simp only [List.cons.injEq, and_true]
      omega
    · rw [if_neg hc] at hg'; exact absurd ⟨rfl, by decide⟩ hg'
  rw [if_neg a1] at hin hg' ⊢
  by_cases a2 : limb bs i / 16 = 14 ∧ (1 < bs.length - i ∧ limb bs (i + 1) / 64 = 2) ∧ (2 < bs.length - i ∧ limb bs (i + 2) / 64 = 2)
  · rw [if_pos a2] at hin hg' ⊢
    generalize hC : limb bs i % 16 * 4096 + limb bs (i + 1) % 64 * 64 + limb bs (i + 2) % 64 = C at *
    by_cases hc : C ≥ 2048 ∧ (C < 55296 ∨ (57344 ≤ C ∧ C ≤ 1114111))
    · rw [if_pos hc] at hin ⊢
      simp only [] at hin ⊢
      rw [drop_takeS (n := 2) hin, drop_takeS (n := 1) (by omega), drop_take1 (by omega), ha1]
      refine ⟨?_, by unfold scN; omega⟩
      unfold encN
      rw [if_neg (by omega), if_neg (by omega), if_pos (by omega)]
      simp only [List.cons.injEq, and_true]
      omega
    · rw [if_neg hc] at hg'; exact absurd ⟨rfl, by decide⟩ hg'
  rw [if_neg a2] at hin hg' ⊢
  by_cases a3 : limb bs i / 8 = 30 ∧ (1 < bs.length - i ∧ limb bs (i + 1) / 64 = 2) ∧ (2 < bs.length - i ∧ limb bs (i + 2) / 64 = 2) ∧ (3 < bs.length - i ∧ limb bs (i + 3) / 64 = 2)
  · rw [if_pos a3] at hin hg' ⊢
    generalize hC : limb bs i % 8 * 262144 + limb bs (i + 1) % 64 * 4096 + limb bs (i + 2) % 64 * 64 + limb bs (i + 3) % 64 = C at *
    by_cases hc : C ≥ 65536 ∧ (C < 55296 ∨ (57344 ≤ C ∧ C ≤ 1114111))
    · rw [if_pos hc] at hin ⊢
      simp only [] at hin ⊢
      rw [drop_takeS (n := 3) hin, drop_takeS (n := 2) (by omega), drop_takeS (n := 1) (by omega), drop_take1 (by omega), ha1, ha2]
      refine ⟨?_, by unfold scN; omega⟩
      unfold encN
      rw [if_neg (by omega), if_neg (by omega), if_neg (by omega)]
      simp only [List.cons.injEq, and_true]
      omega
    · rw [if_neg hc] at hg'; exact absurd ⟨rfl, by decide⟩ hg'
  · rw [if_neg a3] at hg'; exact absurd ⟨rfl, by decide⟩ hg'
/-- Bytes that are characters are these characters' bytes. -/
theorem enc_chars {bs : List Nat} (hby : By bs) : ∀ (m i : Nat) (cs : List Nat), bs.length - i ≤ m → i ≤ bs.length → chars bs i = (cs, none) → encL cs = bs.drop i ∧ ∀ c ∈ cs, scN c := by
  intro m
  induction m with
  | zero =>
    intro i cs hm hi h
    rw [chars_end (by omega)] at h
    simp only [Prod.mk.injEq, and_true] at h
    subst h
    exact ⟨by rw [List.drop_of_length_le (by omega)]; rfl, fun c hc => by cases hc⟩
  | succ m ih =>
    intro i cs hm hi h
    by_cases hlt : i < bs.length
    · cases hb : badB (dc bs i)
      · have hz := dc_size bs i
        have hin := dc_in hlt
        rw [chars_step hlt hb] at h
        simp only [Prod.mk.injEq] at h
        obtain ⟨h1, h2⟩ := h
        obtain ⟨g1, g2⟩ := ih (i + (dc bs i).2) (chars bs (i + (dc bs i).2)).1 (by omega) hin (by rw [← h2])
        obtain ⟨e1, e2⟩ := enc_dc hby hlt hb
        rw [← h1]
        refine ⟨?_, fun c hc => ?_⟩
        · have : encL ((dc bs i).1 :: (chars bs (i + (dc bs i).2)).1) = encN (dc bs i).1 ++ encL (chars bs (i + (dc bs i).2)).1 := by simp [encL]
          rw [this, g1, e1, ← List.drop_drop]
          exact List.take_append_drop _ _
        · rcases List.mem_cons.1 hc with rfl | hc
          · exact e2
          · exact g2 c hc
      · rw [chars_bad hlt hb] at h
        simp at h
    · rw [chars_end (by omega)] at h
      simp only [Prod.mk.injEq, and_true] at h
      subst h
      exact ⟨by rw [List.drop_of_length_le (by omega)]; rfl, fun c hc => by cases hc⟩
theorem encA_nat {cs : List Nat} (h : ∀ c ∈ cs, scN c) : encA (cs.map fun (x : Nat) => (x : Int)) = (encL cs, 0) := by
  unfold encA
  rw [if_pos]
  · rw [List.map_map]
    congr 2
    conv => rhs; rw [← List.map_id cs]
    apply List.map_congr_left
    intro x _
    simp
  · rw [List.all_eq_true]
    intro z hz
    obtain ⟨x, hx, rfl⟩ := List.mem_map.1 hz
    rw [scB_nat]
    exact decide_eq_true (h x hx)
theorem encA_zero {zs : List Int} (h : (encA zs).2 = 0) : (encA zs).1 = encL (zs.map Int.toNat) ∧ (∀ z ∈ zs, 0 ≤ z) ∧ ∀ c ∈ zs.map Int.toNat, scN c := by
  unfold encA at h ⊢
  by_cases ha : zs.all scB = true
  · rw [if_pos ha]
    rw [List.all_eq_true] at ha
    refine ⟨rfl, fun z hz => (scB_range (ha z hz)).1, fun c hc => ?_⟩
    obtain ⟨z, hz, rfl⟩ := List.mem_map.1 hc
    have h1 := ha z hz
    have h2 := scB_range h1
    have h3 := scB_nat z.toNat
    rw [show ((z.toNat : Nat) : Int) = z by omega, h1] at h3
    exact of_decide_eq_true h3.symm
  · rw [if_neg ha] at h; simp at h
theorem encL_len (l : List Nat) : (encL l).length ≤ 4 * l.length := by
  induction l with
  | nil => simp [encL]
  | cons c l ih =>
    have e : encL (c :: l) = encN c ++ encL l := by simp [encL]
    rw [e, List.length_append, encN_len]
    have := blen_le c
    simp only [List.length_cons]
    omega
theorem encL_by {l : List Nat} (h : ∀ c ∈ l, scN c) : By (encL l) := by
  induction l with
  | nil => exact By.nil
  | cons c l ih =>
    have e : encL (c :: l) = encN c ++ encL l := by simp [encL]
    rw [e]
    have := h c (by simp)
    unfold scN at this
    exact (encN_by (by omega)).app (ih fun x hx => h x (by simp [hx]))
end Go.Proofs.YtocladhggcaokaaGreatDoor
namespace Go.Proofs.YtocladhggcaokaaGreatDoor
open Go.RowKit

/-- A string's bytes. -/
def byt (s : ByteArray) : List Nat := s.data.toList.map UInt8.toNat
theorem byt_len (s : ByteArray) : (byt s).length = s.size := by unfold byt; rw [List.length_map, Array.length_toList]; rfl
theorem byt_by (s : ByteArray) : By (byt s) := fun i => by
  unfold limb byt
  simp only [List.getD_eq_getElem?_getD, List.getElem?_map]
  cases s.data.toList[i]? with
  | none => show (0 : Nat) < 256; omega
  | some b => show b.toNat < 256; exact b.toNat_lt
theorem byt_mkB (s : ByteArray) : mkB (byt s) = s := by
  unfold mkB byt
  cases s with
  | mk d => simp [Function.comp_def]
theorem byt_inj {s t : ByteArray} (h : byt s = byt t) : s = t := by rw [← byt_mkB s, ← byt_mkB t, h]
theorem byt_limb {s : ByteArray} {i : Nat} (h : i < s.size) : limb (byt s) i = (s.data[i]'h).toNat := by
  have h' : i < s.data.size := h
  unfold limb byt
  simp only [List.getD_eq_getElem?_getD, List.getElem?_map, Array.getElem?_toList, Array.getElem?_eq_getElem h']
  rfl
theorem byt_get {s : ByteArray} {i : Nat} (_h : i < s.size) : (s.get! i).toNat = limb (byt s) i := by
  rw [← mkB_get (byt_by s) i, byt_mkB]

def hexS : List UInt8 := [48, 49, 50, 51, 52, 53, 54, 55, 56, 57, 97, 98, 99, 100, 101, 102]
/-- A hexadecimal digit's value. -/
def hexd (b : Nat) : Option Nat := if 48 ≤ b ∧ b ≤ 57 then some (b - 48) else if 97 ≤ b ∧ b ≤ 102 then some (b - 87) else if 65 ≤ b ∧ b ≤ 70 then some (b - 55) else none
def cutLen (l : List UInt8) : Option Nat := if (Go.Lib.cut hexS l).2.2 then some (Go.Lib.cut hexS l).1.length else none
theorem cut_low : ∀ n : Fin 128, cutLen (Go.Lib.toLowerA [UInt8.ofNat n.val]) = hexd n.val := by decide +kernel
theorem cut_high : ∀ n : Fin 256, 128 ≤ n.val → (Go.Lib.cut hexS (Go.Lib.toLowerD [UInt8.ofNat n.val])).2.2 = false := by decide +kernel
theorem hexd_lt {b d : Nat} (h : hexd b = some d) : d < 16 := by
  unfold hexd at h
  (repeat' split at h) <;> first | (injection h with h; omega) | cases h
theorem hexd_high {b : Nat} (h : 128 ≤ b) : hexd b = none := by
  unfold hexd
  rw [if_neg (by omega), if_neg (by omega), if_neg (by omega)]

/-- The number of hexadecimal digits behind c. -/
def hexV : List Nat → Nat → Option Nat
  | [], c => some c
  | b :: t, c => match hexd b with
    | none => none
    | some d => hexV t (c * 16 + d)
/-- The character whose number these digits are. -/
def hexA (ds : List Nat) : Option Nat := if ds.length < 1 ∨ 6 < ds.length then none else match hexV ds 0 with
  | none => none
  | some c => if scB (c : Int) then some c else none
theorem hexV_step {ds : List Nat} {i c d : Nat} (hi : i < ds.length) (h : hexd (limb ds i) = some d) : hexV (ds.drop i) c = hexV (ds.drop (i + 1)) (c * 16 + d) := by
  have e : ds.drop i = limb ds i :: ds.drop (i + 1) := by rw [List.drop_eq_getElem_cons hi, limb_lt hi]
  rw [e]
  show (match hexd (limb ds i) with | none => none | some d => hexV (ds.drop (i + 1)) (c * 16 + d)) = _
  rw [h]
theorem hexV_none {ds : List Nat} {i c : Nat} (hi : i < ds.length) (h : hexd (limb ds i) = none) : hexV (ds.drop i) c = none := by
  have e : ds.drop i = limb ds i :: ds.drop (i + 1) := by rw [List.drop_eq_getElem_cons hi, limb_lt hi]
  rw [e]
  show (match hexd (limb ds i) with | none => none | some d => hexV (ds.drop (i + 1)) (c * 16 + d)) = _
  rw [h]
theorem hexV_end {ds : List Nat} {i c : Nat} (hi : ds.length ≤ i) : hexV (ds.drop i) c = some c := by rw [List.drop_eq_nil_of_le hi]; rfl
theorem hexA_out {ds : List Nat} (h : ds.length < 1 ∨ 6 < ds.length) : hexA ds = none := by unfold hexA; rw [if_pos h]
theorem hexA_none {ds : List Nat} (h : hexV ds 0 = none) : hexA ds = none := by
  unfold hexA
  split
  · rfl
  · rw [h]
theorem hexA_some {ds : List Nat} {c : Nat} (h1 : ¬ (ds.length < 1 ∨ 6 < ds.length)) (h : hexV ds 0 = some c) : hexA ds = if scB (c : Int) then some c else none := by
  unfold hexA
  rw [if_neg h1, h]

/-- The words that are names. -/
def wtab : List (List Nat × Nat) := [([115, 112, 97, 99, 101], 32), ([110, 101, 119, 108, 105, 110, 101], 10), ([116, 97, 98], 9), ([114, 101, 116, 117, 114, 110], 13), ([110, 117, 108, 108], 0), ([100, 101, 108, 101, 116, 101], 127)]
def wName (k : Nat) : List Nat := (wtab.getD k ([], 0)).1
def wChar (k : Nat) : Nat := (wtab.getD k ([], 0)).2
/-- The character that a word is the name of. -/
def wordA (bs : List Nat) : Option Nat := (wtab.find? fun p => p.1 == bs).map (·.2)
theorem wordA_hit {bs : List Nat} {k : Nat} (hk : k < 6) (h : wName k = bs) (hno : ∀ j, j < k → wName j ≠ bs) : wordA bs = some (wChar k) := by
  subst h
  have : k = 0 ∨ k = 1 ∨ k = 2 ∨ k = 3 ∨ k = 4 ∨ k = 5 := by omega
  rcases this with rfl | rfl | rfl | rfl | rfl | rfl <;> decide
theorem wordA_none {bs : List Nat} (h : ∀ j, j < 6 → wName j ≠ bs) : wordA bs = none := by
  have h0 := h 0 (by omega)
  have h1 := h 1 (by omega)
  have h2 := h 2 (by omega)
  have h3 := h 3 (by omega)
  have h4 := h 4 (by omega)
  have h5 := h 5 (by omega)
  simp only [wName, wtab, List.getD_cons_zero, List.getD_cons_succ] at h0 h1 h2 h3 h4 h5
  unfold wordA wtab
  simp only [List.find?_cons, beq_eq_false_iff_ne.2 h0, beq_eq_false_iff_ne.2 h1, beq_eq_false_iff_ne.2 h2, beq_eq_false_iff_ne.2 h3, beq_eq_false_iff_ne.2 h4, beq_eq_false_iff_ne.2 h5, List.find?_nil, Option.map_none]
/-- The character that a text is the name of. -/
def namedA (bs : List Nat) : Option Nat := match wordA bs with
  | some c => some c
  | none => if bs ≠ [] ∧ badB (dc bs 0) = false ∧ (dc bs 0).2 = bs.length then some (dc bs 0).1 else if bs ≠ [] ∧ limb bs 0 = 120 then hexA (bs.drop 1) else none
theorem namedA_word {bs : List Nat} {c : Nat} (h : wordA bs = some c) : namedA bs = some c := by unfold namedA; rw [h]
theorem namedA_one {bs : List Nat} (h : wordA bs = none) (h1 : bs ≠ []) (h2 : badB (dc bs 0) = false) (h3 : (dc bs 0).2 = bs.length) : namedA bs = some (dc bs 0).1 := by
  unfold namedA
  rw [h]
  show (if _ then _ else _) = _
  rw [if_pos ⟨h1, h2, h3⟩]
theorem namedA_hex {bs : List Nat} (h : wordA bs = none) (h1 : ¬ (bs ≠ [] ∧ badB (dc bs 0) = false ∧ (dc bs 0).2 = bs.length)) (h2 : bs ≠ []) (h3 : limb bs 0 = 120) : namedA bs = hexA (bs.drop 1) := by
  unfold namedA
  rw [h]
  show (if _ then _ else if _ then _ else _) = _
  rw [if_neg h1, if_pos ⟨h2, h3⟩]
theorem namedA_not {bs : List Nat} (h : wordA bs = none) (h1 : ¬ (bs ≠ [] ∧ badB (dc bs 0) = false ∧ (dc bs 0).2 = bs.length)) (h2 : ¬ (bs ≠ [] ∧ limb bs 0 = 120)) : namedA bs = none := by
  unfold namedA
  rw [h]
  show (if _ then _ else if _ then _ else _) = _
  rw [if_neg h1, if_neg h2]

def hexc (d : Nat) : Nat := if d < 10 then 48 + d else 87 + d
/-- What a character is called. -/
def nameA (c : Nat) : List Nat := if c = 32 then wName 0 else if c = 10 then wName 1 else if c = 9 then wName 2 else if c = 13 then wName 3 else if c = 0 then wName 4 else if c = 127 then wName 5 else if c < 16 then [120, hexc c] else if c < 32 then [120, hexc (c / 16), hexc (c % 16)] else encN c
theorem named_small : ∀ c : Fin 128, namedA (nameA c.val) = some c.val := by decide +kernel
theorem named_name {c : Nat} (h : scN c) : namedA (nameA c) = some c := by
  rcases Nat.lt_or_ge c 128 with hc | hc
  · exact named_small ⟨c, hc⟩
  · have e : nameA c = encN c := by
      unfold nameA
      rw [if_neg (by omega), if_neg (by omega), if_neg (by omega), if_neg (by omega), if_neg (by omega), if_neg (by omega), if_neg (by omega), if_neg (by omega)]
    have hd := dc_enc h []
    rw [List.append_nil] at hd
    have hl := encN_len c
    have hne : encN c ≠ [] := by
      intro h0
      rw [h0] at hl
      unfold blen at hl
      (repeat' split at hl) <;> simp at hl
    have h0 : 128 ≤ limb (encN c) 0 := by
      unfold encN
      rw [if_neg (by omega)]
      (repeat' split) <;> (show 128 ≤ _ + _; omega)
    rw [e]
    refine (namedA_one (wordA_none fun j hj hw => ?_) hne (by rw [hd]; exact enc_good) (by rw [hd, hl])).trans (by rw [hd])
    rw [← hw] at h0
    have : j = 0 ∨ j = 1 ∨ j = 2 ∨ j = 3 ∨ j = 4 ∨ j = 5 := by omega
    rcases this with rfl | rfl | rfl | rfl | rfl | rfl <;> revert h0 <;> decide
end Go.Proofs.YtocladhggcaokaaGreatDoor
