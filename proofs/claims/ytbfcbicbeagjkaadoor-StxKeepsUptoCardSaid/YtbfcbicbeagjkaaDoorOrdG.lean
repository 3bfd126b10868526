/- A region whose order is drawn, by what holds of each operation's value, whichever has come up when. No walk here. | A region whose order is drawn, some of whose operations are passed over: by what holds of each operation's value. No walk here. -/
import Derived.Test.YtbfcbicbeagjkaaDoorBase
import Derived.RegionTactic
namespace Go.Proofs.YtbfcbicbeagjkaaDoor
open Go.RowKit

/-- Operation j is waited for by o, and its value lies in slot t. -/
def depB (ops : Array Oper) (o : Oper) (j t : Nat) : Bool := o.after.any (fun e => Region.binds .any e && e.on == j) && (match ops[j]? with | some oj => oj.dst == some t | none => false)
/-- No two have one slot, and each slot is there. -/
def apartB (ops : Array Oper) (n : Nat) : Bool := (List.range ops.size).all fun i => (match ops[i]? with | some x => (match x.dst with | some t => decide (t < n) | none => true) | none => true) && (List.range ops.size).all fun j => i == j || (match ops[i]?, ops[j]? with | some x, some y => x.dst.isNone || x.dst != y.dst | _, _ => true)
/-- No operation's slot. -/
def offB (ops : Array Oper) (t : Nat) : Bool := ops.all fun o => o.dst != some t

theorem getD_put {a : Act} {d t : Nat} {v : Value} (h : d ≠ t) : (a.put (some d) v).tmps.getD t undef = a.tmps.getD t undef := by
  show (a.tmps.setIfInBounds d v).getD t undef = _
  rw [Array.getD_eq_getD_getElem?, Array.getD_eq_getD_getElem?, Array.getElem?_setIfInBounds_ne h]
theorem getD_put_self {a : Act} {d : Nat} {v : Value} (h : d < a.tmps.size) : (a.put (some d) v).tmps.getD d undef = v := by
  show (a.tmps.setIfInBounds d v).getD d undef = _
  rw [Array.getD_eq_getD_getElem?, Array.getElem?_setIfInBounds_self_of_lt h]
  rfl
/-- The frame but for the region's slots. -/
structure BaseA (ops : Array Oper) (a0 a : Act) : Prop where
  size : a.tmps.size = a0.tmps.size
  defers : a.defers = a0.defers
  off : ∀ t, offB ops t = true → a.tmps.getD t undef = a0.tmps.getD t undef
theorem BaseA.put {ops : Array Oper} {a0 a : Act} (h : BaseA ops a0 a) {i : Nat} {o : Oper} (ho : ops[i]? = some o) (v : Value) : BaseA ops a0 (a.put o.dst v) := by
  cases hd : o.dst with
  | none => exact h
  | some d =>
    refine ⟨?_, h.defers, fun t ht => ?_⟩
    · show (a.tmps.setIfInBounds d v).size = _
      rw [Array.size_setIfInBounds]; exact h.size
    · rw [getD_put, h.off t ht]
      intro e
      subst e
      unfold offB at ht
      rw [Array.all_eq_true] at ht
      obtain ⟨hi, he⟩ := Array.getElem?_eq_some_iff.1 ho
      have := ht i hi
      rw [he, hd] at this
      simp at this
/-- What holds while a region goes on. -/
structure SlotI (ops : Array Oper) (Ψ : Nat → Value → World → Prop) (C : World → Prop) (a0 : Act) (listed : Array Bool) (a : Act) (w : World) : Prop where
  size : listed.size = ops.size
  base : BaseA ops a0 a
  cls : C w
  got : ∀ (i : Nat) (o : Oper), ops[i]? = some o → listed.getD i false = true → ∃ v, Ψ i v w ∧ ∀ t, o.dst = some t → a.tmps.getD t undef = v
theorem listed_set {listed : Array Bool} {i j : Nat} (h : j ≠ i) (b : Bool) : (listed.setIfInBounds i true).getD j b = listed.getD j b := by
  rw [Array.getD_eq_getD_getElem?, Array.getD_eq_getD_getElem?, Array.getElem?_setIfInBounds_ne (fun e => h e.symm)]
theorem apart_at {ops : Array Oper} {n : Nat} (h : apartB ops n = true) {i j : Nat} {x y : Oper} (hi : ops[i]? = some x) (hj : ops[j]? = some y) (hne : i ≠ j) {s t : Nat} (hs : x.dst = some s) (ht : y.dst = some t) : s ≠ t := by
  unfold apartB at h
  rw [List.all_eq_true] at h
  have h1 := h i (List.mem_range.2 (Array.getElem?_eq_some_iff.1 hi).1)
  rw [Bool.and_eq_true, List.all_eq_true] at h1
  have h2 := h1.2 j (List.mem_range.2 (Array.getElem?_eq_some_iff.1 hj).1)
  rw [hi, hj] at h2
  simp only [hs, ht, Option.isNone_some, Bool.false_or, Bool.or_eq_true, beq_iff_eq, bne_iff_ne, ne_eq, Option.some.injEq] at h2
  rcases h2 with h2 | h2
  · exact absurd h2 hne
  · exact h2
theorem apart_lt {ops : Array Oper} {n : Nat} (h : apartB ops n = true) {i : Nat} {x : Oper} (hi : ops[i]? = some x) {s : Nat} (hs : x.dst = some s) : s < n := by
  unfold apartB at h
  rw [List.all_eq_true] at h
  have h1 := h i (List.mem_range.2 (Array.getElem?_eq_some_iff.1 hi).1)
  rw [Bool.and_eq_true, hi] at h1
  simp only [hs, decide_eq_true_iff] at h1
  exact h1.1
theorem SlotI.put {ops : Array Oper} {Ψ : Nat → Value → World → Prop} {C : World → Prop} {a0 : Act} {listed : Array Bool} {a : Act} {w w' : World} (h : SlotI ops Ψ C a0 listed a w) (hmono : ∀ i v w w', Below w.heap.size w w' → Ψ i v w → Ψ i v w') (hap : apartB ops a0.tmps.size = true)
    {i : Nat} {o : Oper} (ho : ops[i]? = some o) {v : Value} (hC : C w') (hb : Below w.heap.size w w') (hv : Ψ i v w') : SlotI ops Ψ C a0 (listed.setIfInBounds i true) (a.put o.dst v) w' := by
  refine ⟨by rw [Array.size_setIfInBounds]; exact h.size, h.base.put ho v, hC, fun j oj hj hl => ?_⟩
  by_cases hij : j = i
  · subst hij
    obtain rfl : o = oj := Option.some.inj (ho.symm.trans hj)
    refine ⟨v, hv, fun t ht => ?_⟩
    rw [ht]
    exact getD_put_self (by rw [h.base.size]; exact apart_lt hap ho ht)
  · rw [listed_set hij] at hl
    obtain ⟨u, h1, h2⟩ := h.got j oj hj hl
    refine ⟨u, hmono _ _ _ _ hb h1, fun t ht => ?_⟩
    cases hd : o.dst with
    | none => exact h2 t ht
    | some d => rw [getD_put (apart_at hap ho hj (fun e => hij e.symm) hd ht)]; exact h2 t ht
theorem ready_mem {ops : Array Oper} {listed : Array Bool} {i : Nat} (h : i ∈ Region.ready .any ops listed) : i < ops.size ∧ listed.getD i true = false ∧ ∃ o, ops[i]? = some o ∧ ∀ e ∈ o.after, Region.binds .any e = true → listed.getD e.on false = true := by
  unfold Region.ready at h
  rw [List.mem_filter] at h
  obtain ⟨h1, h2⟩ := h
  have hi := List.mem_range.1 h1
  simp only [Bool.and_eq_true, Bool.not_eq_true'] at h2
  have ho : ops[i]? = some ops[i] := Array.getElem?_eq_getElem hi
  rw [ho] at h2
  refine ⟨hi, h2.1, _, ho, fun e he hb => ?_⟩
  have h3 := h2.2
  simp only [Option.map_some, Option.getD_some] at h3
  rw [Array.all_eq_true'] at h3
  have := h3 e he
  rw [hb] at this
  simpa using this
theorem getD_both {l : Array Bool} {i : Nat} (h : i < l.size) : l.getD i true = l.getD i false := by
  rw [Array.getD_eq_getD_getElem?, Array.getD_eq_getD_getElem?, Array.getElem?_eq_getElem h]; rfl
theorem countP_less {p q : Nat → Bool} {i : Nat} (hp : p i = true) (hq : q i = false) : ∀ l : List Nat, i ∈ l → (∀ j ∈ l, q j = true → p j = true) → l.countP q < l.countP p := by
  intro l
  induction l with
  | nil => intro h; cases h
  | cons x l ih =>
    intro h hle
    have hm : l.countP q ≤ l.countP p := List.countP_mono_left fun j hj => hle j (List.mem_cons_of_mem _ hj)
    rw [List.countP_cons, List.countP_cons]
    by_cases hx : x = i
    · subst hx
      rw [hp, hq]
      simp
      omega
    · have := ih (by rcases List.mem_cons.1 h with e | h; exact absurd e.symm hx; exact h) fun j hj => hle j (List.mem_cons_of_mem _ hj)
      have h2 := hle x (by simp)
      cases hqx : q x with
      | true => rw [h2 hqx]; simp; omega
      | false => simp only [Bool.false_eq_true, if_false]; split <;> omega
/-- Each of the operations, one by one. -/
def AllOps (R : Nat → Oper → Prop) : Nat → List Oper → Prop
  | _, [] => True
  | k, o :: r => R k o ∧ AllOps R (k + 1) r
theorem AllOps.at {R : Nat → Oper → Prop} : ∀ (l : List Oper) (k : Nat), AllOps R k l → ∀ (i : Nat) (o : Oper), l[i]? = some o → R (k + i) o := by
  intro l
  induction l with
  | nil => intro k _ i o h; simp at h
  | cons x l ih =>
    intro k h i o hi
    cases i with
    | zero => simp at hi; subst hi; exact h.1
    | succ i =>
      have := ih (k + 1) h.2 i o (by simpa using hi)
      rwa [show k + 1 + i = k + (i + 1) by omega] at this
end Go.Proofs.YtbfcbicbeagjkaaDoor
namespace Go.Proofs.YtbfcbicbeagjkaaDoor
open Go.RowKit
/-- What holds of the i-th value, by a list. -/
def psi (l : List (Value → World → Prop)) (i : Nat) (v : Value) (w : World) : Prop := match l[i]? with
  | some p => p v w
  | none => False
def isV (x : Value) : Value → World → Prop := fun v _ => v = x
def Stays (p : Value → World → Prop) : Prop := ∀ v w w', Below w.heap.size w w' → p v w → p v w'
theorem isV_stays (x : Value) : Stays (isV x) := fun _ _ _ _ h => h
theorem psi_mono {l : List (Value → World → Prop)} (h : ∀ p ∈ l, Stays p) : ∀ i v w w', Below w.heap.size w w' → psi l i v w → psi l i v w' := by
  intro i v w w' hb hp
  unfold psi at hp ⊢
  cases hl : l[i]? with
  | none => rw [hl] at hp; exact hp
  | some p =>
    rw [hl] at hp
    exact h p (List.mem_of_getElem? hl) v w w' hb hp
theorem goes_value {P : Program} {o : Oper} {a : Act} {w : World} {v : Value} {C : World → Prop} {p : Value → World → Prop} {Q : Exit → Act → World → Prop} (h : (execOp a.eval o).run P w = .ok (.value v) w) (hC : C w) (hv : p v w) : o.wp P a w (fun a' w' => ∃ v, a' = a.put o.dst v ∧ C w' ∧ Below w.heap.size w w' ∧ p v w') Q := by
  unfold Oper.wp
  rw [h]
  exact ⟨v, rfl, hC, Below.refl _ _, hv⟩
theorem goes_call {P : Program} {o : Oper} {a : Act} {w : World} {f : FuncId} {args : Array Value} {C : World → Prop} {p : Value → World → Prop} {Q : Exit → Act → World → Prop} (h : (execOp a.eval o).run P w = .ok (.enter f args) w) (hc : Calls P f args w fun e w' => ∃ v, e = .returned v ∧ C w' ∧ Below w.heap.size w w' ∧ p v w') : o.wp P a w (fun a' w' => ∃ v, a' = a.put o.dst v ∧ C w' ∧ Below w.heap.size w w' ∧ p v w') Q := by
  unfold Oper.wp
  rw [h]
  exact hc.mono fun e w' ⟨v, he, h1, h2, h3⟩ => by subst he; exact ⟨v, rfl, h1, h2, h3⟩
/-- What a region that is done has put: its frame, spelled out. -/
theorem tmps_fold : ∀ (l : List (Nat × Value)) (T T' : Array Value), T.size = T'.size → (∀ i, i < T.size → T'.getD i undef = T.getD i undef ∨ ∃ p ∈ l, p.1 = i) → (∀ p ∈ l, T'.getD p.1 undef = p.2) → T' = l.foldl (fun (A : Array Value) p => A.setIfInBounds p.1 p.2) T
  | [], T, T', hs, h, _ => by
    show T' = T
    refine Array.ext hs.symm fun i h1 h2 => ?_
    have := (h i h2).resolve_right (by simp)
    rw [Array.getD_eq_getD_getElem?, Array.getD_eq_getD_getElem?, Array.getElem?_eq_getElem h1, Array.getElem?_eq_getElem h2] at this
    simpa using this
  | p :: l, T, T', hs, h, hv => by
    refine tmps_fold l (T.setIfInBounds p.1 p.2) T' (by simp [hs]) (fun i hi => ?_) fun q hq => hv q (by simp [hq])
    rw [Array.size_setIfInBounds] at hi
    by_cases hp : p.1 = i
    · left
      rw [← hp, hv p (by simp), Array.getD_eq_getD_getElem?, Array.getElem?_setIfInBounds_self_of_lt (by omega)]
      rfl
    · rcases h i hi with h1 | ⟨q, hq, hqi⟩
      · left
        rw [h1, Array.getD_eq_getD_getElem?, Array.getD_eq_getD_getElem?, Array.getElem?_setIfInBounds_ne hp]
      · rcases List.mem_cons.1 hq with rfl | hq
        · exact absurd hqi hp
        · exact .inr ⟨q, hq, hqi⟩
theorem act_fold {ops : Array Oper} {a0 a : Act} (l : List (Nat × Value)) (hB : BaseA ops a0 a) (hl : ∀ p ∈ l, a.tmps.getD p.1 undef = p.2) (hoff : ((List.range a0.tmps.size).all fun t => offB ops t || (l.map Prod.fst).contains t) = true) :
    a = { tmps := l.foldl (fun (A : Array Value) p => A.setIfInBounds p.1 p.2) a0.tmps, defers := a0.defers } := by
  obtain ⟨T', d⟩ := a
  have h1 := tmps_fold l a0.tmps T' hB.size.symm (fun i hi => ?_) hl
  · have h2 := hB.defers
    simp only at h2
    rw [h1, h2]
  · rw [List.all_eq_true] at hoff
    have := hoff i (List.mem_range.2 hi)
    rw [Bool.or_eq_true] at this
    rcases this with h | h
    · exact .inl (hB.off i h)
    · right
      simp only [List.contains_eq_any_beq, List.any_map, List.any_eq_true, Function.comp] at h
      obtain ⟨p, hp, e⟩ := h
      exact ⟨p, hp, by simpa using (beq_iff_eq.1 e).symm⟩
theorem AllOps.cons {R : Nat → Oper → Prop} {k : Nat} {o : Oper} {r : List Oper} (h : R k o) (h' : AllOps R (k + 1) r) : AllOps R k (o :: r) := ⟨h, h'⟩
end Go.Proofs.YtbfcbicbeagjkaaDoor
namespace Go.Proofs.YtbfcbicbeagjkaaDoor
open Go.RowKit

/-- Each waits for such as stand ahead of it alone, as far as it waits. -/
def backG (ops : Array Oper) : Bool := (List.range ops.size).all fun i => match ops[i]? with | some o => o.after.all fun e => !Region.binds .any e || decide (e.on < i) | none => true
theorem ready_nilG {ops : Array Oper} {listed : Array Bool} (hs : listed.size = ops.size) (hb : backG ops = true) (h : Region.ready .any ops listed = []) : ∀ n i, i ≤ n → i < ops.size → listed.getD i true = true := by
  intro n
  induction n using Nat.strongRecOn with
  | ind n ih =>
    intro i hin hi
    cases hl : listed.getD i true with
    | true => rfl
    | false =>
      exfalso
      have ho : ops[i]? = some ops[i] := Array.getElem?_eq_getElem hi
      have hm : i ∈ Region.ready .any ops listed := by
        unfold Region.ready
        rw [List.mem_filter]
        refine ⟨List.mem_range.2 hi, ?_⟩
        rw [hl, ho]
        simp only [Bool.not_false, Bool.true_and, Option.map_some, Option.getD_some]
        rw [Array.all_eq_true']
        intro e he
        cases hbd : Region.binds .any e with
        | false => simp
        | true =>
        have hlt : e.on < i := by
          unfold backG at hb
          rw [List.all_eq_true] at hb
          have := hb i (List.mem_range.2 hi)
          rw [ho] at this
          simp only at this
          rw [Array.all_eq_true'] at this
          have := this e he
          rw [hbd] at this
          simpa using this
        have h1 : listed.getD e.on true = true := ih e.on (by omega) e.on (Nat.le_refl _) (by omega)
        rw [getD_both (by omega)] at h1
        rw [h1]
        simp
      rw [h] at hm
      cases hm
end Go.Proofs.YtbfcbicbeagjkaaDoor
