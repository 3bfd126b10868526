/- A region whose order is drawn, some of whose operations are passed over: by what holds of each operation's value. No walk here. -/
import Derived.Test.YtegengnffdlplaaGreatDoorOrd
namespace Go.Proofs.YtegengnffdlplaaGreatDoor
open Go.RowKit

/-- Each waits for such as stand ahead of it alone, as far as it waits. -/
def backG (ops : Array Oper) : Bool := (List.range ops.size).all fun i => match ops[i]? with | some o => o.after.all fun e => !Region.binds .any e || decide (e.on < i) | none => true
theorem ready_nilG {ops : Array Oper} {listed : Array Bool} (hs : listed.size = ops.size) (hb : backG ops = true) (h : Region.ready .any ops listed = []) : ∀ n i, i ≤ n → i < ops.size → listed.getD i true = true := by
  intro n
  induction n using Nat.strongRecOn with
  | ind n ih =>
    intro i hin hi
    cases hl : listed.getD i true with
    | true => rfl
    | false =>
      exfalso
      have ho : ops[i]? = some ops[i] := Array.getElem?_eq_getElem hi
      have hm : i ∈ Region.ready .any ops listed := by
        unfold Region.ready
        rw [List.mem_filter]
        refine ⟨List.mem_range.2 hi, ?_⟩
        rw [hl, ho]
        simp only [Bool.not_false, Bool.true_and, Option.map_some, Option.getD_some]
        rw [Array.all_eq_true']
        intro e he
        cases hbd : Region.binds .any e with
        | false => simp
        | true =>
        have hlt : e.on < i := by
          unfold backG at hb
          rw [List.all_eq_true] at hb
          have := hb i (List.mem_range.2 hi)
          rw [ho] at this
          simp only at this
          rw [Array.all_eq_true'] at this
          have := this e he
          rw [hbd] at this
          simpa using this
        have h1 : listed.getD e.on true = true := ih e.on (by omega) e.on (Nat.le_refl _) (by omega)
        rw [getD_both (by omega)] at h1
        rw [h1]
        simp
      rw [h] at hm
      cases hm
/-- How one operation is asked for: it goes, or it is passed over. -/
def OpGoesG (P : Program) (ops : Array Oper) (Q : Exit → Act → World → Prop) (Ψ : Nat → Value → World → Prop) (C : World → Prop) (a0 : Act) (i : Nat) (o : Oper) : Prop :=
  ∀ a w, C w → BaseA ops a0 a → (∀ j t, depB ops o j t = true → ∃ v, Ψ j v w ∧ a.tmps.getD t undef = v) →
    (Region.wanted o (yielded ops a.tmps) = true ∧ o.wp P a w (fun a' w' => ∃ v, a' = a.put o.dst v ∧ C w' ∧ Below w.heap.size w w' ∧ Ψ i v w') Q) ∨ (Region.wanted o (yielded ops a.tmps) = false ∧ Ψ i undef w)
theorem wpAny_slotsG {P : Program} {ops : Array Oper} {Q : Exit → Act → World → Prop} {Ψ : Nat → Value → World → Prop} {C : World → Prop} {a0 : Act} (hmono : ∀ i v w w', Below w.heap.size w w' → Ψ i v w → Ψ i v w') (hback : backG ops = true) (hap : apartB ops a0.tmps.size = true)
    (hop : ∀ (i : Nat) (o : Oper), ops[i]? = some o → OpGoesG P ops Q Ψ C a0 i o)
    (hend : ∀ a w, C w → BaseA ops a0 a → (∀ (i : Nat) (o : Oper), ops[i]? = some o → ∃ v, Ψ i v w ∧ ∀ t, o.dst = some t → a.tmps.getD t undef = v) → Q .normal a w) :
    ∀ (fuel : Nat) (listed : Array Bool) (a : Act) (w : World), SlotI ops Ψ C a0 listed a w → (List.range ops.size).countP (fun i => !listed.getD i true) ≤ fuel → wpAny P .any ops Q fuel listed a w := by
  have fin : ∀ (listed : Array Bool) (a : Act) (w : World), SlotI ops Ψ C a0 listed a w → (∀ i, i < ops.size → listed.getD i true = true) → Q .normal a w := by
    intro listed a w h hall
    refine hend a w h.cls h.base fun i o ho => h.got i o ho ?_
    have hi := (Array.getElem?_eq_some_iff.1 ho).1
    rw [← getD_both (by rw [h.size]; exact hi)]
    exact hall i hi
  intro fuel
  induction fuel with
  | zero =>
    intro listed a w h hc
    have hall : ∀ i, i < ops.size → listed.getD i true = true := by
      intro i hi
      have h0 : (List.range ops.size).countP (fun i => !listed.getD i true) = 0 := by omega
      rw [List.countP_eq_zero] at h0
      simpa using h0 i (List.mem_range.2 hi)
    refine ⟨?_, fin listed a w h hall⟩
    apply List.eq_nil_iff_forall_not_mem.2
    intro i hm
    obtain ⟨h1, h2, _⟩ := ready_mem hm
    rw [hall i h1] at h2
    cases h2
  | succ fuel ih =>
    intro listed a w h hc
    refine ⟨fun hr => fin listed a w h fun i hi => ready_nilG h.size hback hr i i (Nat.le_refl _) hi, fun i hm => ?_⟩
    obtain ⟨hi, hl, o, ho, hdep⟩ := ready_mem hm
    have hcount : (List.range ops.size).countP (fun j => !(listed.setIfInBounds i true).getD j true) ≤ fuel := by
      have hless := countP_less (p := fun i => !listed.getD i true) (q := fun j => !(listed.setIfInBounds i true).getD j true) (i := i) (by simp [hl]) (by
        rw [Array.getD_eq_getD_getElem?, Array.getElem?_setIfInBounds_self_of_lt (by rw [h.size]; exact hi)]; rfl) (List.range ops.size) (List.mem_range.2 hi) (fun j _ hj => by
        by_cases hji : j = i
        · subst hji; simp [hl]
        · rw [listed_set hji] at hj; exact hj)
      omega
    have hg := hop i o ho a w h.cls h.base fun j t hd => by
      unfold depB at hd
      rw [Bool.and_eq_true, Array.any_eq_true'] at hd
      obtain ⟨⟨e, he, hb⟩, hj⟩ := hd
      simp only [Bool.and_eq_true, beq_iff_eq] at hb
      cases hoj : ops[j]? with
      | none => rw [hoj] at hj; cases hj
      | some oj =>
        rw [hoj] at hj
        have hl2 := hdep e he hb.1
        rw [hb.2] at hl2
        obtain ⟨v, hv1, hv2⟩ := h.got j oj hoj hl2
        exact ⟨v, hv1, hv2 t (by simpa using hj)⟩
    unfold wpOp
    rw [ho]
    rcases hg with ⟨h1, h2⟩ | ⟨h1, h2⟩
    · simp only [h1, if_true]
      refine .inl (Oper.wp_mono (fun a' w' hk => ?_) h2)
      obtain ⟨v, rfl, hC, hb, hv⟩ := hk
      exact ih _ _ _ (h.put hmono hap ho hC hb hv) hcount
    · simp only [h1]
      exact ih _ _ _ (h.put hmono hap ho h.cls (Below.refl _ _) h2) hcount
/-- THE LAW. -/
theorem wp_region_slotsG {P : Program} {ops : Array Oper} {Q : Exit → Act → World → Prop} {id : Nat} {a0 : Act} {w0 : World} (Ψ : Nat → Value → World → Prop) (C : World → Prop) (hm : P.follows .mixedOrders = true) (hC : C w0.drew) (hmono : ∀ i v w w', Below w.heap.size w w' → Ψ i v w → Ψ i v w') (hback : backG ops = true) (hap : apartB ops a0.tmps.size = true)
    (hop : AllOps (OpGoesG P ops Q Ψ C a0) 0 ops.toList)
    (hend : ∀ a w, C w → BaseA ops a0 a → (∀ (i : Nat) (o : Oper), ops[i]? = some o → ∃ v, Ψ i v w ∧ ∀ t, o.dst = some t → a.tmps.getD t undef = v) → Q .normal a w) : (Code.region id ops true).wp P Q a0 w0 := by
  refine wp_region_any hm ?_
  refine wpAny_slotsG hmono hback hap (fun i o ho => ?_) hend _ _ _ _ ⟨by simp, ⟨rfl, rfl, fun _ _ => rfl⟩, hC, fun i o ho hl => ?_⟩ ?_
  · have := AllOps.at _ 0 hop i o (by rw [Array.getElem?_toList]; exact ho)
    rwa [Nat.zero_add] at this
  · exfalso
    have hi := (Array.getElem?_eq_some_iff.1 ho).1
    rw [Array.getD_eq_getD_getElem?, Array.getElem?_replicate, if_pos hi] at hl
    cases hl
  · exact Nat.le_trans (List.countP_le_length) (by simp)
end Go.Proofs.YtegengnffdlplaaGreatDoor
