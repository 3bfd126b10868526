/- As XOrdV, and a slot that is written keeps what it held until then. No walk here. -/
import Derived.Test.YtimnhbndokfgnaaOrdV
namespace Go.Proofs.Ytimnhbndokfgnaa
open Go.RowKit

structure ValIW (ops : Array Oper) (C : (Nat → Bool) → (Nat → Value) → World → Prop) (a0 : Act) (listed : Array Bool) (L : Nat → Bool) (vals : Nat → Value) (a : Act) (w : World) : Prop where
  size : listed.size = ops.size
  same : ∀ i, L i = listed.getD i false
  base : BaseA ops a0 a
  cls : C L vals w
  closed : ClosedL ops L
  slots : ∀ (i : Nat) (o : Oper), ops[i]? = some o → L i = true → ∀ t, o.dst = some t → a.tmps.getD t undef = vals i
  still : ∀ (i : Nat) (o : Oper), ops[i]? = some o → L i = false → ∀ t, o.dst = some t → a.tmps.getD t undef = a0.tmps.getD t undef
def OpGoesW (P : Program) (ops : Array Oper) (Q : Exit → Act → World → Prop) (C : (Nat → Bool) → (Nat → Value) → World → Prop) (a0 : Act) (i : Nat) (o : Oper) : Prop :=
  ∀ L vals a w, C L vals w → BaseA ops a0 a → (∀ (j : Nat) (oj : Oper), ops[j]? = some oj → L j = false → ∀ t, oj.dst = some t → a.tmps.getD t undef = a0.tmps.getD t undef) → L i = false → (∀ j, descB ops ops.size i j = true → L j = false) → (∀ j t, depB ops o j t = true → L j = true ∧ a.tmps.getD t undef = vals j) →
    (Region.wanted o (yielded ops a.tmps) = true ∧ o.wp P a w (fun a' w' => ∃ v, a' = a.put o.dst v ∧ C (updL L i) (updV vals i v) w') Q) ∨ (Region.wanted o (yielded ops a.tmps) = false ∧ C (updL L i) (updV vals i undef) w)
theorem ValIW.put {ops : Array Oper} {C : (Nat → Bool) → (Nat → Value) → World → Prop} {a0 : Act} {listed : Array Bool} {L : Nat → Bool} {vals : Nat → Value} {a : Act} {w w' : World} (h : ValIW ops C a0 listed L vals a w) (hap : apartB ops a0.tmps.size = true)
    {i : Nat} {o : Oper} (ho : ops[i]? = some o) (hdep : ∀ e ∈ o.after, Region.binds .any e = true → listed.getD e.on false = true) {v : Value} (hC : C (updL L i) (updV vals i v) w') : ValIW ops C a0 (listed.setIfInBounds i true) (updL L i) (updV vals i v) (a.put o.dst v) w' := by
  have hi := (Array.getElem?_eq_some_iff.1 ho).1
  refine ⟨by rw [Array.size_setIfInBounds]; exact h.size, fun j => ?_, h.base.put ho v, hC, fun j k hj hd => ?_, fun j oj hj hl t ht => ?_, fun j oj hj hl t ht => ?_⟩
  · by_cases hji : j = i
    · subst hji
      rw [updL_self, Array.getD_eq_getD_getElem?, Array.getElem?_setIfInBounds_self_of_lt (by rw [h.size]; exact hi)]
      rfl
    · rw [updL_ne hji, listed_set hji]; exact h.same j
  · by_cases hji : j = i
    · subst hji
      unfold dep1 at hd
      rw [ho] at hd
      simp only [Array.any_eq_true'] at hd
      obtain ⟨e, he, hb⟩ := hd
      simp only [Bool.and_eq_true, beq_iff_eq] at hb
      have h1 := hdep e he hb.1
      rw [hb.2] at h1
      by_cases hkj : k = j
      · subst hkj; exact updL_self _ _
      · rw [updL_ne hkj, h.same]; exact h1
    · rw [updL_ne hji] at hj
      have h1 := h.closed j k hj hd
      by_cases hki : k = i
      · subst hki; exact updL_self _ _
      · rw [updL_ne hki]; exact h1
  · by_cases hij : j = i
    · subst hij
      obtain rfl : o = oj := Option.some.inj (ho.symm.trans hj)
      rw [ht, updV_self]
      exact getD_put_self (by rw [h.base.size]; exact apart_lt hap ho ht)
    · rw [updL_ne hij] at hl
      rw [updV_ne hij]
      have h2 := h.slots j oj hj hl t ht
      cases hd : o.dst with
      | none => exact h2
      | some d => rw [getD_put (apart_at hap ho hj (fun e => hij e.symm) hd ht)]; exact h2
  · by_cases hij : j = i
    · subst hij
      rw [updL_self] at hl
      cases hl
    · rw [updL_ne hij] at hl
      have h2 := h.still j oj hj hl t ht
      cases hd : o.dst with
      | none => exact h2
      | some d => rw [getD_put (apart_at hap ho hj (fun e => hij e.symm) hd ht)]; exact h2
theorem wpAny_valsW {P : Program} {ops : Array Oper} {Q : Exit → Act → World → Prop} {C : (Nat → Bool) → (Nat → Value) → World → Prop} {a0 : Act} (hback : backG ops = true) (hap : apartB ops a0.tmps.size = true)
    (hop : ∀ (i : Nat) (o : Oper), ops[i]? = some o → OpGoesW P ops Q C a0 i o)
    (hend : ∀ L vals a w, C L vals w → (∀ i, i < ops.size → L i = true) → BaseA ops a0 a → (∀ (i : Nat) (o : Oper), ops[i]? = some o → ∀ t, o.dst = some t → a.tmps.getD t undef = vals i) → Q .normal a w) :
    ∀ (fuel : Nat) (listed : Array Bool) (L : Nat → Bool) (vals : Nat → Value) (a : Act) (w : World), ValIW ops C a0 listed L vals a w → (List.range ops.size).countP (fun i => !listed.getD i true) ≤ fuel → wpAny P .any ops Q fuel listed a w := by
  have fin : ∀ (listed : Array Bool) (L : Nat → Bool) (vals : Nat → Value) (a : Act) (w : World), ValIW ops C a0 listed L vals a w → (∀ i, i < ops.size → listed.getD i true = true) → Q .normal a w := by
    intro listed L vals a w h hall
    have hL : ∀ i, i < ops.size → L i = true := fun i hi => by rw [h.same, ← getD_both (by rw [h.size]; exact hi)]; exact hall i hi
    exact hend L vals a w h.cls hL h.base fun i o ho t ht => h.slots i o ho (hL i (Array.getElem?_eq_some_iff.1 ho).1) t ht
  intro fuel
  induction fuel with
  | zero =>
    intro listed L vals a w h hc
    have hall : ∀ i, i < ops.size → listed.getD i true = true := by
      intro i hi
      have h0 : (List.range ops.size).countP (fun i => !listed.getD i true) = 0 := by omega
      rw [List.countP_eq_zero] at h0
      simpa using h0 i (List.mem_range.2 hi)
    refine ⟨?_, fin listed L vals a w h hall⟩
    apply List.eq_nil_iff_forall_not_mem.2
    intro i hm
    obtain ⟨h1, h2, _⟩ := ready_mem hm
    rw [hall i h1] at h2
    cases h2
  | succ fuel ih =>
    intro listed L vals a w h hc
    refine ⟨fun hr => fin listed L vals a w h fun i hi => ready_nilG h.size hback hr i i (Nat.le_refl _) hi, fun i hm => ?_⟩
    obtain ⟨hi, hl, o, ho, hdep⟩ := ready_mem hm
    have hcount : (List.range ops.size).countP (fun j => !(listed.setIfInBounds i true).getD j true) ≤ fuel := by
      have hless := countP_less (p := fun i => !listed.getD i true) (q := fun j => !(listed.setIfInBounds i true).getD j true) (i := i) (by simp [hl]) (by
        rw [Array.getD_eq_getD_getElem?, Array.getElem?_setIfInBounds_self_of_lt (by rw [h.size]; exact hi)]; rfl) (List.range ops.size) (List.mem_range.2 hi) (fun j _ hj => by
        by_cases hji : j = i
        · subst hji; simp [hl]
        · rw [listed_set hji] at hj; exact hj)
      omega
    have hLi : L i = false := by rw [h.same, ← getD_both (by rw [h.size]; exact hi)]; exact hl
    have hg := hop i o ho L vals a w h.cls h.base h.still hLi (desc_no h.closed hLi ops.size) fun j t hd => by
      unfold depB at hd
      rw [Bool.and_eq_true, Array.any_eq_true'] at hd
      obtain ⟨⟨e, he, hb⟩, hj⟩ := hd
      simp only [Bool.and_eq_true, beq_iff_eq] at hb
      cases hoj : ops[j]? with
      | none => rw [hoj] at hj; cases hj
      | some oj =>
        rw [hoj] at hj
        have hl2 := hdep e he hb.1
        rw [hb.2] at hl2
        have hLj : L j = true := by rw [h.same]; exact hl2
        exact ⟨hLj, h.slots j oj hoj hLj t (by simpa using hj)⟩
    unfold wpOp
    rw [ho]
    rcases hg with ⟨h1, h2⟩ | ⟨h1, h2⟩
    · simp only [h1, if_true]
      refine .inl (Oper.wp_mono (fun a' w' hk => ?_) h2)
      obtain ⟨v, rfl, hC⟩ := hk
      exact ih _ _ _ _ _ (h.put hap ho hdep hC) hcount
    · simp only [h1]
      exact ih _ _ _ _ _ (h.put hap ho hdep h2) hcount
/-- THE LAW. -/
theorem wp_region_valsW {P : Program} {ops : Array Oper} {Q : Exit → Act → World → Prop} {id : Nat} {a0 : Act} {w0 : World} (C : (Nat → Bool) → (Nat → Value) → World → Prop) (hm : P.follows .mixedOrders = true) (hC : C (fun _ => false) (fun _ => undef) w0.drew) (hback : backG ops = true) (hap : apartB ops a0.tmps.size = true)
    (hop : AllOps (OpGoesW P ops Q C a0) 0 ops.toList)
    (hend : ∀ L vals a w, C L vals w → (∀ i, i < ops.size → L i = true) → BaseA ops a0 a → (∀ (i : Nat) (o : Oper), ops[i]? = some o → ∀ t, o.dst = some t → a.tmps.getD t undef = vals i) → Q .normal a w) : (Code.region id ops true).wp P Q a0 w0 := by
  refine wp_region_any hm ?_
  have hno : ∀ i, (Array.replicate ops.size false).getD i false = false := fun i => by
    rw [Array.getD_eq_getD_getElem?, Array.getElem?_replicate]
    split <;> rfl
  refine wpAny_valsW hback hap (fun i o ho => ?_) hend _ _ (fun _ => false) (fun _ => undef) _ _ ⟨by simp, fun i => (hno i).symm, ⟨rfl, rfl, fun _ _ => rfl⟩, hC, fun j k hj _ => (by cases hj), fun i o ho hl => (by cases hl), fun _ _ _ _ _ _ => rfl⟩ ?_
  · have := AllOps.at _ 0 hop i o (by rw [Array.getElem?_toList]; exact ho)
    rwa [Nat.zero_add] at this
  · exact Nat.le_trans (List.countP_le_length) (by simp)
end Go.Proofs.Ytimnhbndokfgnaa
