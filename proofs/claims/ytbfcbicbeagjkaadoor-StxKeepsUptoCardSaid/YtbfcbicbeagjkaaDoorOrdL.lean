/- A region whose order is drawn, one operation of which (z) writes into what was there: by what holds of each operation's value. No walk here. -/
import Derived.Test.YtbfcbicbeagjkaaDoorOrdV
namespace Go.Proofs.YtbfcbicbeagjkaaDoor
open Go.RowKit

/-- While it goes on: the world as it was ahead of the write, and what the write has made of it. -/
def LateI (z p q : Nat) (Ψ : Nat → Value → World → Prop) (C : World → Prop) (Fin : Value → Value → World → World → Prop) (L : Nat → Bool) (vals : Nat → Value) (W : World) : Prop :=
  ∃ W0, C W0 ∧ (∀ i, i ≠ z → L i = true → Ψ i (vals i) W0) ∧ (L z = false → W = W0) ∧ (L z = true → L p = true ∧ L q = true ∧ Fin (vals p) (vals q) W0 W)
def OpEarly (P : Program) (ops : Array Oper) (Q : Exit → Act → World → Prop) (Ψ : Nat → Value → World → Prop) (C : World → Prop) (a0 : Act) (i : Nat) (o : Oper) : Prop :=
  ∀ a w, C w → BaseA ops a0 a → (∀ j t, depB ops o j t = true → ∃ v, Ψ j v w ∧ a.tmps.getD t undef = v) →
    (Region.wanted o (yielded ops a.tmps) = true ∧ o.wp P a w (fun a' w' => ∃ v, a' = a.put o.dst v ∧ C w' ∧ Below w.heap.size w w' ∧ Ψ i v w') Q) ∨ (Region.wanted o (yielded ops a.tmps) = false ∧ Ψ i undef w)
/-- One that reads nothing may come behind the write. -/
def OpPure (P : Program) (ops : Array Oper) (Ψ : Nat → Value → World → Prop) (C : World → Prop) (a0 : Act) (i : Nat) (o : Oper) : Prop :=
  ∀ a w W, C w → BaseA ops a0 a → (∀ j t, depB ops o j t = true → ∃ v, Ψ j v w ∧ a.tmps.getD t undef = v) →
    (Region.wanted o (yielded ops a.tmps) = true ∧ ∃ v, (execOp a.eval o).run P W = .ok (.value v) W ∧ Ψ i v w) ∨ (Region.wanted o (yielded ops a.tmps) = false ∧ Ψ i undef w)
def OpWrite (P : Program) (ops : Array Oper) (Q : Exit → Act → World → Prop) (p q : Nat) (Ψ : Nat → Value → World → Prop) (C : World → Prop) (Fin : Value → Value → World → World → Prop) (a0 : Act) (o : Oper) : Prop :=
  ∀ (vals : Nat → Value) a w, C w → BaseA ops a0 a → (∀ j t, depB ops o j t = true → Ψ j (vals j) w ∧ a.tmps.getD t undef = vals j) →
    Region.wanted o (yielded ops a.tmps) = true ∧ o.wp P a w (fun a' w' => ∃ v, a' = a.put o.dst v ∧ Fin (vals p) (vals q) w w') Q
def OpL (P : Program) (ops : Array Oper) (Q : Exit → Act → World → Prop) (z p q : Nat) (Ψ : Nat → Value → World → Prop) (C : World → Prop) (Fin : Value → Value → World → World → Prop) (a0 : Act) (i : Nat) (o : Oper) : Prop :=
  if i = z then OpWrite P ops Q p q Ψ C Fin a0 o else if descB ops ops.size i z then OpEarly P ops Q Ψ C a0 i o else OpPure P ops Ψ C a0 i o
theorem OpL.write {P : Program} {ops : Array Oper} {Q : Exit → Act → World → Prop} {z p q : Nat} {Ψ : Nat → Value → World → Prop} {C : World → Prop} {Fin : Value → Value → World → World → Prop} {a0 : Act} {i : Nat} {o : Oper} (hi : (i == z) = true) (h : OpWrite P ops Q p q Ψ C Fin a0 o) : OpL P ops Q z p q Ψ C Fin a0 i o := by
  unfold OpL; rw [if_pos (by simpa using hi)]; exact h
theorem OpL.early {P : Program} {ops : Array Oper} {Q : Exit → Act → World → Prop} {z p q : Nat} {Ψ : Nat → Value → World → Prop} {C : World → Prop} {Fin : Value → Value → World → World → Prop} {a0 : Act} {i : Nat} {o : Oper} (hi : (i == z) = false) (hd : descB ops ops.size i z = true) (h : OpEarly P ops Q Ψ C a0 i o) : OpL P ops Q z p q Ψ C Fin a0 i o := by
  unfold OpL; rw [if_neg (by simpa using hi), if_pos hd]; exact h
theorem OpL.pure {P : Program} {ops : Array Oper} {Q : Exit → Act → World → Prop} {z p q : Nat} {Ψ : Nat → Value → World → Prop} {C : World → Prop} {Fin : Value → Value → World → World → Prop} {a0 : Act} {i : Nat} {o : Oper} (hi : (i == z) = false) (hd : descB ops ops.size i z = false) (h : OpPure P ops Ψ C a0 i o) : OpL P ops Q z p q Ψ C Fin a0 i o := by
  unfold OpL; rw [if_neg (by simpa using hi), if_neg (by rw [hd]; simp)]; exact h
theorem wp_region_late {P : Program} {ops : Array Oper} {Q : Exit → Act → World → Prop} {id : Nat} {a0 : Act} {w0 : World} (z p q tp tq : Nat) (Ψ : Nat → Value → World → Prop) (C : World → Prop) (Fin : Value → Value → World → World → Prop) (hm : P.follows .mixedOrders = true) (hC : C w0.drew) (hmono : ∀ i v w w', Below w.heap.size w w' → Ψ i v w → Ψ i v w') (hback : backG ops = true) (hap : apartB ops a0.tmps.size = true)
    (hzs : (match ops[z]? with | some o => o.dst.isNone && (depB ops o p tp && depB ops o q tq) | none => false) = true)
    (hop : AllOps (OpL P ops Q z p q Ψ C Fin a0) 0 ops.toList)
    (hend : ∀ (vals : Nat → Value) a w0' w, C w0' → Fin (vals p) (vals q) w0' w → BaseA ops a0 a → (∀ (i : Nat) (o : Oper), ops[i]? = some o → i ≠ z → Ψ i (vals i) w0' ∧ ∀ t, o.dst = some t → a.tmps.getD t undef = vals i) → Q .normal a w) : (Code.region id ops true).wp P Q a0 w0 := by
  obtain ⟨oz, hoz, hzn, hzp, hzq⟩ : ∃ oz, ops[z]? = some oz ∧ oz.dst.isNone = true ∧ depB ops oz p tp = true ∧ depB ops oz q tq = true := by
    cases h : ops[z]? with
    | none => rw [h] at hzs; cases hzs
    | some o => rw [h] at hzs; simp only [Bool.and_eq_true] at hzs; exact ⟨o, rfl, hzs⟩
  refine wp_region_vals (LateI z p q Ψ C Fin) hm ⟨_, hC, (fun i _ h => by cases h), (fun _ => rfl), (fun h => by cases h)⟩ hback hap ?_ ?_
  · have key : ∀ (i : Nat) (o : Oper), ops[i]? = some o → OpL P ops Q z p q Ψ C Fin a0 i o → OpGoesV P ops Q (LateI z p q Ψ C Fin) a0 i o := by
      intro i o ho hL L vals a w hI hB hli hD hdep
      obtain ⟨W0, hC0, hall, hz0, hz1⟩ := hI
      have upd : ∀ v W1, i ≠ z → C W1 → (∀ j, j ≠ z → L j = true → Ψ j (vals j) W1) → Ψ i v W1 → ∀ j, j ≠ z → updL L i j = true → Ψ j (updV vals i v j) W1 := by
        intro v W1 _ _ h1 h2 j hj hlj
        by_cases e : j = i
        · subst e; rw [updV_self]; exact h2
        · rw [updV_ne e]; rw [updL_ne e] at hlj; exact h1 j hj hlj
      unfold OpL at hL
      by_cases hiz : i = z
      · subst hiz
        rw [if_pos rfl] at hL
        obtain rfl : oz = o := Option.some.inj (hoz.symm.trans ho)
        obtain rfl := hz0 hli
        have hpi : p ≠ i := fun e => by rw [e] at hzp; rw [(hdep i tp hzp).1] at hli; cases hli
        have hqi : q ≠ i := fun e => by rw [e] at hzq; rw [(hdep i tq hzq).1] at hli; cases hli
        obtain ⟨hw, hgo⟩ := hL vals a w hC0 hB fun j t hd => ⟨hall j (fun e => by rw [e] at hd; rw [(hdep i t hd).1] at hli; cases hli) (hdep j t hd).1, (hdep j t hd).2⟩
        refine .inl ⟨hw, ?_⟩
        refine Oper.wp_mono ?_ hgo
        rintro a' w' ⟨v, ha, hF⟩
        refine ⟨v, ha, w, hC0, fun j hj hlj => ?_, fun h => ?_, fun _ => ⟨?_, ?_, ?_⟩⟩
        · rw [updV_ne hj]; rw [updL_ne hj] at hlj; exact hall j hj hlj
        · rw [updL_self] at h; cases h
        · rw [updL_ne hpi]; exact (hdep p tp hzp).1
        · rw [updL_ne hqi]; exact (hdep q tq hzq).1
        · rw [updV_ne hpi, updV_ne hqi]; exact hF
      · rw [if_neg hiz] at hL
        have hdeps : ∀ j t, depB ops o j t = true → ∃ v, Ψ j v W0 ∧ a.tmps.getD t undef = v := fun j t hd => by
          refine ⟨vals j, hall j (fun e => ?_) (hdep j t hd).1, (hdep j t hd).2⟩
          subst e
          unfold depB at hd
          rw [hoz] at hd
          rw [Option.isNone_iff_eq_none] at hzn
          simp [hzn] at hd
        have hzi : ∀ v : Bool, L z = v → updL L i z = v := fun v h => by rw [updL_ne (fun e => hiz e.symm)]; exact h
        have hpq : L z = true → p ≠ i ∧ q ≠ i := fun h => ⟨fun e => (by rw [← e, (hz1 h).1] at hli; cases hli), fun e => (by rw [← e, (hz1 h).2.1] at hli; cases hli)⟩
        cases hdz : descB ops ops.size i z with
        | true =>
          rw [hdz, if_pos rfl] at hL
          have hlz := hD z hdz
          obtain rfl := hz0 hlz
          rcases hL a w hC0 hB hdeps with ⟨hw, hgo⟩ | ⟨hw, hpsi⟩
          · refine .inl ⟨hw, ?_⟩
            refine Oper.wp_mono ?_ hgo
            rintro a' w' ⟨v, ha, hC', hb, hpsi⟩
            refine ⟨v, ha, w', hC', upd v w' hiz hC' (fun j hj hlj => hmono _ _ _ _ hb (hall j hj hlj)) hpsi, fun _ => rfl, fun h => ?_⟩
            rw [hzi _ hlz] at h; cases h
          · refine .inr ⟨hw, w, hC0, upd undef w hiz hC0 hall hpsi, fun _ => rfl, fun h => ?_⟩
            rw [hzi _ hlz] at h; cases h
        | false =>
          rw [hdz, if_neg (by simp)] at hL
          have tail : ∀ v, Ψ i v W0 → LateI z p q Ψ C Fin (updL L i) (updV vals i v) w := fun v hpsi => by
            refine ⟨W0, hC0, upd v W0 hiz hC0 hall hpsi, fun h => hz0 (by rw [← hzi _ rfl]; exact h), fun h => ?_⟩
            have hlz : L z = true := by rw [← hzi _ rfl]; exact h
            obtain ⟨h1, h2, h3⟩ := hz1 hlz
            rw [updL_ne (hpq hlz).1, updL_ne (hpq hlz).2, updV_ne (hpq hlz).1, updV_ne (hpq hlz).2]
            exact ⟨h1, h2, h3⟩
          rcases hL a W0 w hC0 hB hdeps with ⟨hw, v, hr, hpsi⟩ | ⟨hw, hpsi⟩
          · exact .inl ⟨hw, goesV_value hr (tail v hpsi)⟩
          · exact .inr ⟨hw, tail undef hpsi⟩
    have lift : ∀ (l : List Oper) (k : Nat), (∀ (i : Nat) (o : Oper), l[i]? = some o → ops[k + i]? = some o) → AllOps (OpL P ops Q z p q Ψ C Fin a0) k l → AllOps (OpGoesV P ops Q (LateI z p q Ψ C Fin) a0) k l := by
      intro l
      induction l with
      | nil => intro k _ _; exact trivial
      | cons o r ih =>
        intro k hk h
        exact ⟨key k o (hk 0 o rfl) h.1, ih (k + 1) (fun i o' h' => by rw [Nat.add_assoc, Nat.add_comm 1 i]; exact hk (i + 1) o' h') h.2⟩
    exact lift _ 0 (fun i o h => by rw [Nat.zero_add, ← Array.getElem?_toList]; exact h) hop
  · intro L vals a w hI hL hB hslots
    obtain ⟨W0, hC0, hall, _, hz1⟩ := hI
    exact hend vals a W0 w hC0 (hz1 (hL z (Array.getElem?_eq_some_iff.1 hoz).1)).2.2 hB fun i o ho hi => ⟨hall i hi (hL i (Array.getElem?_eq_some_iff.1 ho).1), hslots i o ho⟩
def nothing : Value → World → Prop := fun _ _ => True
theorem nothing_stays : Stays nothing := fun _ _ _ _ h => h
theorem goes_world {P : Program} {o : Oper} {a : Act} {w w1 : World} {v : Value} {C : World → Prop} {p : Value → World → Prop} {Q : Exit → Act → World → Prop} (h : (execOp a.eval o).run P w = .ok (.value v) w1) (hC : C w1) (hb : Below w.heap.size w w1) (hv : p v w1) : o.wp P a w (fun a' w' => ∃ v, a' = a.put o.dst v ∧ C w' ∧ Below w.heap.size w w' ∧ p v w') Q := by
  unfold Oper.wp
  rw [h]
  exact ⟨v, rfl, hC, hb, hv⟩
theorem writes_skip {P : Program} {o : Oper} {a : Act} {w w1 : World} {K : World → Prop} {Q : Exit → Act → World → Prop} (h : (execOp a.eval o).run P w = .ok .skip w1) (hv : K w1) : o.wp P a w (fun a' w' => ∃ v, a' = a.put o.dst v ∧ K w') Q := by
  unfold Oper.wp
  rw [h]
  exact ⟨undef, rfl, hv⟩
end Go.Proofs.YtbfcbicbeagjkaaDoor
