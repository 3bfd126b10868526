/- A region whose order is drawn, and which writes: by what each operation has yielded, and by which ones are done. No walk here. -/
import Derived.Test.YtbfcbicbeagjkaaDoorOrdG
import Derived.Test.YtbfcbicbeagjkaaDoorMem
namespace Go.Proofs.YtbfcbicbeagjkaaDoor
open Go.RowKit

def updL (L : Nat → Bool) (i : Nat) : Nat → Bool := fun j => if j = i then true else L j
def updV (vals : Nat → Value) (i : Nat) (v : Value) : Nat → Value := fun j => if j = i then v else vals j
theorem updL_self (L : Nat → Bool) (i : Nat) : updL L i i = true := by simp [updL]
theorem updL_ne {L : Nat → Bool} {i j : Nat} (h : j ≠ i) : updL L i j = L j := by simp [updL, h]
theorem updV_self (vals : Nat → Value) (i : Nat) (v : Value) : updV vals i v i = v := by simp [updV]
theorem updV_ne {vals : Nat → Value} {i j : Nat} {v : Value} (h : j ≠ i) : updV vals i v j = vals j := by simp [updV, h]
/-- Operation j waits for i. -/
def dep1 (ops : Array Oper) (j i : Nat) : Bool := match ops[j]? with
  | some o => o.after.any fun e => Region.binds .any e && e.on == i
  | none => false
/-- .. at once, or by others. -/
def descB (ops : Array Oper) : Nat → Nat → Nat → Bool
  | 0, _, _ => false
  | n + 1, i, j => dep1 ops j i || (List.range ops.size).any fun k => dep1 ops j k && descB ops n i k
def ClosedL (ops : Array Oper) (L : Nat → Bool) : Prop := ∀ j k, L j = true → dep1 ops j k = true → L k = true
theorem desc_no {ops : Array Oper} {L : Nat → Bool} (hc : ClosedL ops L) {i : Nat} (hi : L i = false) : ∀ (n j : Nat), descB ops n i j = true → L j = false
  | 0, _, h => by cases h
  | n + 1, j, h => by
    unfold descB at h
    rw [Bool.or_eq_true, List.any_eq_true] at h
    cases hj : L j with
    | false => rfl
    | true =>
      rcases h with h | ⟨k, _, hk⟩
      · rw [hc j i hj h] at hi; cases hi
      · rw [Bool.and_eq_true] at hk
        have h1 := hc j k hj hk.1
        rw [desc_no hc hi n k hk.2] at h1
        cases h1
structure ValI (ops : Array Oper) (C : (Nat → Bool) → (Nat → Value) → World → Prop) (a0 : Act) (listed : Array Bool) (L : Nat → Bool) (vals : Nat → Value) (a : Act) (w : World) : Prop where
  size : listed.size = ops.size
  same : ∀ i, L i = listed.getD i false
  base : BaseA ops a0 a
  cls : C L vals w
  closed : ClosedL ops L
  slots : ∀ (i : Nat) (o : Oper), ops[i]? = some o → L i = true → ∀ t, o.dst = some t → a.tmps.getD t undef = vals i
def OpGoesV (P : Program) (ops : Array Oper) (Q : Exit → Act → World → Prop) (C : (Nat → Bool) → (Nat → Value) → World → Prop) (a0 : Act) (i : Nat) (o : Oper) : Prop :=
  ∀ L vals a w, C L vals w → BaseA ops a0 a → L i = false → (∀ j, descB ops ops.size i j = true → L j = false) → (∀ j t, depB ops o j t = true → L j = true ∧ a.tmps.getD t undef = vals j) →
    (Region.wanted o (yielded ops a.tmps) = true ∧ o.wp P a w (fun a' w' => ∃ v, a' = a.put o.dst v ∧ C (updL L i) (updV vals i v) w') Q) ∨ (Region.wanted o (yielded ops a.tmps) = false ∧ C (updL L i) (updV vals i undef) w)
theorem ValI.put {ops : Array Oper} {C : (Nat → Bool) → (Nat → Value) → World → Prop} {a0 : Act} {listed : Array Bool} {L : Nat → Bool} {vals : Nat → Value} {a : Act} {w w' : World} (h : ValI ops C a0 listed L vals a w) (hap : apartB ops a0.tmps.size = true)
    {i : Nat} {o : Oper} (ho : ops[i]? = some o) (hdep : ∀ e ∈ o.after, Region.binds .any e = true → listed.getD e.on false = true) {v : Value} (hC : C (updL L i) (updV vals i v) w') : ValI ops C a0 (listed.setIfInBounds i true) (updL L i) (updV vals i v) (a.put o.dst v) w' := by
  have hi := (Array.getElem?_eq_some_iff.1 ho).1
  refine ⟨by rw [Array.size_setIfInBounds]; exact h.size, fun j => ?_, h.base.put ho v, hC, fun j k hj hd => ?_, fun j oj hj hl t ht => ?_⟩
  · by_cases hji : j = i
    · subst hji
      rw [updL_self, Array.getD_eq_getD_getElem?, Array.getElem?_setIfInBounds_self_of_lt (by rw [h.size]; exact hi)]
      rfl
    · rw [updL_ne hji, listed_set hji]; exact h.same j
  · by_cases hji : j = i
    · subst hji
      unfold dep1 at hd
      rw [ho] at hd
      simp only [Array.any_eq_true'] at hd
      obtain ⟨e, he, hb⟩ := hd
      simp only [Bool.and_eq_true, beq_iff_eq] at hb
      have h1 := hdep e he hb.1
      rw [hb.2] at h1
      by_cases hkj : k = j
      · subst hkj; exact updL_self _ _
      · rw [updL_ne hkj, h.same]; exact h1
    · rw [updL_ne hji] at hj
      have h1 := h.closed j k hj hd
      by_cases hki : k = i
      · subst hki; exact updL_self _ _
      · rw [updL_ne hki]; exact h1
  · by_cases hij : j = i
    · subst hij
      obtain rfl : o = oj := Option.some.inj (ho.symm.trans hj)
      rw [ht, updV_self]
      exact getD_put_self (by rw [h.base.size]; exact apart_lt hap ho ht)
    · rw [updL_ne hij] at hl
      rw [updV_ne hij]
      have h2 := h.slots j oj hj hl t ht
      cases hd : o.dst with
      | none => exact h2
      | some d => rw [getD_put (apart_at hap ho hj (fun e => hij e.symm) hd ht)]; exact h2
theorem wpAny_vals {P : Program} {ops : Array Oper} {Q : Exit → Act → World → Prop} {C : (Nat → Bool) → (Nat → Value) → World → Prop} {a0 : Act} (hback : backG ops = true) (hap : apartB ops a0.tmps.size = true)
    (hop : ∀ (i : Nat) (o : Oper), ops[i]? = some o → OpGoesV P ops Q C a0 i o)
    (hend : ∀ L vals a w, C L vals w → (∀ i, i < ops.size → L i = true) → BaseA ops a0 a → (∀ (i : Nat) (o : Oper), ops[i]? = some o → ∀ t, o.dst = some t → a.tmps.getD t undef = vals i) → Q .normal a w) :
    ∀ (fuel : Nat) (listed : Array Bool) (L : Nat → Bool) (vals : Nat → Value) (a : Act) (w : World), ValI ops C a0 listed L vals a w → (List.range ops.size).countP (fun i => !listed.getD i true) ≤ fuel → wpAny P .any ops Q fuel listed a w := by
  have fin : ∀ (listed : Array Bool) (L : Nat → Bool) (vals : Nat → Value) (a : Act) (w : World), ValI ops C a0 listed L vals a w → (∀ i, i < ops.size → listed.getD i true = true) → Q .normal a w := by
    intro listed L vals a w h hall
    have hL : ∀ i, i < ops.size → L i = true := fun i hi => by rw [h.same, ← getD_both (by rw [h.size]; exact hi)]; exact hall i hi
    exact hend L vals a w h.cls hL h.base fun i o ho t ht => h.slots i o ho (hL i (Array.getElem?_eq_some_iff.1 ho).1) t ht
  intro fuel
  induction fuel with
  | zero =>
    intro listed L vals a w h hc
    have hall : ∀ i, i < ops.size → listed.getD i true = true := by
      intro i hi
      have h0 : (List.range ops.size).countP (fun i => !listed.getD i true) = 0 := by omega
      rw [List.countP_eq_zero] at h0
      simpa using h0 i (List.mem_range.2 hi)
    refine ⟨?_, fin listed L vals a w h hall⟩
    apply List.eq_nil_iff_forall_not_mem.2
    intro i hm
    obtain ⟨h1, h2, _⟩ := ready_mem hm
    rw [hall i h1] at h2
    cases h2
  | succ fuel ih =>
    intro listed L vals a w h hc
    refine ⟨fun hr => fin listed L vals a w h fun i hi => ready_nilG h.size hback hr i i (Nat.le_refl _) hi, fun i hm => ?_⟩
    obtain ⟨hi, hl, o, ho, hdep⟩ := ready_mem hm
    have hcount : (List.range ops.size).countP (fun j => !(listed.setIfInBounds i true).getD j true) ≤ fuel := by
      have hless := countP_less (p := fun i => !listed.getD i true) (q := fun j => !(listed.setIfInBounds i true).getD j true) (i := i) (by simp [hl]) (by
        rw [Array.getD_eq_getD_getElem?, Array.getElem?_setIfInBounds_self_of_lt (by rw [h.size]; exact hi)]; rfl) (List.range ops.size) (List.mem_range.2 hi) (fun j _ hj => by
        by_cases hji : j = i
        · subst hji; simp [hl]
        · rw [listed_set hji] at hj; exact hj)
      omega
    have hLi : L i = false := by rw [h.same, ← getD_both (by rw [h.size]; exact hi)]; exact hl
    have hg := hop i o ho L vals a w h.cls h.base hLi (desc_no h.closed hLi ops.size) fun j t hd => by
      unfold depB at hd
      rw [Bool.and_eq_true, Array.any_eq_true'] at hd
      obtain ⟨⟨e, he, hb⟩, hj⟩ := hd
      simp only [Bool.and_eq_true, beq_iff_eq] at hb
      cases hoj : ops[j]? with
      | none => rw [hoj] at hj; cases hj
      | some oj =>
        rw [hoj] at hj
        have hl2 := hdep e he hb.1
        rw [hb.2] at hl2
        have hLj : L j = true := by rw [h.same]; exact hl2
        exact ⟨hLj, h.slots j oj hoj hLj t (by simpa using hj)⟩
    unfold wpOp
    rw [ho]
    rcases hg with ⟨h1, h2⟩ | ⟨h1, h2⟩
    · simp only [h1, if_true]
      refine .inl (Oper.wp_mono (fun a' w' hk => ?_) h2)
      obtain ⟨v, rfl, hC⟩ := hk
      exact ih _ _ _ _ _ (h.put hap ho hdep hC) hcount
    · simp only [h1]
      exact ih _ _ _ _ _ (h.put hap ho hdep h2) hcount
/-- THE LAW. -/
theorem wp_region_vals {P : Program} {ops : Array Oper} {Q : Exit → Act → World → Prop} {id : Nat} {a0 : Act} {w0 : World} (C : (Nat → Bool) → (Nat → Value) → World → Prop) (hm : P.follows .mixedOrders = true) (hC : C (fun _ => false) (fun _ => undef) w0.drew) (hback : backG ops = true) (hap : apartB ops a0.tmps.size = true)
    (hop : AllOps (OpGoesV P ops Q C a0) 0 ops.toList)
    (hend : ∀ L vals a w, C L vals w → (∀ i, i < ops.size → L i = true) → BaseA ops a0 a → (∀ (i : Nat) (o : Oper), ops[i]? = some o → ∀ t, o.dst = some t → a.tmps.getD t undef = vals i) → Q .normal a w) : (Code.region id ops true).wp P Q a0 w0 := by
  refine wp_region_any hm ?_
  have hno : ∀ i, (Array.replicate ops.size false).getD i false = false := fun i => by
    rw [Array.getD_eq_getD_getElem?, Array.getElem?_replicate]
    split <;> rfl
  refine wpAny_vals hback hap (fun i o ho => ?_) hend _ _ (fun _ => false) (fun _ => undef) _ _ ⟨by simp, fun i => (hno i).symm, ⟨rfl, rfl, fun _ _ => rfl⟩, hC, fun j k hj _ => (by cases hj), fun i o ho hl => (by cases hl)⟩ ?_
  · have := AllOps.at _ 0 hop i o (by rw [Array.getElem?_toList]; exact ho)
    rwa [Nat.zero_add] at this
  · exact Nat.le_trans (List.countP_le_length) (by simp)
/-- What they have yielded, as far as it is fixed. -/
def AllV (cs : List (Option Value)) (L : Nat → Bool) (vals : Nat → Value) : Prop := ∀ j c, cs[j]? = some (some c) → L j = true → vals j = c
theorem AllV.start (cs : List (Option Value)) (vals : Nat → Value) : AllV cs (fun _ => false) vals := fun _ _ _ h => by cases h
theorem AllV.upd {cs : List (Option Value)} {L : Nat → Bool} {vals : Nat → Value} (h : AllV cs L vals) {i : Nat} {v : Value} (hi : ∀ c, cs[i]? = some (some c) → v = c) : AllV cs (updL L i) (updV vals i v) := by
  intro j c hj hl
  by_cases e : j = i
  · subst e; rw [updV_self]; exact hi c hj
  · rw [updV_ne e]; rw [updL_ne e] at hl; exact h j c hj hl
/-- Ahead of operation ia; between it and operation ib; behind that. -/
structure Ph (ia ib : Nat) (Pre : World → Prop) (Mid Fin : Value → World → Prop) (L : Nat → Bool) (vals : Nat → Value) (w : World) : Prop where
  pre : L ia = false → Pre w
  mid : L ia = true → L ib = false → Mid (vals ia) w
  fin : L ib = true → Fin (vals ia) w
  ord : L ib = true → L ia = true
theorem Ph.start {ia ib : Nat} {Pre : World → Prop} {Mid Fin : Value → World → Prop} {w : World} (h : Pre w) : Ph ia ib Pre Mid Fin (fun _ => false) (fun _ => undef) w := ⟨fun _ => h, fun h => (by cases h), fun h => (by cases h), fun h => (by cases h)⟩
theorem Ph.ahead {ia ib : Nat} {Pre : World → Prop} {Mid Fin : Value → World → Prop} {L : Nat → Bool} {vals : Nat → Value} {w w' : World} (h : Ph ia ib Pre Mid Fin L vals w) (hl : L ia = false) {i : Nat} (h1 : i ≠ ia) (h2 : i ≠ ib) (v : Value) (hw : Pre w') : Ph ia ib Pre Mid Fin (updL L i) (updV vals i v) w' := by
  have hb : L ib = false := by cases hb : L ib with | false => rfl | true => rw [h.ord hb] at hl; cases hl
  refine ⟨fun _ => hw, fun h3 => ?_, fun h3 => ?_, fun h3 => ?_⟩
  · rw [updL_ne (Ne.symm h1), hl] at h3; cases h3
  · rw [updL_ne (Ne.symm h2), hb] at h3; cases h3
  · rw [updL_ne (Ne.symm h2), hb] at h3; cases h3
theorem Ph.idle {ia ib : Nat} {Pre : World → Prop} {Mid Fin : Value → World → Prop} {L : Nat → Bool} {vals : Nat → Value} {w : World} (h : Ph ia ib Pre Mid Fin L vals w) {i : Nat} (h1 : i ≠ ia) (h2 : i ≠ ib) (v : Value) : Ph ia ib Pre Mid Fin (updL L i) (updV vals i v) w := by
  refine ⟨fun h3 => ?_, fun h3 h4 => ?_, fun h3 => ?_, fun h3 => ?_⟩
  · rw [updL_ne (Ne.symm h1)] at h3; exact h.pre h3
  · rw [updL_ne (Ne.symm h1)] at h3; rw [updL_ne (Ne.symm h2)] at h4; rw [updV_ne (Ne.symm h1)]; exact h.mid h3 h4
  · rw [updL_ne (Ne.symm h2)] at h3; rw [updV_ne (Ne.symm h1)]; exact h.fin h3
  · rw [updL_ne (Ne.symm h2)] at h3; rw [updL_ne (Ne.symm h1)]; exact h.ord h3
theorem Ph.first {ia ib : Nat} {Pre : World → Prop} {Mid Fin : Value → World → Prop} {L : Nat → Bool} {vals : Nat → Value} {w w' : World} (h : Ph ia ib Pre Mid Fin L vals w) (hl : L ia = false) (hne : ia ≠ ib) {v : Value} (hw : Mid v w') : Ph ia ib Pre Mid Fin (updL L ia) (updV vals ia v) w' := by
  have hb : L ib = false := by cases hb : L ib with | false => rfl | true => rw [h.ord hb] at hl; cases hl
  refine ⟨fun h3 => ?_, fun _ _ => ?_, fun h3 => ?_, fun _ => updL_self _ _⟩
  · rw [updL_self] at h3; cases h3
  · rw [updV_self]; exact hw
  · rw [updL_ne (Ne.symm hne), hb] at h3; cases h3
theorem Ph.last {ia ib : Nat} {Pre : World → Prop} {Mid Fin : Value → World → Prop} {L : Nat → Bool} {vals : Nat → Value} {w' : World} (hl : L ia = true) (hne : ia ≠ ib) (v : Value) (hw : Fin (vals ia) w') : Ph ia ib Pre Mid Fin (updL L ib) (updV vals ib v) w' := by
  refine ⟨fun h3 => ?_, fun _ h4 => ?_, fun _ => ?_, fun _ => ?_⟩
  · rw [updL_ne hne, hl] at h3; cases h3
  · rw [updL_self] at h4; cases h4
  · rw [updV_ne hne]; exact hw
  · rw [updL_ne hne]; exact hl
theorem Ph.mono {ia ib : Nat} {Pre : World → Prop} {Mid Fin : Value → World → Prop} {L : Nat → Bool} {vals : Nat → Value} {w w' : World} (h : Ph ia ib Pre Mid Fin L vals w) {i : Nat} (h1 : i ≠ ia) (h2 : i ≠ ib) (v : Value) (k1 : Pre w → Pre w') (k2 : ∀ x, Mid x w → Mid x w') (k3 : ∀ x, Fin x w → Fin x w') : Ph ia ib Pre Mid Fin (updL L i) (updV vals i v) w' := by
  refine ⟨fun h3 => ?_, fun h3 h4 => ?_, fun h3 => ?_, fun h3 => ?_⟩
  · rw [updL_ne (Ne.symm h1)] at h3; exact k1 (h.pre h3)
  · rw [updL_ne (Ne.symm h1)] at h3; rw [updL_ne (Ne.symm h2)] at h4; rw [updV_ne (Ne.symm h1)]; exact k2 _ (h.mid h3 h4)
  · rw [updL_ne (Ne.symm h2)] at h3; rw [updV_ne (Ne.symm h1)]; exact k3 _ (h.fin h3)
  · rw [updL_ne (Ne.symm h2)] at h3; rw [updL_ne (Ne.symm h1)]; exact h.ord h3
theorem Ph.done {ia ib : Nat} {Pre : World → Prop} {Mid Fin : Value → World → Prop} {L : Nat → Bool} {vals : Nat → Value} {w' : World} (hb : L ib = true) (ha : L ia = true) {i : Nat} (h1 : i ≠ ia) (h2 : i ≠ ib) (v : Value) (hw : Fin (vals ia) w') : Ph ia ib Pre Mid Fin (updL L i) (updV vals i v) w' := by
  refine ⟨fun h3 => ?_, fun _ h4 => ?_, fun _ => ?_, fun _ => ?_⟩
  · rw [updL_ne (Ne.symm h1), ha] at h3; cases h3
  · rw [updL_ne (Ne.symm h2), hb] at h4; cases h4
  · rw [updV_ne (Ne.symm h1)]; exact hw
  · rw [updL_ne (Ne.symm h1)]; exact ha
theorem goesV_value {P : Program} {o : Oper} {a : Act} {w : World} {v : Value} {K : Value → World → Prop} {Q : Exit → Act → World → Prop} (h : (execOp a.eval o).run P w = .ok (.value v) w) (hv : K v w) : o.wp P a w (fun a' w' => ∃ v, a' = a.put o.dst v ∧ K v w') Q := by
  unfold Oper.wp
  rw [h]
  exact ⟨v, rfl, hv⟩
theorem goesV_world {P : Program} {o : Oper} {a : Act} {w w1 : World} {v : Value} {K : Value → World → Prop} {Q : Exit → Act → World → Prop} (h : (execOp a.eval o).run P w = .ok (.value v) w1) (hv : K v w1) : o.wp P a w (fun a' w' => ∃ v, a' = a.put o.dst v ∧ K v w') Q := by
  unfold Oper.wp
  rw [h]
  exact ⟨v, rfl, hv⟩
theorem goesV_skip {P : Program} {o : Oper} {a : Act} {w w1 : World} {K : Value → World → Prop} {Q : Exit → Act → World → Prop} (h : (execOp a.eval o).run P w = .ok .skip w1) (hv : K undef w1) : o.wp P a w (fun a' w' => ∃ v, a' = a.put o.dst v ∧ K v w') Q := by
  unfold Oper.wp
  rw [h]
  exact ⟨undef, rfl, hv⟩
theorem goesV_call {P : Program} {o : Oper} {a : Act} {w : World} {f : FuncId} {args : Array Value} {K : Value → World → Prop} {Q : Exit → Act → World → Prop} (h : (execOp a.eval o).run P w = .ok (.enter f args) w) (hc : Calls P f args w fun e w' => ∃ v, e = .returned v ∧ K v w') : o.wp P a w (fun a' w' => ∃ v, a' = a.put o.dst v ∧ K v w') Q := by
  unfold Oper.wp
  rw [h]
  exact hc.mono fun e w' ⟨v, he, h1⟩ => by subst he; exact ⟨v, rfl, h1⟩
theorem AllV.fix {cs : List (Option Value)} {L : Nat → Bool} {vals : Nat → Value} (h : AllV cs L vals) {i : Nat} {v : Value} (hi : cs[i]? = some (some v)) : AllV cs (updL L i) (updV vals i v) :=
  h.upd fun c hc => by rw [hi] at hc; exact Option.some.inj (Option.some.inj hc)
theorem AllV.free {cs : List (Option Value)} {L : Nat → Bool} {vals : Nat → Value} (h : AllV cs L vals) {i : Nat} {v : Value} (hi : cs[i]? = some none) : AllV cs (updL L i) (updV vals i v) :=
  h.upd fun c hc => by rw [hi] at hc; cases hc
theorem AllV.at {cs : List (Option Value)} {L : Nat → Bool} {vals : Nat → Value} (h : AllV cs L vals) {j : Nat} {c x : Value} (hj : cs[j]? = some (some c)) (hd : L j = true ∧ x = vals j) : x = c := hd.2.trans (h j c hj hd.1)
theorem goesV_append {P : Program} {w : World} {o : Oper} {a : Act} {K : Value → World → Prop} {Q : Exit → Act → World → Prop} (s x : Operand) (t : TypeId)
    (ho : o.op = .call { callee := .builtin .append, args := #[s, x], argTypes := #[t, t] })
    (base : Nat) (e : TypeId) (i : TypeInfo) (z : Value) (size bytes : Nat) (ht : P.underlying t = some (.slice e)) (hi : P.info? e = some i) (hz : i.zero = some z)
    (hsize : i.size = size) (hby : i.bytes = bytes) (hzs : z.cells.size = size) (hsz : 0 < size)
    (v : Value) (n : Nat) (xs : List Value) (hs : a.eval s = v) (hown : w.ownsRow base e size v n xs)
    (ad : Addr) (m cap : Nat) (news : List Value) (hx : a.eval x = .slice (some ad) m cap) (hlen : news.length = m * size) (hnews : ∀ j u, news[j]? = some u → w.cell? (ad.add j) = some u) (h1 : ∀ u ∈ news, u.oneCell' = true)
    (h63 : n + m ≤ maxLen) (hbytes : (n + m) * bytes ≤ 140737488355328) (hbase : base ≤ w.heap.size)
    (h : ∀ v' w', w'.ownsRow base e size v' (n + m) (xs ++ news) → w.grownBy w' v.ownBlock → MovedTo w v v' → K v' w') : o.wp P a w (fun a' w' => ∃ v, a' = a.put o.dst v ∧ K v w') Q := by
  obtain ⟨v', w', hrun, h2, h3, h4⟩ := run_append_row (P := P) w base t o.type e i z size bytes ht hi hz hsize hby hzs hsz v n xs hown ad m cap news hlen hnews h1 h63 hbytes hbase
  unfold Oper.wp execOp
  simp only [ho, resolve, invoke, builtin, Sem.run_bind, Sem.run_pure, Result.andThen_ok, List.map_toArray, List.map_cons, List.map_nil, hs, hx, hrun]
  exact ⟨v', rfl, h v' w' h2 h3 h4⟩
end Go.Proofs.YtbfcbicbeagjkaaDoor
